/- items: their order (package item). -/
import Derived.Test.YtegekenkfomlbaaRxQ
import Derived.Test.YtegekenkfomlbaaWvMk
namespace Go.Proofs.Ytegekenkfomlbaa.Wv
open Go.Proofs.Ytegekenkfomlbaa.Rx
set_option linter.unusedVariables false
set_option linter.unusedSimpArgs false
set_option maxRecDepth 100000
def nanP {R : Type} : Prim R := fun args hh => match args, hh with
  | [.int .i64 a], [] => some ⟨True, .bool false, none, hh, [], []⟩
  | _, _ => none
theorem nan_ok {R : Type} {D : Res R} : ConOk D Try.prog 72 (con1 nanP) := by
  refine con1_ok (prim_at (fn := Try.f72) (root := codeOf Try.f72) (by kernel_rfl) (by kernel_rfl) (by kernel_rfl) fun args hh x hx => ?_)
  unfold nanP at hx
  split at hx
  · rename_i a
    injection hx with hx
    subst hx
    refine ⟨by first | exact Nat.le_refl _ | exact Nat.zero_le _ | exact Nat.le_succ _ | exact Nat.le_add_left 1 3 | exact Nat.le_add_left 2 2 | exact Nat.le_add_left 1 2, noLit rfl, (fun hw => by first | rfl | cases hw), fun _ hv => ?_⟩
    generalize hG : Rx.Ends (R := R) _ _ = G
    refine rx_okQ (T := []) trivial mixed 200 (q := Post (G (Value.bool (a != a)) [])) ?_ (by kernel_rfl)
    subst hG
    repeat' (first | apply And.intro | apply Vc.mk | apply fits.mk | intro h | apply Post.mk)
    all_goals (try simp only [decide_eq_true_eq, decide_eq_false_iff_not, Nat.zero_add, ge_iff_le, Int.not_le, Int.not_lt, Int.toNat_natCast, beq_iff_eq, beq_eq_false_iff_ne, bne_iff_ne, bne_eq_false_iff_eq, Bool.not_eq_true', Bool.not_eq_false'] at *)
    all_goals first | contradiction | omega | (apply congrArg Value.bool; assumption) | exact congrArg Value.bool (decide_eq_true (by assumption)) | exact congrArg Value.bool (decide_eq_false (Int.not_lt.mpr (by assumption))) | exact ⟨rfl, by omega⟩ | exact rfl | (simp [*, -List.getD_eq_getElem?_getD]; done) | skip
    rw [show (a != a) = false by simp]
    exact ⟨[], rfl, rfl, trivial, rfl, rfl, rfl, rfl⟩
  · cases hx
def TNan {R : Type} : Tab R := [(72, liftC zN 2 (con1 nanP))]
theorem TNan_ok {R : Type} {D : Res R} : TabOk D Try.prog (TNan : Tab R) := ⟨liftC_ok _ _ nan_ok, trivial⟩
def ccmpP {R : Type} : Prim R := fun args hh => match args, hh with
  | [.int .i64 a, .int .i64 b], [] => some ⟨True, .int .i64 (c64 a b), none, hh, [], []⟩
  | _, _ => none
theorem ccmp_ok {R : Type} {D : Res R} : ConOk D Try.prog 69 (con1 ccmpP) := by
  refine con1_ok (prim_at (fn := Try.f69) (root := codeOf Try.f69) (by kernel_rfl) (by kernel_rfl) (by kernel_rfl) fun args hh x hx => ?_)
  unfold ccmpP at hx
  split at hx
  · rename_i a b
    injection hx with hx
    subst hx
    refine ⟨by first | exact Nat.le_refl _ | exact Nat.zero_le _ | exact Nat.le_succ _ | exact Nat.le_add_left 1 3 | exact Nat.le_add_left 2 2 | exact Nat.le_add_left 1 2, noLit rfl, (fun hw => by first | rfl | cases hw), fun _ hv => ?_⟩
    generalize hG : Rx.Ends (R := R) _ _ = G
    refine rx_okQ (T := TNan) TNan_ok mixed 200 (q := let zz1 := Value.int IntKind.i64; Vc True ∧ Vc True ∧ (false = true → (false = true → Post (G (zz1 0) [])) ∧ (false = false → Post (G (zz1 (-1 : Int)) []))) ∧ (false = false → (false = true → Post (G (zz1 1) [])) ∧ (false = false → (decide (a < b) = true → Post (G (zz1 (-1 : Int)) [])) ∧ (decide (a < b) = false → (decide (a > b) = true → Post (G (zz1 1) [])) ∧ (decide (a > b) = false → Post (G (zz1 0) [])))))) ?_ (by kernel_rfl)
    intro zz1; subst zz1
    have fin : ∀ (t : Int) (hp : Hp R), t = c64 a b → G (.int .i64 t) hp := by
      intro t hp ht
      subst ht
      subst hG
      exact ⟨⟨[], rfl, rfl, trivial, rfl, rfl, rfl, rfl⟩⟩
    clear hG
    repeat' (first | apply And.intro | apply Vc.mk | apply fits.mk | intro h | apply Post.mk)
    all_goals (try simp only [decide_eq_true_eq, decide_eq_false_iff_not, Nat.zero_add, ge_iff_le, Int.not_le, Int.not_lt, Int.toNat_natCast, beq_iff_eq, beq_eq_false_iff_ne, bne_iff_ne, bne_eq_false_iff_eq, Bool.not_eq_true', Bool.not_eq_false'] at *)
    all_goals first | contradiction | omega | (apply congrArg Value.bool; assumption) | exact congrArg Value.bool (decide_eq_true (by assumption)) | exact congrArg Value.bool (decide_eq_false (Int.not_lt.mpr (by assumption))) | exact ⟨rfl, by omega⟩ | exact rfl | (simp [*, -List.getD_eq_getElem?_getD]; done) | skip
    · have h : a < b := by assumption
      exact fin _ _ (by rw [c64, if_pos h])
    · have h2 : a > b := by assumption
      exact fin _ _ (by rw [c64, if_neg (by omega), if_pos h2])
    · exact fin _ _ (by rw [c64, if_neg (by omega), if_neg (by omega)])
  · cases hx
/-- the first of two that isn't 0 -/
def or2 (a b : Int) : Int := if a ≠ 0 then a else b
def corP {R : Type} : Prim R := fun args hh => match args, hh with
  | [.slice (some ⟨0, 0, some 1000⟩) n c], [some (.inr (.inr (.inl ⟨[.int .i64 0], n', [⟨[a, b], [], []⟩]⟩)))] => some ⟨n = 2 ∧ n' = 2, .int .i64 (or2 a b), none, hh, [], []⟩
  | _, _ => none
theorem cor_ok {R : Type} {D : Res R} : ConOk D Try.prog 80 (con1 corP) := by
  refine con1_ok (prim_at (fn := Try.f80) (root := codeOf Try.f80) (by kernel_rfl) (by kernel_rfl) (by kernel_rfl) fun args hh x hx => ?_)
  unfold corP at hx
  split at hx
  · rename_i n c n' a b
    injection hx with hx
    subst hx
    refine ⟨by first | exact Nat.le_refl _ | exact Nat.zero_le _ | exact Nat.le_succ _ | exact Nat.le_add_left 1 3 | exact Nat.le_add_left 2 2 | exact Nat.le_add_left 1 2, noLit rfl, (fun hw => by first | rfl | cases hw), fun _ hv => ?_⟩
    obtain ⟨rfl, rfl⟩ := hv
    generalize hG : Rx.Ends (R := R) _ _ = G
    refine rx_okQ (T := []) trivial mixed 200 (q := let zz1 := Value.int IntKind.i64; At D Try.prog (codeOf Try.f80) 1 (retK Try.prog (Array.toList (Func.results Try.f80)) G) [Sum.inl [1, 1, 0, 1, 0], Sum.inr (Sum.inl 0), Sum.inl [1, 1, 1]] (SS.mk [some (Value.slice (some (Addr.mk 0 0 (some 1000))) 2 c), none, some (zz1 0), some (zz1 0), none, none, some (Value.slice (some (Addr.mk 0 0 (some 1000))) 2 c), some (zz1 2), some (zz1 0), none, none, none, none, none, none, none, none, none] [] [some (Sum.inr (Sum.inr (Sum.inl (Row.mk [zz1 0] 2 [Col.mk [a, b] [] []]))))])) ?_ (by kernel_rfl)
    intro zz1; subst zz1
    refine loop_atM (by kernel_rfl) (ι := Nat) (fun x => x ≤ 2 ∧ (1 ≤ x → a = 0) ∧ (2 ≤ x → b = 0)) [2, 3, 6, 7, 8] (fun x => [.int .i64 0, .int .i64 0, .slice (some ⟨0, 0, some 1000⟩) 2 c, .int .i64 2, .int .i64 x]) (fun x => [some (.inr (.inr (.inl ⟨[.int .i64 0], 2, [⟨[a, b], [], []⟩]⟩)))]) (fun x => 2 - x) 18 (fun x hx => ⟨rfl, rfl, by simp⟩) ⟨0, ⟨Nat.zero_le _, fun h => by omega, fun h => by omega⟩, ⟨[0], rfl, ⟨rfl, trivial⟩, rfl, rfl, rfl, rfl⟩⟩ fun x hx => ?_
    refine rx_okQ (T := []) trivial mixed 200 (q := let zz2 := Value.int IntKind.i64; let zz1 := (List.getD [a, b] (0 + Int.toNat (↑x : Int)) (0 : Int) != (0 : Int)); (decide ((↑x : Int) < (2 : Int)) = true → Vc ((0 : Int) ≤ (↑x : Int) ∧ (↑x : Int) < (2 : Int) ∧ 2 ≤ 2) ∧ Vc (0 + Int.toNat (↑x : Int) < 2) ∧ (zz1 = true → Post (G (zz2 (List.getD [a, b] (0 + Int.toNat (↑x : Int)) (0 : Int))) [some (Sum.inr (Sum.inr (Sum.inl (Row.mk [zz2 0] 2 [Col.mk [a, b] [] []]))))])) ∧ (zz1 = false → Vc (fits ((↑x : Int) + (1 : Int))) ∧ Post (∃ j, (j ≤ 2 ∧ (1 ≤ j → a = (0 : Int)) ∧ (2 ≤ j → b = (0 : Int))) ∧ 2 - j < 2 - x ∧ FitsM R 1 18 [2, 3, 6, 7, 8] [zz2 0, zz2 0, Value.slice (some (Addr.mk 0 0 (some 1000))) 2 c, zz2 2, zz2 (↑j : Int)] [some (Sum.inr (Sum.inr (Sum.inl (Row.mk [zz2 0] 2 [Col.mk [a, b] [] []]))))] [some (zz2 0), some (zz2 0), some (Value.slice (some (Addr.mk 0 0 (some 1000))) 2 c), some (zz2 2), some (zz2 ((↑x : Int) + (1 : Int)))] [some (Sum.inr (Sum.inr (Sum.inl (Row.mk [zz2 0] 2 [Col.mk [a, b] [] []]))))] 18))) ∧ (decide ((↑x : Int) < (2 : Int)) = false → Post (G (zz2 0) [some (Sum.inr (Sum.inr (Sum.inl (Row.mk [zz2 0] 2 [Col.mk [a, b] [] []]))))]))) ?_ (by kernel_rfl)
    intro zz2 zz1; subst zz1 zz2
    obtain ⟨h1, h2, h3⟩ := hx
    have fin : ∀ (t : Int) (rest : Hp R), t = or2 a b → G (.int .i64 t) ([some (.inr (.inr (.inl ⟨[.int .i64 0], 2, [⟨[a, b], [], []⟩]⟩)))] ++ rest) := by
      intro t hp ht
      subst ht
      subst hG
      exact ⟨⟨[0], rfl, rfl, ⟨rfl, trivial⟩, rfl, rfl, rfl, rfl⟩⟩
    clear hG
    rcases (show x = 0 ∨ x = 1 ∨ x = 2 by omega) with e | e | e <;> subst e
    · have g0 : [a, b].getD (0 + ((0 : Nat) : Int).toNat) 0 = a := rfl
      rw [g0]
      repeat' (first | apply And.intro | apply Vc.mk | apply fits.mk | intro h | apply Post.mk)
      all_goals (try simp only [decide_eq_true_eq, decide_eq_false_iff_not, Nat.zero_add, ge_iff_le, Int.not_le, Int.not_lt, Int.toNat_natCast, beq_iff_eq, beq_eq_false_iff_ne, bne_iff_ne, bne_eq_false_iff_eq, Bool.not_eq_true', Bool.not_eq_false'] at *)
      all_goals first | contradiction | omega | (apply congrArg Value.bool; assumption) | exact congrArg Value.bool (decide_eq_true (by assumption)) | exact congrArg Value.bool (decide_eq_false (Int.not_lt.mpr (by assumption))) | exact ⟨rfl, by omega⟩ | exact rfl | (simp [*, -List.getD_eq_getElem?_getD]; done) | skip
      · have h : a ≠ 0 := by assumption
        exact fin _ [] (by rw [or2, if_pos h])
      · have h : a = 0 := by assumption
        exact ⟨1, ⟨by omega, fun _ => h, fun h => by omega⟩, by omega, ⟨[0], rfl, ⟨rfl, trivial⟩, rfl, rfl, rfl, rfl⟩⟩
    · have g0 : [a, b].getD (0 + ((1 : Nat) : Int).toNat) 0 = b := rfl
      rw [g0]
      have h0 := h2 (Nat.le_refl _)
      repeat' (first | apply And.intro | apply Vc.mk | apply fits.mk | intro h | apply Post.mk)
      all_goals (try simp only [decide_eq_true_eq, decide_eq_false_iff_not, Nat.zero_add, ge_iff_le, Int.not_le, Int.not_lt, Int.toNat_natCast, beq_iff_eq, beq_eq_false_iff_ne, bne_iff_ne, bne_eq_false_iff_eq, Bool.not_eq_true', Bool.not_eq_false'] at *)
      all_goals first | contradiction | omega | (apply congrArg Value.bool; assumption) | exact congrArg Value.bool (decide_eq_true (by assumption)) | exact congrArg Value.bool (decide_eq_false (Int.not_lt.mpr (by assumption))) | exact ⟨rfl, by omega⟩ | exact rfl | (simp [*, -List.getD_eq_getElem?_getD]; done) | skip
      · exact fin _ [] (by rw [or2, if_neg (by omega)])
      · have h : b = 0 := by assumption
        exact ⟨2, ⟨by omega, fun _ => h0, fun _ => h⟩, by omega, ⟨[0], rfl, ⟨rfl, trivial⟩, rfl, rfl, rfl, rfl⟩⟩
    · have h0 := h2 (by omega)
      have h1 := h3 (by omega)
      repeat' (first | apply And.intro | apply Vc.mk | apply fits.mk | intro h | apply Post.mk)
      all_goals (try simp only [decide_eq_true_eq, decide_eq_false_iff_not, Nat.zero_add, ge_iff_le, Int.not_le, Int.not_lt, Int.toNat_natCast, beq_iff_eq, beq_eq_false_iff_ne, bne_iff_ne, bne_eq_false_iff_eq, Bool.not_eq_true', Bool.not_eq_false'] at *)
      all_goals first | contradiction | omega | (apply congrArg Value.bool; assumption) | exact congrArg Value.bool (decide_eq_true (by assumption)) | exact congrArg Value.bool (decide_eq_false (Int.not_lt.mpr (by assumption))) | exact ⟨rfl, by omega⟩ | exact rfl | (simp [*, -List.getD_eq_getElem?_getD]; done) | skip
      all_goals first | (exfalso; omega) | skip
      exact fin _ [] (by rw [or2, if_neg (by omega), h1])
  · cases hx
def z0 : Nat → Bool := fun j => Nat.beq j 0
def TCm {R : Type} : Tab R := [(69, liftC zN 2 (con1 ccmpP)), (80, liftV z0 2 (con1 corP))]
theorem TCm_ok {R : Type} {D : Res R} : TabOk D Try.prog (TCm : Tab R) := ⟨liftC_ok _ _ ccmp_ok, liftV_ok _ _ cor_ok, trivial⟩
theorem icmp_or (a b c d : Int) : or2 (c64 a c) (c64 b d) = icmp ⟨a, b⟩ ⟨c, d⟩ := by
  unfold or2 c64 icmp
  simp only
  repeat' split
  all_goals omega
def icmP {R : Type} : Prim R := fun args hh => match args, hh with
  | [.agg ⟨[.int .i64 a, .int .i64 b]⟩, .agg ⟨[.int .i64 c, .int .i64 d]⟩], [] => some ⟨True, .int .i64 (icmp ⟨a, b⟩ ⟨c, d⟩), none, hh, [], []⟩
  | _, _ => none
theorem icm_ok {R : Type} {D : Res R} : ConOk D Try.prog 79 (con1 icmP) := by
  refine con1_ok (prim_at (fn := Try.f79) (root := codeOf Try.f79) (by kernel_rfl) (by kernel_rfl) (by kernel_rfl) fun args hh x hx => ?_)
  unfold icmP at hx
  split at hx
  · rename_i a b c d
    injection hx with hx
    subst hx
    refine ⟨by first | exact Nat.le_refl _ | exact Nat.zero_le _ | exact Nat.le_succ _ | exact Nat.le_add_left 1 3 | exact Nat.le_add_left 2 2 | exact Nat.le_add_left 1 2, noLit rfl, (fun hw => by first | rfl | cases hw), fun _ hv => ?_⟩
    generalize hG : Rx.Ends (R := R) _ _ = G
    refine rx_okQ (T := TCm) TCm_ok mixed 200 (q := let zz1 := Value.int IntKind.i64; Vc True ∧ Vc True ∧ Vc ((2 ≤ 2 ∧ True) ∧ 2 = 2 ∧ 2 = 2) ∧ Post (G (zz1 (or2 (c64 a c) (c64 b d))) [some (Sum.inl (36, [zz1 a, zz1 b])), some (Sum.inl (36, [zz1 c, zz1 d])), some (Sum.inr (Sum.inl (3, Row.mk [zz1 0] 2 [Col.mk [c64 a c, c64 b d] [] []])))])) ?_ (by kernel_rfl)
    intro zz1; subst zz1
    subst hG
    simp only [← icmp_or]
    repeat' (first | apply And.intro | apply Vc.mk | apply fits.mk | intro h | apply Post.mk)
    all_goals (try simp only [decide_eq_true_eq, decide_eq_false_iff_not, Nat.zero_add, ge_iff_le, Int.not_le, Int.not_lt, Int.toNat_natCast, beq_iff_eq, beq_eq_false_iff_ne, bne_iff_ne, bne_eq_false_iff_eq, Bool.not_eq_true', Bool.not_eq_false'] at *)
    all_goals first | contradiction | omega | (apply congrArg Value.bool; assumption) | exact congrArg Value.bool (decide_eq_true (by assumption)) | exact congrArg Value.bool (decide_eq_false (Int.not_lt.mpr (by assumption))) | exact ⟨rfl, by omega⟩ | exact rfl | (simp [*, -List.getD_eq_getElem?_getD]; done) | skip
    exact ⟨[], rfl, rfl, trivial, rfl, rfl, rfl, rfl⟩
  · cases hx
def TCc {R : Type} : Tab R := [(69, liftC zN 2 (con1 ccmpP))]
theorem TCc_ok {R : Type} {D : Res R} : TabOk D Try.prog (TCc : Tab R) := ⟨liftC_ok _ _ ccmp_ok, trivial⟩
end Go.Proofs.Ytegekenkfomlbaa.Wv
