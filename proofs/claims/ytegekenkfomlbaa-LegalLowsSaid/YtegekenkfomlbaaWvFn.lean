/- wave: what it calls. -/
import Derived.Test.YtegekenkfomlbaaRxQ
import Derived.Test.YtegekenkfomlbaaItFn
import Derived.Test.YtegekenkfomlbaaWvSw
namespace Go.Proofs.Ytegekenkfomlbaa.Wv
open Go.Proofs.Ytegekenkfomlbaa.Rx
set_option linter.unusedVariables false
set_option linter.unusedSimpArgs false
set_option maxRecDepth 100000
def TPl {R : Type} : Tab R := [(74, liftC zN 2 (con1 Ti.plusP))]
theorem TPl_ok {R : Type} {D : Res R} : TabOk D Try.prog TPl := ⟨liftC_ok _ _ Ti.plus_ok, trivial⟩
/-- of one number, whatever it is -/
def of1P {R : Type} : Prim R := fun args hh => match args, hh with
  | [.slice (some ⟨0, 0, some 1000⟩) n c], [some (.inr (.inr (.inl ⟨[.int .i64 0], n', [⟨[w], [], []⟩]⟩)))] => some ⟨n = 1 ∧ n' = 1, .agg ⟨[.int .i64 1, .int .i64 w, .int .i64 w]⟩, none, hh, [], []⟩
  | _, _ => none
theorem of1_ok {R : Type} {D : Res R} : ConOk D Try.prog 73 (con1 of1P) := by
  refine con1_ok (prim_at (fn := Try.f73) (root := codeOf Try.f73) (by kernel_rfl) (by kernel_rfl) (by kernel_rfl) fun args hh x hx => ?_)
  unfold of1P at hx
  split at hx
  · rename_i n c n' w
    injection hx with hx
    subst hx
    refine ⟨by first | exact Nat.le_refl _ | exact Nat.zero_le _ | exact Nat.le_succ _ | exact Nat.le_add_left 1 3 | exact Nat.le_add_left 2 2 | exact Nat.le_add_left 1 2, noLit rfl, (fun hw => by first | rfl | cases hw), fun _ hv => ?_⟩
    obtain ⟨rfl, rfl⟩ := hv
    generalize hG : Rx.Ends (R := R) _ _ = G
    refine rx_okQ (T := TPl) TPl_ok mixed 200 (q := let zz1 := Value.int IntKind.i64; At D Try.prog (codeOf Try.f73) 1 (retK Try.prog (Array.toList (Func.results Try.f73)) G) [Sum.inl [1, 1, 0, 1, 0], Sum.inr (Sum.inl 0), Sum.inl [1, 1, 1]] (SS.mk [some (Value.slice (some (Addr.mk 0 0 (some 1000))) 1 c), none, some (Value.pointer (some (Addr.mk 1 0 none))), some (Value.pointer (some (Addr.mk 2 0 none))), none, none, some (Value.slice (some (Addr.mk 0 0 (some 1000))) 1 c), some (zz1 1), some (zz1 0), none, none, none, none, none, none, none, none, none, none] [] [some (Sum.inr (Sum.inr (Sum.inl (Row.mk [zz1 0] 1 [Col.mk [w] [] []])))), some (Sum.inl (48, [zz1 0, zz1 0, zz1 0])), some (Sum.inl (48, [zz1 0, zz1 0, zz1 0]))])) ?_ (by kernel_rfl)
    intro zz1; subst zz1
    refine loop_atM (by kernel_rfl) (ι := Nat × Ti.Td) (fun x => x.1 ≤ 1 ∧ x.2 = if x.1 = 0 then ⟨0, 0, 0⟩ else ⟨1, w, w⟩) [2, 3, 6, 7, 8] (fun x => [.pointer (some ⟨1, 0, none⟩), .pointer (some ⟨2, 0, none⟩), .slice (some ⟨0, 0, some 1000⟩) 1 c, .int .i64 1, .int .i64 x.1]) (fun x => [some (.inr (.inr (.inl ⟨[.int .i64 0], 1, [⟨[w], [], []⟩]⟩))), some (.inl (48, [.int .i64 0, .int .i64 0, .int .i64 0])), some (.inl (48, [.int .i64 x.2.n, .int .i64 x.2.s, .int .i64 x.2.l]))]) (fun x => 1 - x.1) 19 (fun x hx => ⟨rfl, rfl, by simp⟩) ⟨(0, ⟨0, 0, 0⟩), ⟨Nat.zero_le _, rfl⟩, ⟨[0, 1, 2], rfl, ⟨rfl, .inl rfl, .inl rfl, trivial⟩, rfl, rfl, rfl, rfl⟩⟩ fun x hx => ?_
    refine rx_okQ (T := TPl) TPl_ok mixed 200 (q := let zz3 := Value.int IntKind.i64; let zz1 := (↑(Prod.fst x) : Int); let zz2 := (Ti.Td.plus (Prod.snd x) (Ti.Td.mk (1 : Int) (List.getD [w] (0 + Int.toNat zz1) (0 : Int)) (List.getD [w] (0 + Int.toNat zz1) (0 : Int)))); (decide (zz1 < (1 : Int)) = true → Vc ((0 : Int) ≤ zz1 ∧ zz1 < (1 : Int) ∧ 1 ≤ 1) ∧ Vc (0 + Int.toNat zz1 < 1) ∧ Vc True ∧ Vc (fits (zz1 + (1 : Int))) ∧ Post (∃ j, (Prod.fst j ≤ 1 ∧ Prod.snd j = if Prod.fst j = 0 then Ti.Td.mk (0 : Int) (0 : Int) (0 : Int) else Ti.Td.mk (1 : Int) w w) ∧ 1 - Prod.fst j < 1 - Prod.fst x ∧ FitsM R 1 19 [2, 3, 6, 7, 8] [Value.pointer (some (Addr.mk 1 0 none)), Value.pointer (some (Addr.mk 2 0 none)), Value.slice (some (Addr.mk 0 0 (some 1000))) 1 c, zz3 1, zz3 (↑(Prod.fst j) : Int)] [some (Sum.inr (Sum.inr (Sum.inl (Row.mk [zz3 0] 1 [Col.mk [w] [] []])))), some (Sum.inl ((48 : TypeId), [zz3 0, zz3 0, zz3 0])), some (Sum.inl ((48 : TypeId), [zz3 (Ti.Td.n (Prod.snd j)), zz3 (Ti.Td.s (Prod.snd j)), zz3 (Ti.Td.l (Prod.snd j))]))] [some (Value.pointer (some (Addr.mk 1 0 none))), some (Value.pointer (some (Addr.mk 2 0 none))), some (Value.slice (some (Addr.mk 0 0 (some 1000))) 1 c), some (zz3 1), some (zz3 (zz1 + (1 : Int)))] [some (Sum.inr (Sum.inr (Sum.inl (Row.mk [zz3 0] 1 [Col.mk [w] [] []])))), some (Sum.inl (48, [zz3 0, zz3 0, zz3 0])), some (Sum.inl (48, [zz3 (Ti.Td.n zz2), zz3 (Ti.Td.s zz2), zz3 (Ti.Td.l zz2)]))] 19)) ∧ (decide (zz1 < (1 : Int)) = false → Post (G (Value.agg (Array.mk [zz3 (Ti.Td.n (Prod.snd x)), zz3 (Ti.Td.s (Prod.snd x)), zz3 (Ti.Td.l (Prod.snd x))])) [some (Sum.inr (Sum.inr (Sum.inl (Row.mk [zz3 0] 1 [Col.mk [w] [] []])))), some (Sum.inl (48, [zz3 (Ti.Td.n (Prod.snd x)), zz3 (Ti.Td.s (Prod.snd x)), zz3 (Ti.Td.l (Prod.snd x))])), some (Sum.inl (48, [zz3 (Ti.Td.n (Prod.snd x)), zz3 (Ti.Td.s (Prod.snd x)), zz3 (Ti.Td.l (Prod.snd x))]))]))) ?_ (by kernel_rfl)
    intro zz3 zz1 zz2; subst zz2 zz1 zz3
    obtain ⟨i, t⟩ := x
    obtain ⟨h1, h2⟩ := hx
    rcases (show i = 0 ∨ i = 1 by omega) with hi | hi
    · have ht : t = ⟨0, 0, 0⟩ := h2.trans (if_pos hi)
      rw [hi, ht]
      refine ⟨fun h => ⟨⟨by omega, by omega, Nat.le_refl _⟩, ⟨Nat.zero_lt_one⟩, ⟨trivial⟩, ⟨⟨by omega, by omega⟩⟩, ⟨(1, ⟨1, w, w⟩), ⟨Nat.le_refl _, rfl⟩, Nat.zero_lt_one, ⟨[0, 1, 2], rfl, ⟨rfl, .inl rfl, .inl rfl, trivial⟩, rfl, rfl, rfl, rfl⟩⟩⟩, fun h => by simp at h⟩
    · have ht : t = ⟨1, w, w⟩ := h2.trans (if_neg (show ¬ i = 0 by omega))
      rw [hi, ht]
      refine ⟨fun h => by simp at h, fun h => ⟨?_⟩⟩
      subst hG
      exact ⟨⟨[0], rfl, rfl, ⟨rfl, trivial⟩, rfl, rfl, rfl, rfl⟩⟩
  · cases hx
def TOf {R : Type} : Tab R := [(73, liftV z0 2 (con1 of1P))]
theorem TOf_ok {R : Type} {D : Res R} : TabOk D Try.prog (TOf : Tab R) := ⟨liftV_ok _ _ of1_ok, trivial⟩
def insdP {R : Type} : Prim R := fun args hh => match args, hh with
  | [.agg ⟨[.int .i64 a, .int .i64 b]⟩, .bool hr], [] => some ⟨True, .agg ⟨[.int .i64 (insS ⟨a, b⟩ hr).c.n, .int .i64 (insS ⟨a, b⟩ hr).c.s, .int .i64 (insS ⟨a, b⟩ hr).c.l, .int .i64 (insS ⟨a, b⟩ hr).w.n, .int .i64 (insS ⟨a, b⟩ hr).w.s, .int .i64 (insS ⟨a, b⟩ hr).w.l, .int .i64 (insS ⟨a, b⟩ hr).d, .int .i64 (insS ⟨a, b⟩ hr).f, .int .i64 (insS ⟨a, b⟩ hr).m.k, .int .i64 (insS ⟨a, b⟩ hr).m.i, .bool (insS ⟨a, b⟩ hr).gf, .int .i64 (insS ⟨a, b⟩ hr).g.k, .int .i64 (insS ⟨a, b⟩ hr).g.i, .bool (insS ⟨a, b⟩ hr).lf, .int .i64 (insS ⟨a, b⟩ hr).l.k, .int .i64 (insS ⟨a, b⟩ hr).l.i]⟩, none, hh, [], []⟩
  | _, _ => none
theorem insd_ok {R : Type} {D : Res R} : ConOk D Try.prog 70 (con1 insdP) := by
  refine con1_ok (prim_at (fn := Try.f70) (root := codeOf Try.f70) (by kernel_rfl) (by kernel_rfl) (by kernel_rfl) fun args hh x hx => ?_)
  unfold insdP at hx
  split at hx
  · rename_i a b hr
    injection hx with hx
    subst hx
    refine ⟨by first | exact Nat.le_refl _ | exact Nat.zero_le _ | exact Nat.le_succ _ | exact Nat.le_add_left 1 3 | exact Nat.le_add_left 2 2 | exact Nat.le_add_left 1 2, noLit rfl, (fun hw => by first | rfl | cases hw), fun _ hv => ?_⟩
    generalize hG : Rx.Ends (R := R) _ _ = G
    refine rx_okQ (T := TOf) TOf_ok mixed 200 (q := let zz1 := Value.int IntKind.i64; (hr = true → Vc ((1 ≤ 1 ∧ True) ∧ 1 = 1 ∧ 1 = 1) ∧ Vc ((1 ≤ 1 ∧ True) ∧ 1 = 1 ∧ 1 = 1) ∧ Post (G (Value.agg (Array.mk [zz1 1, zz1 1, zz1 1, zz1 1, zz1 0, zz1 0, zz1 0, zz1 0, zz1 0, zz1 0, Value.bool false, zz1 0, zz1 0, Value.bool true, zz1 a, zz1 b])) [some (Sum.inl (36, [zz1 a, zz1 b])), some (Sum.inl (50, [zz1 1, zz1 1, zz1 1, zz1 1, zz1 0, zz1 0, zz1 0, zz1 0, zz1 0, zz1 0, Value.bool false, zz1 0, zz1 0, Value.bool true, zz1 a, zz1 b])), some (Sum.inl (40, [Value.bool true, zz1 a, zz1 b])), some (Sum.inr (Sum.inl (3, Row.mk [zz1 0] 1 [Col.mk [(1 : Int)] [] []]))), some (Sum.inr (Sum.inl (3, Row.mk [zz1 0] 1 [Col.mk [(0 : Int)] [] []])))])) ∧ (hr = false → Vc ((1 ≤ 1 ∧ True) ∧ 1 = 1 ∧ 1 = 1) ∧ Vc ((1 ≤ 1 ∧ True) ∧ 1 = 1 ∧ 1 = 1) ∧ Post (G (Value.agg (Array.mk [zz1 1, zz1 1, zz1 1, zz1 1, zz1 1, zz1 1, zz1 0, zz1 0, zz1 0, zz1 0, Value.bool true, zz1 a, zz1 b, Value.bool false, zz1 0, zz1 0])) [some (Sum.inl (36, [zz1 a, zz1 b])), some (Sum.inl (50, [zz1 1, zz1 1, zz1 1, zz1 1, zz1 1, zz1 1, zz1 0, zz1 0, zz1 0, zz1 0, Value.bool true, zz1 a, zz1 b, Value.bool false, zz1 0, zz1 0])), some (Sum.inl (40, [Value.bool true, zz1 a, zz1 b])), some (Sum.inr (Sum.inl (3, Row.mk [zz1 0] 1 [Col.mk [(1 : Int)] [] []]))), some (Sum.inr (Sum.inl (3, Row.mk [zz1 0] 1 [Col.mk [(1 : Int)] [] []])))]))) ?_ (by kernel_rfl)
    intro zz1; subst zz1
    have fin : ∀ (z : Sw) (hp : Hp R), z = insS ⟨a, b⟩ hr → G (.agg ⟨[.int .i64 z.c.n, .int .i64 z.c.s, .int .i64 z.c.l, .int .i64 z.w.n, .int .i64 z.w.s, .int .i64 z.w.l, .int .i64 z.d, .int .i64 z.f, .int .i64 z.m.k, .int .i64 z.m.i, .bool z.gf, .int .i64 z.g.k, .int .i64 z.g.i, .bool z.lf, .int .i64 z.l.k, .int .i64 z.l.i]⟩) hp := by
      intro z hp ht
      subst ht
      subst hG
      exact ⟨⟨[], rfl, rfl, trivial, rfl, rfl, rfl, rfl⟩⟩
    clear hG
    repeat' (first | apply And.intro | apply Vc.mk | apply fits.mk | intro h | apply Post.mk)
    all_goals (try simp only [decide_eq_true_eq, decide_eq_false_iff_not, Nat.zero_add, ge_iff_le, Int.not_le, Int.not_lt, Int.toNat_natCast, beq_iff_eq, beq_eq_false_iff_ne, bne_iff_ne, bne_eq_false_iff_eq, Bool.not_eq_true', Bool.not_eq_false'] at *)
    all_goals first | contradiction | omega | (apply congrArg Value.bool; assumption) | exact congrArg Value.bool (decide_eq_true (by assumption)) | exact congrArg Value.bool (decide_eq_false (Int.not_lt.mpr (by assumption))) | exact ⟨rfl, by omega⟩ | exact rfl | (simp [*, -List.getD_eq_getElem?_getD]; done) | skip
    · have h : hr = true := by assumption
      exact fin ⟨⟨1, 1, 1⟩, ⟨1, 0, 0⟩, 0, 0, ⟨0, 0⟩, false, ⟨0, 0⟩, true, ⟨a, b⟩⟩ _ (by rw [insS, if_pos h])
    · have h : hr = false := by assumption
      exact fin ⟨⟨1, 1, 1⟩, ⟨1, 1, 1⟩, 0, 0, ⟨0, 0⟩, true, ⟨a, b⟩, false, ⟨0, 0⟩⟩ _ (by rw [insS, if_neg (by rw [h]; decide)])
  · cases hx
def deldP {R : Type} : Prim R := fun args hh => match args, hh with
  | [.agg ⟨[.bool a, .int .i64 b, .int .i64 c]⟩], [] => some ⟨True, .agg ⟨[.int .i64 (delS a ⟨b, c⟩).c.n, .int .i64 (delS a ⟨b, c⟩).c.s, .int .i64 (delS a ⟨b, c⟩).c.l, .int .i64 (delS a ⟨b, c⟩).w.n, .int .i64 (delS a ⟨b, c⟩).w.s, .int .i64 (delS a ⟨b, c⟩).w.l, .int .i64 (delS a ⟨b, c⟩).d, .int .i64 (delS a ⟨b, c⟩).f, .int .i64 (delS a ⟨b, c⟩).m.k, .int .i64 (delS a ⟨b, c⟩).m.i, .bool (delS a ⟨b, c⟩).gf, .int .i64 (delS a ⟨b, c⟩).g.k, .int .i64 (delS a ⟨b, c⟩).g.i, .bool (delS a ⟨b, c⟩).lf, .int .i64 (delS a ⟨b, c⟩).l.k, .int .i64 (delS a ⟨b, c⟩).l.i]⟩, none, hh, [], []⟩
  | _, _ => none
theorem deld_ok {R : Type} {D : Res R} : ConOk D Try.prog 71 (con1 deldP) := by
  refine con1_ok (prim_at (fn := Try.f71) (root := codeOf Try.f71) (by kernel_rfl) (by kernel_rfl) (by kernel_rfl) fun args hh x hx => ?_)
  unfold deldP at hx
  split at hx
  · rename_i a b c
    injection hx with hx
    subst hx
    refine ⟨by first | exact Nat.le_refl _ | exact Nat.zero_le _ | exact Nat.le_succ _ | exact Nat.le_add_left 1 3 | exact Nat.le_add_left 2 2 | exact Nat.le_add_left 1 2, noLit rfl, (fun hw => by first | rfl | cases hw), fun _ hv => ?_⟩
    generalize hG : Rx.Ends (R := R) _ _ = G
    refine rx_okQ (T := TOf) TOf_ok mixed 200 (q := let zz1 := Value.int IntKind.i64; Vc ((1 ≤ 1 ∧ True) ∧ 1 = 1 ∧ 1 = 1) ∧ Vc ((1 ≤ 1 ∧ True) ∧ 1 = 1 ∧ 1 = 1) ∧ (a = true → Post (G (Value.agg (Array.mk [zz1 1, zz1 (-1 : Int), zz1 (-1 : Int), zz1 1, zz1 (-1 : Int), zz1 (-1 : Int), zz1 1, zz1 0, zz1 b, zz1 c, Value.bool false, zz1 0, zz1 0, Value.bool false, zz1 0, zz1 0])) [some (Sum.inl (40, [Value.bool a, zz1 b, zz1 c])), some (Sum.inl (50, [zz1 1, zz1 (-1 : Int), zz1 (-1 : Int), zz1 1, zz1 (-1 : Int), zz1 (-1 : Int), zz1 1, zz1 0, zz1 b, zz1 c, Value.bool false, zz1 0, zz1 0, Value.bool false, zz1 0, zz1 0])), some (Sum.inr (Sum.inl (3, Row.mk [zz1 0] 1 [Col.mk [(-1 : Int)] [] []]))), some (Sum.inr (Sum.inl (3, Row.mk [zz1 0] 1 [Col.mk [(-1 : Int)] [] []]))), some (Sum.inl (50, [zz1 1, zz1 (-1 : Int), zz1 (-1 : Int), zz1 1, zz1 (-1 : Int), zz1 (-1 : Int), zz1 1, zz1 0, zz1 b, zz1 c, Value.bool false, zz1 0, zz1 0, Value.bool false, zz1 0, zz1 0]))])) ∧ (a = false → Post (G (Value.agg (Array.mk [zz1 1, zz1 (-1 : Int), zz1 (-1 : Int), zz1 1, zz1 (-1 : Int), zz1 (-1 : Int), zz1 1, zz1 1, zz1 0, zz1 0, Value.bool false, zz1 0, zz1 0, Value.bool false, zz1 0, zz1 0])) [some (Sum.inl (40, [Value.bool a, zz1 b, zz1 c])), some (Sum.inl (50, [zz1 1, zz1 (-1 : Int), zz1 (-1 : Int), zz1 1, zz1 (-1 : Int), zz1 (-1 : Int), zz1 1, zz1 1, zz1 0, zz1 0, Value.bool false, zz1 0, zz1 0, Value.bool false, zz1 0, zz1 0])), some (Sum.inr (Sum.inl (3, Row.mk [zz1 0] 1 [Col.mk [(-1 : Int)] [] []]))), some (Sum.inr (Sum.inl (3, Row.mk [zz1 0] 1 [Col.mk [(-1 : Int)] [] []]))), some (Sum.inl (50, [zz1 1, zz1 (-1 : Int), zz1 (-1 : Int), zz1 1, zz1 (-1 : Int), zz1 (-1 : Int), zz1 1, zz1 1, zz1 0, zz1 0, Value.bool false, zz1 0, zz1 0, Value.bool false, zz1 0, zz1 0]))]))) ?_ (by kernel_rfl)
    intro zz1; subst zz1
    have fin : ∀ (z : Sw) (hp : Hp R), z = delS a ⟨b, c⟩ → G (.agg ⟨[.int .i64 z.c.n, .int .i64 z.c.s, .int .i64 z.c.l, .int .i64 z.w.n, .int .i64 z.w.s, .int .i64 z.w.l, .int .i64 z.d, .int .i64 z.f, .int .i64 z.m.k, .int .i64 z.m.i, .bool z.gf, .int .i64 z.g.k, .int .i64 z.g.i, .bool z.lf, .int .i64 z.l.k, .int .i64 z.l.i]⟩) hp := by
      intro z hp ht
      subst ht
      subst hG
      exact ⟨⟨[], rfl, rfl, trivial, rfl, rfl, rfl, rfl⟩⟩
    clear hG
    repeat' (first | apply And.intro | apply Vc.mk | apply fits.mk | intro h | apply Post.mk)
    all_goals (try simp only [decide_eq_true_eq, decide_eq_false_iff_not, Nat.zero_add, ge_iff_le, Int.not_le, Int.not_lt, Int.toNat_natCast, beq_iff_eq, beq_eq_false_iff_ne, bne_iff_ne, bne_eq_false_iff_eq, Bool.not_eq_true', Bool.not_eq_false'] at *)
    all_goals first | contradiction | omega | (apply congrArg Value.bool; assumption) | exact congrArg Value.bool (decide_eq_true (by assumption)) | exact congrArg Value.bool (decide_eq_false (Int.not_lt.mpr (by assumption))) | exact ⟨rfl, by omega⟩ | exact rfl | (simp [*, -List.getD_eq_getElem?_getD]; done) | skip
    · have h : a = true := by assumption
      exact fin ⟨⟨1, -1, -1⟩, ⟨1, -1, -1⟩, 1, 0, ⟨b, c⟩, false, ⟨0, 0⟩, false, ⟨0, 0⟩⟩ _ (by rw [delS, if_pos h])
    · have h : a = false := by assumption
      exact fin ⟨⟨1, -1, -1⟩, ⟨1, -1, -1⟩, 1, 1, ⟨0, 0⟩, false, ⟨0, 0⟩, false, ⟨0, 0⟩⟩ _ (by rw [delS, if_neg (by rw [h]; decide)])
  · cases hx
def TSum {R : Type} : Tab R := [(70, liftC zN 2 (con1 insdP)), (71, liftC zN 2 (con1 deldP))]
theorem TSum_ok {R : Type} {D : Res R} : TabOk D Try.prog (TSum : Tab R) := ⟨liftC_ok _ _ insd_ok, liftC_ok _ _ deld_ok, trivial⟩
def msumP {R : Type} : Prim R := fun args hh => match args, hh with
  | [.agg ⟨[.int .i64 k0, .bool k1, .int .i64 k2, .int .i64 k3, .bool k4, .bool k5, .int .i64 k6, .int .i64 k7]⟩], [] => some ⟨True, .agg ⟨[.int .i64 (O8.sum (⟨k0, k1, ⟨k2, k3⟩, k4, k5, ⟨k6, k7⟩⟩ : Mk)).c.n, .int .i64 (O8.sum (⟨k0, k1, ⟨k2, k3⟩, k4, k5, ⟨k6, k7⟩⟩ : Mk)).c.s, .int .i64 (O8.sum (⟨k0, k1, ⟨k2, k3⟩, k4, k5, ⟨k6, k7⟩⟩ : Mk)).c.l, .int .i64 (O8.sum (⟨k0, k1, ⟨k2, k3⟩, k4, k5, ⟨k6, k7⟩⟩ : Mk)).w.n, .int .i64 (O8.sum (⟨k0, k1, ⟨k2, k3⟩, k4, k5, ⟨k6, k7⟩⟩ : Mk)).w.s, .int .i64 (O8.sum (⟨k0, k1, ⟨k2, k3⟩, k4, k5, ⟨k6, k7⟩⟩ : Mk)).w.l, .int .i64 (O8.sum (⟨k0, k1, ⟨k2, k3⟩, k4, k5, ⟨k6, k7⟩⟩ : Mk)).d, .int .i64 (O8.sum (⟨k0, k1, ⟨k2, k3⟩, k4, k5, ⟨k6, k7⟩⟩ : Mk)).f, .int .i64 (O8.sum (⟨k0, k1, ⟨k2, k3⟩, k4, k5, ⟨k6, k7⟩⟩ : Mk)).m.k, .int .i64 (O8.sum (⟨k0, k1, ⟨k2, k3⟩, k4, k5, ⟨k6, k7⟩⟩ : Mk)).m.i, .bool (O8.sum (⟨k0, k1, ⟨k2, k3⟩, k4, k5, ⟨k6, k7⟩⟩ : Mk)).gf, .int .i64 (O8.sum (⟨k0, k1, ⟨k2, k3⟩, k4, k5, ⟨k6, k7⟩⟩ : Mk)).g.k, .int .i64 (O8.sum (⟨k0, k1, ⟨k2, k3⟩, k4, k5, ⟨k6, k7⟩⟩ : Mk)).g.i, .bool (O8.sum (⟨k0, k1, ⟨k2, k3⟩, k4, k5, ⟨k6, k7⟩⟩ : Mk)).lf, .int .i64 (O8.sum (⟨k0, k1, ⟨k2, k3⟩, k4, k5, ⟨k6, k7⟩⟩ : Mk)).l.k, .int .i64 (O8.sum (⟨k0, k1, ⟨k2, k3⟩, k4, k5, ⟨k6, k7⟩⟩ : Mk)).l.i]⟩, none, hh, [], []⟩
  | _, _ => none
theorem msum_ok {R : Type} {D : Res R} : ConOk D Try.prog 68 (con1 msumP) := by
  refine con1_ok (prim_at (fn := Try.f68) (root := codeOf Try.f68) (by kernel_rfl) (by kernel_rfl) (by kernel_rfl) fun args hh x hx => ?_)
  unfold msumP at hx
  split at hx
  · rename_i k0 k1 k2 k3 k4 k5 k6 k7
    injection hx with hx
    subst hx
    refine ⟨by first | exact Nat.le_refl _ | exact Nat.zero_le _ | exact Nat.le_succ _ | exact Nat.le_add_left 1 3 | exact Nat.le_add_left 2 2 | exact Nat.le_add_left 1 2, noLit rfl, (fun hw => by first | rfl | cases hw), fun _ hv => ?_⟩
    generalize hG : Rx.Ends (R := R) _ _ = G
    refine rx_okQ (T := TSum) TSum_ok mixed 200 (q := let zz3 := Value.int IntKind.i64; let zz1 := (insS (It.mk k2 k3) k4); let zz2 := (delS k5 (It.mk k6 k7)); (k1 = true → Vc True ∧ Post (G (Value.agg (Array.mk [zz3 (Ti.Td.n (Sw.c zz1)), zz3 (Ti.Td.s (Sw.c zz1)), zz3 (Ti.Td.l (Sw.c zz1)), zz3 (Ti.Td.n (Sw.w zz1)), zz3 (Ti.Td.s (Sw.w zz1)), zz3 (Ti.Td.l (Sw.w zz1)), zz3 (Sw.d zz1), zz3 (Sw.f zz1), zz3 (It.k (Sw.m zz1)), zz3 (It.i (Sw.m zz1)), Value.bool (Sw.gf zz1), zz3 (It.k (Sw.g zz1)), zz3 (It.i (Sw.g zz1)), Value.bool (Sw.lf zz1), zz3 (It.k (Sw.l zz1)), zz3 (It.i (Sw.l zz1))])) [some (Sum.inl (46, [zz3 k0, Value.bool k1, zz3 k2, zz3 k3, Value.bool k4, Value.bool k5, zz3 k6, zz3 k7])), some (Sum.inl (50, [zz3 (Ti.Td.n (Sw.c zz1)), zz3 (Ti.Td.s (Sw.c zz1)), zz3 (Ti.Td.l (Sw.c zz1)), zz3 (Ti.Td.n (Sw.w zz1)), zz3 (Ti.Td.s (Sw.w zz1)), zz3 (Ti.Td.l (Sw.w zz1)), zz3 (Sw.d zz1), zz3 (Sw.f zz1), zz3 (It.k (Sw.m zz1)), zz3 (It.i (Sw.m zz1)), Value.bool (Sw.gf zz1), zz3 (It.k (Sw.g zz1)), zz3 (It.i (Sw.g zz1)), Value.bool (Sw.lf zz1), zz3 (It.k (Sw.l zz1)), zz3 (It.i (Sw.l zz1))]))])) ∧ (k1 = false → Vc True ∧ Post (G (Value.agg (Array.mk [zz3 (Ti.Td.n (Sw.c zz2)), zz3 (Ti.Td.s (Sw.c zz2)), zz3 (Ti.Td.l (Sw.c zz2)), zz3 (Ti.Td.n (Sw.w zz2)), zz3 (Ti.Td.s (Sw.w zz2)), zz3 (Ti.Td.l (Sw.w zz2)), zz3 (Sw.d zz2), zz3 (Sw.f zz2), zz3 (It.k (Sw.m zz2)), zz3 (It.i (Sw.m zz2)), Value.bool (Sw.gf zz2), zz3 (It.k (Sw.g zz2)), zz3 (It.i (Sw.g zz2)), Value.bool (Sw.lf zz2), zz3 (It.k (Sw.l zz2)), zz3 (It.i (Sw.l zz2))])) [some (Sum.inl (46, [zz3 k0, Value.bool k1, zz3 k2, zz3 k3, Value.bool k4, Value.bool k5, zz3 k6, zz3 k7])), some (Sum.inl (50, [zz3 (Ti.Td.n (Sw.c zz2)), zz3 (Ti.Td.s (Sw.c zz2)), zz3 (Ti.Td.l (Sw.c zz2)), zz3 (Ti.Td.n (Sw.w zz2)), zz3 (Ti.Td.s (Sw.w zz2)), zz3 (Ti.Td.l (Sw.w zz2)), zz3 (Sw.d zz2), zz3 (Sw.f zz2), zz3 (It.k (Sw.m zz2)), zz3 (It.i (Sw.m zz2)), Value.bool (Sw.gf zz2), zz3 (It.k (Sw.g zz2)), zz3 (It.i (Sw.g zz2)), Value.bool (Sw.lf zz2), zz3 (It.k (Sw.l zz2)), zz3 (It.i (Sw.l zz2))]))]))) ?_ (by kernel_rfl)
    intro zz3 zz1 zz2; subst zz2 zz1 zz3
    have fin : ∀ (z : Sw) (hp : Hp R), z = O8.sum (⟨k0, k1, ⟨k2, k3⟩, k4, k5, ⟨k6, k7⟩⟩ : Mk) → G (.agg ⟨[.int .i64 z.c.n, .int .i64 z.c.s, .int .i64 z.c.l, .int .i64 z.w.n, .int .i64 z.w.s, .int .i64 z.w.l, .int .i64 z.d, .int .i64 z.f, .int .i64 z.m.k, .int .i64 z.m.i, .bool z.gf, .int .i64 z.g.k, .int .i64 z.g.i, .bool z.lf, .int .i64 z.l.k, .int .i64 z.l.i]⟩) hp := by
      intro z hp ht
      subst ht
      subst hG
      exact ⟨⟨[], rfl, rfl, trivial, rfl, rfl, rfl, rfl⟩⟩
    clear hG
    repeat' (first | apply And.intro | apply Vc.mk | apply fits.mk | intro h | apply Post.mk)
    all_goals (try simp only [decide_eq_true_eq, decide_eq_false_iff_not, Nat.zero_add, ge_iff_le, Int.not_le, Int.not_lt, Int.toNat_natCast, beq_iff_eq, beq_eq_false_iff_ne, bne_iff_ne, bne_eq_false_iff_eq, Bool.not_eq_true', Bool.not_eq_false'] at *)
    all_goals first | contradiction | omega | (apply congrArg Value.bool; assumption) | exact congrArg Value.bool (decide_eq_true (by assumption)) | exact congrArg Value.bool (decide_eq_false (Int.not_lt.mpr (by assumption))) | exact ⟨rfl, by omega⟩ | exact rfl | (simp [*, -List.getD_eq_getElem?_getD]; done) | skip
    · have h : k1 = true := by assumption
      exact fin (insS ⟨k2, k3⟩ k4) _ (by show _ = if k1 = true then _ else _; rw [if_pos h])
    · have h : k1 = false := by assumption
      exact fin (delS k5 ⟨k6, k7⟩) _ (by show _ = if k1 = true then _ else _; rw [if_neg (by rw [h]; decide)])
  · cases hx
def mcmpP {R : Type} : Prim R := fun args hh => match args, hh with
  | [.agg ⟨[.int .i64 k0, .bool k1, .int .i64 k2, .int .i64 k3, .bool k4, .bool k5, .int .i64 k6, .int .i64 k7]⟩, .agg ⟨[.int .i64 x0, .bool x1, .int .i64 x2, .int .i64 x3, .bool x4, .bool x5, .int .i64 x6, .int .i64 x7]⟩], [] => some ⟨True, .int .i64 (O8.cmp (⟨k0, k1, ⟨k2, k3⟩, k4, k5, ⟨k6, k7⟩⟩ : Mk) (⟨x0, x1, ⟨x2, x3⟩, x4, x5, ⟨x6, x7⟩⟩ : Mk)), none, hh, [], []⟩
  | _, _ => none
theorem mcmp_ok {R : Type} {D : Res R} : ConOk D Try.prog 67 (con1 mcmpP) := by
  refine con1_ok (prim_at (fn := Try.f67) (root := codeOf Try.f67) (by kernel_rfl) (by kernel_rfl) (by kernel_rfl) fun args hh x hx => ?_)
  unfold mcmpP at hx
  split at hx
  · rename_i k0 k1 k2 k3 k4 k5 k6 k7 x0 x1 x2 x3 x4 x5 x6 x7
    injection hx with hx
    subst hx
    refine ⟨by first | exact Nat.le_refl _ | exact Nat.zero_le _ | exact Nat.le_succ _ | exact Nat.le_add_left 1 3 | exact Nat.le_add_left 2 2 | exact Nat.le_add_left 1 2, noLit rfl, (fun hw => by first | rfl | cases hw), fun _ hv => ?_⟩
    generalize hG : Rx.Ends (R := R) _ _ = G
    refine rx_okQ (T := TCc) TCc_ok mixed 200 (q := let zz1 := Value.int IntKind.i64; Vc True ∧ Post (G (zz1 (c64 k0 x0)) [some (Sum.inl (46, [zz1 k0, Value.bool k1, zz1 k2, zz1 k3, Value.bool k4, Value.bool k5, zz1 k6, zz1 k7])), some (Sum.inl (46, [zz1 x0, Value.bool x1, zz1 x2, zz1 x3, Value.bool x4, Value.bool x5, zz1 x6, zz1 x7]))])) ?_ (by kernel_rfl)
    intro zz1; subst zz1
    subst hG
    repeat' (first | apply And.intro | apply Vc.mk | apply fits.mk | intro h | apply Post.mk)
    all_goals (try simp only [decide_eq_true_eq, decide_eq_false_iff_not, Nat.zero_add, ge_iff_le, Int.not_le, Int.not_lt, Int.toNat_natCast, beq_iff_eq, beq_eq_false_iff_ne, bne_iff_ne, bne_eq_false_iff_eq, Bool.not_eq_true', Bool.not_eq_false'] at *)
    all_goals first | contradiction | omega | (apply congrArg Value.bool; assumption) | exact congrArg Value.bool (decide_eq_true (by assumption)) | exact congrArg Value.bool (decide_eq_false (Int.not_lt.mpr (by assumption))) | exact ⟨rfl, by omega⟩ | exact rfl | (simp [*, -List.getD_eq_getElem?_getD]; done) | skip
    exact ⟨[], rfl, rfl, trivial, rfl, rfl, rfl, rfl⟩
  · cases hx
def keyP {R : Type} : Prim R := fun args hh => match args, hh with
  | [.int .i64 a], [] => some ⟨True, .agg ⟨[.int .i64 a, .bool false, .int .i64 0, .int .i64 0, .bool false, .bool false, .int .i64 0, .int .i64 0]⟩, none, hh, [], []⟩
  | _, _ => none
theorem key_ok {R : Type} {D : Res R} : ConOk D Try.prog 31 (con1 keyP) := by
  refine con1_ok (prim_at (fn := Try.f31) (root := codeOf Try.f31) (by kernel_rfl) (by kernel_rfl) (by kernel_rfl) fun args hh x hx => ?_)
  unfold keyP at hx
  split at hx
  · rename_i a
    injection hx with hx
    subst hx
    refine ⟨by first | exact Nat.le_refl _ | exact Nat.zero_le _ | exact Nat.le_succ _ | exact Nat.le_add_left 1 3 | exact Nat.le_add_left 2 2 | exact Nat.le_add_left 1 2, noLit rfl, (fun hw => by first | rfl | cases hw), fun _ hv => ?_⟩
    generalize hG : Rx.Ends (R := R) _ _ = G
    refine rx_okQ (T := []) trivial mixed 200 (q := let zz1 := Value.int IntKind.i64; Post (G (Value.agg (Array.mk [zz1 a, Value.bool false, zz1 0, zz1 0, Value.bool false, Value.bool false, zz1 0, zz1 0])) [some (Sum.inl (46, [zz1 a, Value.bool false, zz1 0, zz1 0, Value.bool false, Value.bool false, zz1 0, zz1 0]))])) ?_ (by kernel_rfl)
    intro zz1; subst zz1
    subst hG
    repeat' (first | apply And.intro | apply Vc.mk | apply fits.mk | intro h | apply Post.mk)
    all_goals (try simp only [decide_eq_true_eq, decide_eq_false_iff_not, Nat.zero_add, ge_iff_le, Int.not_le, Int.not_lt, Int.toNat_natCast, beq_iff_eq, beq_eq_false_iff_ne, bne_iff_ne, bne_eq_false_iff_eq, Bool.not_eq_true', Bool.not_eq_false'] at *)
    all_goals first | contradiction | omega | (apply congrArg Value.bool; assumption) | exact congrArg Value.bool (decide_eq_true (by assumption)) | exact congrArg Value.bool (decide_eq_false (Int.not_lt.mpr (by assumption))) | exact ⟨rfl, by omega⟩ | exact rfl | (simp [*, -List.getD_eq_getElem?_getD]; done) | skip
    exact ⟨[], rfl, rfl, trivial, rfl, rfl, rfl, rfl⟩
  · cases hx
def tsmP {R : Type} : Prim R := fun args hh => match args, hh with
  | [.agg ⟨[.int .i64 x0, .int .i64 x1, .int .i64 x2, .int .i64 x3, .int .i64 x4, .int .i64 x5, .int .i64 x6, .int .i64 x7, .int .i64 x8, .int .i64 x9, .bool x10, .int .i64 x11, .int .i64 x12, .bool x13, .int .i64 x14, .int .i64 x15]⟩], [] => some ⟨True, .bool (x6 != x7), none, hh, [], []⟩
  | _, _ => none
theorem tsm_ok {R : Type} {D : Res R} : ConOk D Try.prog 76 (con1 tsmP) := by
  refine con1_ok (prim_at (fn := Try.f76) (root := codeOf Try.f76) (by kernel_rfl) (by kernel_rfl) (by kernel_rfl) fun args hh x hx => ?_)
  unfold tsmP at hx
  split at hx
  · rename_i x0 x1 x2 x3 x4 x5 x6 x7 x8 x9 x10 x11 x12 x13 x14 x15
    injection hx with hx
    subst hx
    refine ⟨by first | exact Nat.le_refl _ | exact Nat.zero_le _ | exact Nat.le_succ _ | exact Nat.le_add_left 1 3 | exact Nat.le_add_left 2 2 | exact Nat.le_add_left 1 2, noLit rfl, (fun hw => by first | rfl | cases hw), fun _ hv => ?_⟩
    generalize hG : Rx.Ends (R := R) _ _ = G
    refine rx_okQ (T := []) trivial mixed 200 (q := let zz1 := Value.int IntKind.i64; Post (G (Value.bool (x6 != x7)) [some (Sum.inl (50, [zz1 x0, zz1 x1, zz1 x2, zz1 x3, zz1 x4, zz1 x5, zz1 x6, zz1 x7, zz1 x8, zz1 x9, Value.bool x10, zz1 x11, zz1 x12, Value.bool x13, zz1 x14, zz1 x15]))])) ?_ (by kernel_rfl)
    intro zz1; subst zz1
    subst hG
    repeat' (first | apply And.intro | apply Vc.mk | apply fits.mk | intro h | apply Post.mk)
    all_goals (try simp only [decide_eq_true_eq, decide_eq_false_iff_not, Nat.zero_add, ge_iff_le, Int.not_le, Int.not_lt, Int.toNat_natCast, beq_iff_eq, beq_eq_false_iff_ne, bne_iff_ne, bne_eq_false_iff_eq, Bool.not_eq_true', Bool.not_eq_false'] at *)
    all_goals first | contradiction | omega | (apply congrArg Value.bool; assumption) | exact congrArg Value.bool (decide_eq_true (by assumption)) | exact congrArg Value.bool (decide_eq_false (Int.not_lt.mpr (by assumption))) | exact ⟨rfl, by omega⟩ | exact rfl | (simp [*, -List.getD_eq_getElem?_getD]; done) | skip
    exact ⟨[], rfl, rfl, trivial, rfl, rfl, rfl, rfl⟩
  · cases hx
def TMo {R : Type} : Tab R := [(76, liftC zN 2 (con1 tsmP)), (79, liftC zN 2 (con1 icmP))]
theorem TMo_ok {R : Type} {D : Res R} : TabOk D Try.prog (TMo : Tab R) := ⟨liftC_ok _ _ tsm_ok, liftC_ok _ _ icm_ok, trivial⟩
def mostP {R : Type} : Prim R := fun args hh => match args, hh with
  | [.agg ⟨[.int .i64 x0, .int .i64 x1, .int .i64 x2, .int .i64 x3, .int .i64 x4, .int .i64 x5, .int .i64 x6, .int .i64 x7, .int .i64 x8, .int .i64 x9, .bool x10, .int .i64 x11, .int .i64 x12, .bool x13, .int .i64 x14, .int .i64 x15]⟩, .agg ⟨[.int .i64 y0, .int .i64 y1, .int .i64 y2, .int .i64 y3, .int .i64 y4, .int .i64 y5, .int .i64 y6, .int .i64 y7, .int .i64 y8, .int .i64 y9, .bool y10, .int .i64 y11, .int .i64 y12, .bool y13, .int .i64 y14, .int .i64 y15]⟩], [] => some ⟨True, .agg ⟨[.int .i64 (bigS (⟨⟨x0, x1, x2⟩, ⟨x3, x4, x5⟩, x6, x7, ⟨x8, x9⟩, x10, ⟨x11, x12⟩, x13, ⟨x14, x15⟩⟩ : Sw) (⟨⟨y0, y1, y2⟩, ⟨y3, y4, y5⟩, y6, y7, ⟨y8, y9⟩, y10, ⟨y11, y12⟩, y13, ⟨y14, y15⟩⟩ : Sw)).k, .int .i64 (bigS (⟨⟨x0, x1, x2⟩, ⟨x3, x4, x5⟩, x6, x7, ⟨x8, x9⟩, x10, ⟨x11, x12⟩, x13, ⟨x14, x15⟩⟩ : Sw) (⟨⟨y0, y1, y2⟩, ⟨y3, y4, y5⟩, y6, y7, ⟨y8, y9⟩, y10, ⟨y11, y12⟩, y13, ⟨y14, y15⟩⟩ : Sw)).i]⟩, none, hh, [], []⟩
  | _, _ => none
theorem most_ok {R : Type} {D : Res R} : ConOk D Try.prog 77 (con1 mostP) := by
  refine con1_ok (prim_at (fn := Try.f77) (root := codeOf Try.f77) (by kernel_rfl) (by kernel_rfl) (by kernel_rfl) fun args hh x hx => ?_)
  unfold mostP at hx
  split at hx
  · rename_i x0 x1 x2 x3 x4 x5 x6 x7 x8 x9 x10 x11 x12 x13 x14 x15 y0 y1 y2 y3 y4 y5 y6 y7 y8 y9 y10 y11 y12 y13 y14 y15
    injection hx with hx
    subst hx
    refine ⟨by first | exact Nat.le_refl _ | exact Nat.zero_le _ | exact Nat.le_succ _ | exact Nat.le_add_left 1 3 | exact Nat.le_add_left 2 2 | exact Nat.le_add_left 1 2, noLit rfl, (fun hw => by first | rfl | cases hw), fun _ hv => ?_⟩
    generalize hG : Rx.Ends (R := R) _ _ = G
    refine rx_okQ (T := TMo) TMo_ok mixed 200 (q := let zz1 := Value.int IntKind.i64; Vc True ∧ ((!y6 != y7) = true → Post (G (Value.agg (Array.mk [zz1 x8, zz1 x9])) [some (Sum.inl (50, [zz1 x0, zz1 x1, zz1 x2, zz1 x3, zz1 x4, zz1 x5, zz1 x6, zz1 x7, zz1 x8, zz1 x9, Value.bool x10, zz1 x11, zz1 x12, Value.bool x13, zz1 x14, zz1 x15])), some (Sum.inl (50, [zz1 y0, zz1 y1, zz1 y2, zz1 y3, zz1 y4, zz1 y5, zz1 y6, zz1 y7, zz1 y8, zz1 y9, Value.bool y10, zz1 y11, zz1 y12, Value.bool y13, zz1 y14, zz1 y15])), some (Sum.inl (36, [zz1 x8, zz1 x9]))])) ∧ ((!y6 != y7) = false → Vc True ∧ ((!x6 != x7) = false → Vc True ∧ (decide (icmp (It.mk y8 y9) (It.mk x8 x9) > (0 : Int)) = true → Post (G (Value.agg (Array.mk [zz1 y8, zz1 y9])) [some (Sum.inl (50, [zz1 x0, zz1 x1, zz1 x2, zz1 x3, zz1 x4, zz1 x5, zz1 x6, zz1 x7, zz1 x8, zz1 x9, Value.bool x10, zz1 x11, zz1 x12, Value.bool x13, zz1 x14, zz1 x15])), some (Sum.inl (50, [zz1 y0, zz1 y1, zz1 y2, zz1 y3, zz1 y4, zz1 y5, zz1 y6, zz1 y7, zz1 y8, zz1 y9, Value.bool y10, zz1 y11, zz1 y12, Value.bool y13, zz1 y14, zz1 y15])), some (Sum.inl (36, [zz1 y8, zz1 y9]))])) ∧ (decide (icmp (It.mk y8 y9) (It.mk x8 x9) > (0 : Int)) = false → Post (G (Value.agg (Array.mk [zz1 x8, zz1 x9])) [some (Sum.inl (50, [zz1 x0, zz1 x1, zz1 x2, zz1 x3, zz1 x4, zz1 x5, zz1 x6, zz1 x7, zz1 x8, zz1 x9, Value.bool x10, zz1 x11, zz1 x12, Value.bool x13, zz1 x14, zz1 x15])), some (Sum.inl (50, [zz1 y0, zz1 y1, zz1 y2, zz1 y3, zz1 y4, zz1 y5, zz1 y6, zz1 y7, zz1 y8, zz1 y9, Value.bool y10, zz1 y11, zz1 y12, Value.bool y13, zz1 y14, zz1 y15])), some (Sum.inl (36, [zz1 x8, zz1 x9]))]))) ∧ ((!x6 != x7) = true → Post (G (Value.agg (Array.mk [zz1 y8, zz1 y9])) [some (Sum.inl (50, [zz1 x0, zz1 x1, zz1 x2, zz1 x3, zz1 x4, zz1 x5, zz1 x6, zz1 x7, zz1 x8, zz1 x9, Value.bool x10, zz1 x11, zz1 x12, Value.bool x13, zz1 x14, zz1 x15])), some (Sum.inl (50, [zz1 y0, zz1 y1, zz1 y2, zz1 y3, zz1 y4, zz1 y5, zz1 y6, zz1 y7, zz1 y8, zz1 y9, Value.bool y10, zz1 y11, zz1 y12, Value.bool y13, zz1 y14, zz1 y15])), some (Sum.inl (36, [zz1 y8, zz1 y9]))])))) ?_ (by kernel_rfl)
    intro zz1; subst zz1
    have fin : ∀ (z : It) (hp : Hp R), z = bigS (⟨⟨x0, x1, x2⟩, ⟨x3, x4, x5⟩, x6, x7, ⟨x8, x9⟩, x10, ⟨x11, x12⟩, x13, ⟨x14, x15⟩⟩ : Sw) (⟨⟨y0, y1, y2⟩, ⟨y3, y4, y5⟩, y6, y7, ⟨y8, y9⟩, y10, ⟨y11, y12⟩, y13, ⟨y14, y15⟩⟩ : Sw) → G (.agg ⟨[.int .i64 z.k, .int .i64 z.i]⟩) hp := by
      intro z hp ht
      subst ht
      subst hG
      exact ⟨⟨[], rfl, rfl, trivial, rfl, rfl, rfl, rfl⟩⟩
    clear hG
    repeat' (first | apply And.intro | apply Vc.mk | apply fits.mk | intro h | apply Post.mk)
    all_goals (try simp only [decide_eq_true_eq, decide_eq_false_iff_not, Nat.zero_add, ge_iff_le, Int.not_le, Int.not_lt, Int.toNat_natCast, beq_iff_eq, beq_eq_false_iff_ne, bne_iff_ne, bne_eq_false_iff_eq, Bool.not_eq_true', Bool.not_eq_false'] at *)
    all_goals first | contradiction | omega | (apply congrArg Value.bool; assumption) | exact congrArg Value.bool (decide_eq_true (by assumption)) | exact congrArg Value.bool (decide_eq_false (Int.not_lt.mpr (by assumption))) | exact ⟨rfl, by omega⟩ | exact rfl | (simp [*, -List.getD_eq_getElem?_getD]; done) | skip
    all_goals first
      | exact fin ⟨x8, x9⟩ _ (by simp only [bigS]; rw [if_pos (by assumption)])
      | exact fin ⟨y8, y9⟩ _ (by simp only [bigS]; rw [if_neg (by assumption), if_pos (by first | exact .inl (by assumption) | exact .inr ((icmp_pos _ _).1 (by assumption)))])
      | exact fin ⟨x8, x9⟩ _ (by simp only [bigS]; rw [if_neg (by assumption), if_neg (by rintro (h | h); contradiction; have := (icmp_pos ⟨y8, y9⟩ ⟨x8, x9⟩).2 h; omega)])
  · cases hx
def outrP {R : Type} : Prim R := fun args hh => match args, hh with
  | [.agg ⟨[.bool x0, .int .i64 x1, .int .i64 x2]⟩, .agg ⟨[.bool y0, .int .i64 y1, .int .i64 y2]⟩, .int .i64 sd], [] => some ⟨True, .agg ⟨[.bool (outI sd x0 ⟨x1, x2⟩ y0 ⟨y1, y2⟩).1, .int .i64 (outI sd x0 ⟨x1, x2⟩ y0 ⟨y1, y2⟩).2.k, .int .i64 (outI sd x0 ⟨x1, x2⟩ y0 ⟨y1, y2⟩).2.i]⟩, none, hh, [], []⟩
  | _, _ => none
theorem outr_ok {R : Type} {D : Res R} : ConOk D Try.prog 78 (con1 outrP) := by
  refine con1_ok (prim_at (fn := Try.f78) (root := codeOf Try.f78) (by kernel_rfl) (by kernel_rfl) (by kernel_rfl) fun args hh x hx => ?_)
  unfold outrP at hx
  split at hx
  · rename_i x0 x1 x2 y0 y1 y2 sd
    injection hx with hx
    subst hx
    refine ⟨by first | exact Nat.le_refl _ | exact Nat.zero_le _ | exact Nat.le_succ _ | exact Nat.le_add_left 1 3 | exact Nat.le_add_left 2 2 | exact Nat.le_add_left 1 2, noLit rfl, (fun hw => by first | rfl | cases hw), fun _ hv => ?_⟩
    generalize hG : Rx.Ends (R := R) _ _ = G
    refine rx_okQ (T := TMo) TMo_ok mixed 200 (q := let zz1 := Value.int IntKind.i64; (y0 = true → ((!x0) = false → Vc True ∧ ((icmp (It.mk y1 y2) (It.mk x1 x2) == sd) = true → Post (G (Value.agg (Array.mk [Value.bool y0, zz1 y1, zz1 y2])) [some (Sum.inl (40, [Value.bool x0, zz1 x1, zz1 x2])), some (Sum.inl (40, [Value.bool y0, zz1 y1, zz1 y2])), some (Sum.inl (40, [Value.bool y0, zz1 y1, zz1 y2]))])) ∧ ((icmp (It.mk y1 y2) (It.mk x1 x2) == sd) = false → ((!x0) = true → Post (G (Value.agg (Array.mk [Value.bool false, zz1 0, zz1 0])) [some (Sum.inl (40, [Value.bool x0, zz1 x1, zz1 x2])), some (Sum.inl (40, [Value.bool y0, zz1 y1, zz1 y2])), some (Sum.inl (40, [Value.bool false, zz1 0, zz1 0]))])) ∧ ((!x0) = false → Post (G (Value.agg (Array.mk [Value.bool x0, zz1 x1, zz1 x2])) [some (Sum.inl (40, [Value.bool x0, zz1 x1, zz1 x2])), some (Sum.inl (40, [Value.bool y0, zz1 y1, zz1 y2])), some (Sum.inl (40, [Value.bool x0, zz1 x1, zz1 x2]))])))) ∧ ((!x0) = true → Post (G (Value.agg (Array.mk [Value.bool y0, zz1 y1, zz1 y2])) [some (Sum.inl (40, [Value.bool x0, zz1 x1, zz1 x2])), some (Sum.inl (40, [Value.bool y0, zz1 y1, zz1 y2])), some (Sum.inl (40, [Value.bool y0, zz1 y1, zz1 y2]))]))) ∧ (y0 = false → ((!x0) = true → Post (G (Value.agg (Array.mk [Value.bool false, zz1 0, zz1 0])) [some (Sum.inl (40, [Value.bool x0, zz1 x1, zz1 x2])), some (Sum.inl (40, [Value.bool y0, zz1 y1, zz1 y2])), some (Sum.inl (40, [Value.bool false, zz1 0, zz1 0]))])) ∧ ((!x0) = false → Post (G (Value.agg (Array.mk [Value.bool x0, zz1 x1, zz1 x2])) [some (Sum.inl (40, [Value.bool x0, zz1 x1, zz1 x2])), some (Sum.inl (40, [Value.bool y0, zz1 y1, zz1 y2])), some (Sum.inl (40, [Value.bool x0, zz1 x1, zz1 x2]))])))) ?_ (by kernel_rfl)
    intro zz1; subst zz1
    have fin : ∀ (z : Bool × It) (hp : Hp R), z = outI sd x0 ⟨x1, x2⟩ y0 ⟨y1, y2⟩ → G (.agg ⟨[.bool z.1, .int .i64 z.2.k, .int .i64 z.2.i]⟩) hp := by
      intro z hp ht
      subst ht
      subst hG
      exact ⟨⟨[], rfl, rfl, trivial, rfl, rfl, rfl, rfl⟩⟩
    clear hG
    repeat' (first | apply And.intro | apply Vc.mk | apply fits.mk | intro h | apply Post.mk)
    all_goals (try simp only [decide_eq_true_eq, decide_eq_false_iff_not, Nat.zero_add, ge_iff_le, Int.not_le, Int.not_lt, Int.toNat_natCast, beq_iff_eq, beq_eq_false_iff_ne, bne_iff_ne, bne_eq_false_iff_eq, Bool.not_eq_true', Bool.not_eq_false'] at *)
    all_goals first | contradiction | omega | (apply congrArg Value.bool; assumption) | exact congrArg Value.bool (decide_eq_true (by assumption)) | exact congrArg Value.bool (decide_eq_false (Int.not_lt.mpr (by assumption))) | exact ⟨rfl, by omega⟩ | exact rfl | (simp [*, -List.getD_eq_getElem?_getD]; done) | skip
    all_goals first
      | (exfalso; simp_all; done)
      | exact fin (y0, ⟨y1, y2⟩) _ (by simp [outI, *]; done)
      | exact fin (false, ⟨0, 0⟩) _ (by simp [outI, *]; done)
      | exact fin (x0, ⟨x1, x2⟩) _ (by simp [outI, *]; done)
  · cases hx
def TPs {R : Type} : Tab R := [(1000000000, wrapCon), (74, liftC zN 2 (con1 Ti.plusP)), (77, liftC zN 2 (con1 mostP)), (78, liftC zN 2 (con1 outrP))]
theorem TPs_ok {R : Type} {D : Res R} : TabOk D Try.prog (TPs : Tab R) := ⟨wrapCon_ok, liftC_ok _ _ Ti.plus_ok, liftC_ok _ _ most_ok, liftC_ok _ _ outr_ok, trivial⟩
def splusP {R : Type} : Prim R := fun args hh => match args, hh with
  | [.agg ⟨[.int .i64 x0, .int .i64 x1, .int .i64 x2, .int .i64 x3, .int .i64 x4, .int .i64 x5, .int .i64 x6, .int .i64 x7, .int .i64 x8, .int .i64 x9, .bool x10, .int .i64 x11, .int .i64 x12, .bool x13, .int .i64 x14, .int .i64 x15]⟩, .agg ⟨[.int .i64 y0, .int .i64 y1, .int .i64 y2, .int .i64 y3, .int .i64 y4, .int .i64 y5, .int .i64 y6, .int .i64 y7, .int .i64 y8, .int .i64 y9, .bool y10, .int .i64 y11, .int .i64 y12, .bool y13, .int .i64 y14, .int .i64 y15]⟩], [] => some ⟨True, .agg ⟨[.int .i64 (O8.plus (⟨⟨x0, x1, x2⟩, ⟨x3, x4, x5⟩, x6, x7, ⟨x8, x9⟩, x10, ⟨x11, x12⟩, x13, ⟨x14, x15⟩⟩ : Sw) (⟨⟨y0, y1, y2⟩, ⟨y3, y4, y5⟩, y6, y7, ⟨y8, y9⟩, y10, ⟨y11, y12⟩, y13, ⟨y14, y15⟩⟩ : Sw)).c.n, .int .i64 (O8.plus (⟨⟨x0, x1, x2⟩, ⟨x3, x4, x5⟩, x6, x7, ⟨x8, x9⟩, x10, ⟨x11, x12⟩, x13, ⟨x14, x15⟩⟩ : Sw) (⟨⟨y0, y1, y2⟩, ⟨y3, y4, y5⟩, y6, y7, ⟨y8, y9⟩, y10, ⟨y11, y12⟩, y13, ⟨y14, y15⟩⟩ : Sw)).c.s, .int .i64 (O8.plus (⟨⟨x0, x1, x2⟩, ⟨x3, x4, x5⟩, x6, x7, ⟨x8, x9⟩, x10, ⟨x11, x12⟩, x13, ⟨x14, x15⟩⟩ : Sw) (⟨⟨y0, y1, y2⟩, ⟨y3, y4, y5⟩, y6, y7, ⟨y8, y9⟩, y10, ⟨y11, y12⟩, y13, ⟨y14, y15⟩⟩ : Sw)).c.l, .int .i64 (O8.plus (⟨⟨x0, x1, x2⟩, ⟨x3, x4, x5⟩, x6, x7, ⟨x8, x9⟩, x10, ⟨x11, x12⟩, x13, ⟨x14, x15⟩⟩ : Sw) (⟨⟨y0, y1, y2⟩, ⟨y3, y4, y5⟩, y6, y7, ⟨y8, y9⟩, y10, ⟨y11, y12⟩, y13, ⟨y14, y15⟩⟩ : Sw)).w.n, .int .i64 (O8.plus (⟨⟨x0, x1, x2⟩, ⟨x3, x4, x5⟩, x6, x7, ⟨x8, x9⟩, x10, ⟨x11, x12⟩, x13, ⟨x14, x15⟩⟩ : Sw) (⟨⟨y0, y1, y2⟩, ⟨y3, y4, y5⟩, y6, y7, ⟨y8, y9⟩, y10, ⟨y11, y12⟩, y13, ⟨y14, y15⟩⟩ : Sw)).w.s, .int .i64 (O8.plus (⟨⟨x0, x1, x2⟩, ⟨x3, x4, x5⟩, x6, x7, ⟨x8, x9⟩, x10, ⟨x11, x12⟩, x13, ⟨x14, x15⟩⟩ : Sw) (⟨⟨y0, y1, y2⟩, ⟨y3, y4, y5⟩, y6, y7, ⟨y8, y9⟩, y10, ⟨y11, y12⟩, y13, ⟨y14, y15⟩⟩ : Sw)).w.l, .int .i64 (O8.plus (⟨⟨x0, x1, x2⟩, ⟨x3, x4, x5⟩, x6, x7, ⟨x8, x9⟩, x10, ⟨x11, x12⟩, x13, ⟨x14, x15⟩⟩ : Sw) (⟨⟨y0, y1, y2⟩, ⟨y3, y4, y5⟩, y6, y7, ⟨y8, y9⟩, y10, ⟨y11, y12⟩, y13, ⟨y14, y15⟩⟩ : Sw)).d, .int .i64 (O8.plus (⟨⟨x0, x1, x2⟩, ⟨x3, x4, x5⟩, x6, x7, ⟨x8, x9⟩, x10, ⟨x11, x12⟩, x13, ⟨x14, x15⟩⟩ : Sw) (⟨⟨y0, y1, y2⟩, ⟨y3, y4, y5⟩, y6, y7, ⟨y8, y9⟩, y10, ⟨y11, y12⟩, y13, ⟨y14, y15⟩⟩ : Sw)).f, .int .i64 (O8.plus (⟨⟨x0, x1, x2⟩, ⟨x3, x4, x5⟩, x6, x7, ⟨x8, x9⟩, x10, ⟨x11, x12⟩, x13, ⟨x14, x15⟩⟩ : Sw) (⟨⟨y0, y1, y2⟩, ⟨y3, y4, y5⟩, y6, y7, ⟨y8, y9⟩, y10, ⟨y11, y12⟩, y13, ⟨y14, y15⟩⟩ : Sw)).m.k, .int .i64 (O8.plus (⟨⟨x0, x1, x2⟩, ⟨x3, x4, x5⟩, x6, x7, ⟨x8, x9⟩, x10, ⟨x11, x12⟩, x13, ⟨x14, x15⟩⟩ : Sw) (⟨⟨y0, y1, y2⟩, ⟨y3, y4, y5⟩, y6, y7, ⟨y8, y9⟩, y10, ⟨y11, y12⟩, y13, ⟨y14, y15⟩⟩ : Sw)).m.i, .bool (O8.plus (⟨⟨x0, x1, x2⟩, ⟨x3, x4, x5⟩, x6, x7, ⟨x8, x9⟩, x10, ⟨x11, x12⟩, x13, ⟨x14, x15⟩⟩ : Sw) (⟨⟨y0, y1, y2⟩, ⟨y3, y4, y5⟩, y6, y7, ⟨y8, y9⟩, y10, ⟨y11, y12⟩, y13, ⟨y14, y15⟩⟩ : Sw)).gf, .int .i64 (O8.plus (⟨⟨x0, x1, x2⟩, ⟨x3, x4, x5⟩, x6, x7, ⟨x8, x9⟩, x10, ⟨x11, x12⟩, x13, ⟨x14, x15⟩⟩ : Sw) (⟨⟨y0, y1, y2⟩, ⟨y3, y4, y5⟩, y6, y7, ⟨y8, y9⟩, y10, ⟨y11, y12⟩, y13, ⟨y14, y15⟩⟩ : Sw)).g.k, .int .i64 (O8.plus (⟨⟨x0, x1, x2⟩, ⟨x3, x4, x5⟩, x6, x7, ⟨x8, x9⟩, x10, ⟨x11, x12⟩, x13, ⟨x14, x15⟩⟩ : Sw) (⟨⟨y0, y1, y2⟩, ⟨y3, y4, y5⟩, y6, y7, ⟨y8, y9⟩, y10, ⟨y11, y12⟩, y13, ⟨y14, y15⟩⟩ : Sw)).g.i, .bool (O8.plus (⟨⟨x0, x1, x2⟩, ⟨x3, x4, x5⟩, x6, x7, ⟨x8, x9⟩, x10, ⟨x11, x12⟩, x13, ⟨x14, x15⟩⟩ : Sw) (⟨⟨y0, y1, y2⟩, ⟨y3, y4, y5⟩, y6, y7, ⟨y8, y9⟩, y10, ⟨y11, y12⟩, y13, ⟨y14, y15⟩⟩ : Sw)).lf, .int .i64 (O8.plus (⟨⟨x0, x1, x2⟩, ⟨x3, x4, x5⟩, x6, x7, ⟨x8, x9⟩, x10, ⟨x11, x12⟩, x13, ⟨x14, x15⟩⟩ : Sw) (⟨⟨y0, y1, y2⟩, ⟨y3, y4, y5⟩, y6, y7, ⟨y8, y9⟩, y10, ⟨y11, y12⟩, y13, ⟨y14, y15⟩⟩ : Sw)).l.k, .int .i64 (O8.plus (⟨⟨x0, x1, x2⟩, ⟨x3, x4, x5⟩, x6, x7, ⟨x8, x9⟩, x10, ⟨x11, x12⟩, x13, ⟨x14, x15⟩⟩ : Sw) (⟨⟨y0, y1, y2⟩, ⟨y3, y4, y5⟩, y6, y7, ⟨y8, y9⟩, y10, ⟨y11, y12⟩, y13, ⟨y14, y15⟩⟩ : Sw)).l.i]⟩, none, hh, [], []⟩
  | _, _ => none
theorem splus_ok {R : Type} {D : Res R} : ConOk D Try.prog 75 (con1 splusP) := by
  refine con1_ok (prim_at (fn := Try.f75) (root := codeOf Try.f75) (by kernel_rfl) (by kernel_rfl) (by kernel_rfl) fun args hh x hx => ?_)
  unfold splusP at hx
  split at hx
  · rename_i x0 x1 x2 x3 x4 x5 x6 x7 x8 x9 x10 x11 x12 x13 x14 x15 y0 y1 y2 y3 y4 y5 y6 y7 y8 y9 y10 y11 y12 y13 y14 y15
    injection hx with hx
    subst hx
    refine ⟨by first | exact Nat.le_refl _ | exact Nat.zero_le _ | exact Nat.le_succ _ | exact Nat.le_add_left 1 3 | exact Nat.le_add_left 2 2 | exact Nat.le_add_left 1 2, noLit rfl, (fun hw => by first | rfl | cases hw), fun _ hv => ?_⟩
    generalize hG : Rx.Ends (R := R) _ _ = G
    refine rx_okQ (T := TPs) TPs_ok mixed 200 (q := let zz8 := Value.int IntKind.i64; let zz1 := (Ti.Td.plus (Ti.Td.mk x0 x1 x2) (Ti.Td.mk y0 y1 y2)); let zz2 := (Ti.Td.plus (Ti.Td.mk x3 x4 x5) (Ti.Td.mk y3 y4 y5)); let zz3 := (bigS (Sw.mk (Ti.Td.mk x0 x1 x2) (Ti.Td.mk x3 x4 x5) x6 x7 (It.mk x8 x9) x10 (It.mk x11 x12) x13 (It.mk x14 x15)) (Sw.mk (Ti.Td.mk y0 y1 y2) (Ti.Td.mk y3 y4 y5) y6 y7 (It.mk y8 y9) y10 (It.mk y11 y12) y13 (It.mk y14 y15))); let zz4 := (Prod.fst (outI (1 : Int) x10 (It.mk x11 x12) y10 (It.mk y11 y12))); let zz5 := (Prod.snd (outI (1 : Int) x10 (It.mk x11 x12) y10 (It.mk y11 y12))); let zz6 := (Prod.fst (outI (-1 : Int) x13 (It.mk x14 x15) y13 (It.mk y14 y15))); let zz7 := (Prod.snd (outI (-1 : Int) x13 (It.mk x14 x15) y13 (It.mk y14 y15))); Vc True ∧ Vc True ∧ Vc True ∧ Vc True ∧ Vc True ∧ Vc True ∧ Vc True ∧ Post (G (Value.agg (Array.mk [zz8 (Ti.Td.n zz1), zz8 (Ti.Td.s zz1), zz8 (Ti.Td.l zz1), zz8 (Ti.Td.n zz2), zz8 (Ti.Td.s zz2), zz8 (Ti.Td.l zz2), zz8 (IntKind.wrap IntKind.i64 (x6 + y6)), zz8 (IntKind.wrap IntKind.i64 (x7 + y7)), zz8 (It.k zz3), zz8 (It.i zz3), Value.bool zz4, zz8 (It.k zz5), zz8 (It.i zz5), Value.bool zz6, zz8 (It.k zz7), zz8 (It.i zz7)])) [some (Sum.inl (50, [zz8 x0, zz8 x1, zz8 x2, zz8 x3, zz8 x4, zz8 x5, zz8 x6, zz8 x7, zz8 x8, zz8 x9, Value.bool x10, zz8 x11, zz8 x12, Value.bool x13, zz8 x14, zz8 x15])), some (Sum.inl (50, [zz8 y0, zz8 y1, zz8 y2, zz8 y3, zz8 y4, zz8 y5, zz8 y6, zz8 y7, zz8 y8, zz8 y9, Value.bool y10, zz8 y11, zz8 y12, Value.bool y13, zz8 y14, zz8 y15])), some (Sum.inl (50, [zz8 (Ti.Td.n zz1), zz8 (Ti.Td.s zz1), zz8 (Ti.Td.l zz1), zz8 (Ti.Td.n zz2), zz8 (Ti.Td.s zz2), zz8 (Ti.Td.l zz2), zz8 (IntKind.wrap IntKind.i64 (x6 + y6)), zz8 (IntKind.wrap IntKind.i64 (x7 + y7)), zz8 (It.k zz3), zz8 (It.i zz3), Value.bool zz4, zz8 (It.k zz5), zz8 (It.i zz5), Value.bool zz6, zz8 (It.k zz7), zz8 (It.i zz7)]))])) ?_ (by kernel_rfl)
    intro zz8 zz1 zz2 zz3 zz4 zz5 zz6 zz7; subst zz7 zz6 zz5 zz4 zz3 zz2 zz1 zz8
    subst hG
    repeat' (first | apply And.intro | apply Vc.mk | apply fits.mk | intro h | apply Post.mk)
    all_goals (try simp only [decide_eq_true_eq, decide_eq_false_iff_not, Nat.zero_add, ge_iff_le, Int.not_le, Int.not_lt, Int.toNat_natCast, beq_iff_eq, beq_eq_false_iff_ne, bne_iff_ne, bne_eq_false_iff_eq, Bool.not_eq_true', Bool.not_eq_false'] at *)
    all_goals first | contradiction | omega | (apply congrArg Value.bool; assumption) | exact congrArg Value.bool (decide_eq_true (by assumption)) | exact congrArg Value.bool (decide_eq_false (Int.not_lt.mpr (by assumption))) | exact ⟨rfl, by omega⟩ | exact rfl | (simp [*, -List.getD_eq_getElem?_getD]; done) | skip
    exact ⟨[], rfl, rfl, trivial, rfl, rfl, rfl, rfl⟩
  · cases hx
end Go.Proofs.Ytegekenkfomlbaa.Wv
