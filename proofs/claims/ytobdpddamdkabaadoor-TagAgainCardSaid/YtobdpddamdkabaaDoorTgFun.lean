/- tag: the searches of the standard library that Make calls. -/
import Derived.Test.YtobdpddamdkabaaDoorTgMk
import Derived.Test.YtobdpddamdkabaaDoorTgRef
import Derived.Test.YtobdpddamdkabaaDoorRxV
import Derived.Test.YtobdpddamdkabaaDoorRxQ
namespace Go.Proofs.YtobdpddamdkabaaDoor.Tg
open Go.Proofs.YtobdpddamdkabaaDoor.Rx
set_option linter.unusedVariables false
set_option linter.unusedSimpArgs false
set_option maxRecDepth 100000
def lasfP {R : Type} : Prim R := fun args hh => match args, hh with
  | [.int .i64 g], [] => some ⟨True, .bool (!gOk g), none, hh, [], []⟩
  | _, _ => none
theorem lasf_ok {R : Type} {D : Res R} : ConOk D Tryd.prog 56 (con1 lasfP) := by
  refine con1_ok (prim_atM 99 (fn := Tryd.f56) (root := codeOf Tryd.f56) (by kernel_rfl) (by kernel_rfl) (by kernel_rfl) fun args hh x hx => ?_)
  unfold lasfP at hx
  split at hx
  · rename_i g
    injection hx with hx
    subst hx
    refine ⟨by first | exact Nat.le_refl _ | exact Nat.zero_le _ | exact Nat.le_succ _ | exact Nat.le_add_left 1 3 | exact Nat.le_add_left 2 2 | exact Nat.le_add_left 1 2 | exact Nat.le_add_left 4 2 | exact Nat.le_add_left 4 1 | exact Nat.le_add_left 5 1 | exact Nat.le_add_left 3 2 | exact Nat.le_add_left 5 3, noLit rfl, (fun hw => by first | rfl | cases hw), fun _ hv => ?_⟩
    generalize hG : Rx.Ends (R := R) _ _ = G
    refine rx_okQ (T := []) trivial mixed 200 (q := (decide (g < (0 : Int)) = false → Post (G (Value.bool (decide (g > (4294967295 : Int)))) [])) ∧ (decide (g < (0 : Int)) = true → Post (G (Value.bool true) []))) ?_ (by kernel_rfl)
    have fin : ∀ b, b = (!gOk g) → ∀ hp : Hp R, hp = [] → G (.bool b) hp := by
      intro b hb hp hhp
      subst hb hhp
      subst hG
      exact ⟨[], rfl, rfl, trivial, rfl, rfl, rfl, rfl⟩
    clear hG
    repeat' (first | apply And.intro | apply Vc.mk | apply fits.mk | intro h | apply Post.mk)
    all_goals (try simp only [decide_eq_true_eq, decide_eq_false_iff_not, Nat.zero_add, ge_iff_le, Int.not_le, Int.not_lt, Int.toNat_natCast, beq_iff_eq, beq_eq_false_iff_ne, bne_iff_ne, bne_eq_false_iff_eq, Bool.not_eq_true', Bool.not_eq_false'] at *)
    all_goals first | contradiction | omega | (apply congrArg Value.bool; assumption) | exact congrArg Value.bool (decide_eq_true (by assumption)) | exact congrArg Value.bool (decide_eq_false (Int.not_lt.mpr (by assumption))) | exact ⟨rfl, by omega⟩ | exact rfl | (simp [*, -List.getD_eq_getElem?_getD]; done) | skip
    · exact fin _ (by unfold gOk maxG; rw [decide_eq_true (by omega : 0 ≤ g), Bool.true_and, ← decide_not]; congr 1; exact propext (by omega)) _ rfl
    · exact fin _ (by unfold gOk; rw [decide_eq_false (by omega)]; rfl) _ rfl
  · cases hx
def ixG (la : List Int) : Int := if la.findIdx (fun g => !gOk g) < la.length then (la.findIdx (fun g => !gOk g) : Nat) else -1
theorem fi_stepG {p : Int → Bool} {l : List Int} {i : Nat} (h : i ≤ l.findIdx p) (hi : i < l.length) (hp : p (l.getD i 0) = false) : i + 1 ≤ l.findIdx p := by
  rcases Nat.lt_or_ge i (l.findIdx p) with hh | hh
  · exact hh
  · have e : l.findIdx p = i := by omega
    have := List.findIdx_getElem (xs := l) (p := p) (w := by omega)
    rw [List.getD_eq_getElem?_getD, List.getElem?_eq_getElem hi] at hp
    simp only [e] at this
    simp only [Option.getD_some] at hp
    rw [hp] at this; cases this
theorem fi_hitG {p : Int → Bool} {l : List Int} {i : Nat} (h : i ≤ l.findIdx p) (hi : i < l.length) (hp : p (l.getD i 0) = true) : l.findIdx p = i := by
  rw [List.getD_eq_getElem?_getD, List.getElem?_eq_getElem hi] at hp
  simp only [Option.getD_some] at hp
  rcases Nat.lt_or_ge i (l.findIdx p) with hh | hh
  · have := List.not_of_lt_findIdx hh; rw [hp] at this; cases this
  · omega
def TIxG {R : Type} : Tab R := [(56, liftC zN 2 (con1 lasfP))]
theorem TIxG_ok {R : Type} {D : Res R} : TabOk D Tryd.prog (TIxG : Tab R) := ⟨liftC_ok _ _ lasf_ok, trivial⟩
def ixgP {R : Type} : Prim R := fun args hh => match args, hh with
  | [.slice (some ⟨0, 0, some 1000⟩) n c, .func (.func 56) ⟨[]⟩ ⟨[]⟩], [some (.inr (.inr (.inl ⟨[.int .i64 0], n', [⟨la, [], []⟩]⟩)))] => some ⟨n = la.length ∧ n' = la.length ∧ la.length < 1000000, .int .i64 (ixG la), none, hh, [], []⟩
  | _, _ => none
theorem ixg_ok {R : Type} {D : Res R} : ConOk D Tryd.prog 63 (con1 ixgP) := by
  refine con1_ok (prim_atM 1 (fn := Tryd.f63) (root := codeOf Tryd.f63) (by kernel_rfl) (by kernel_rfl) (by kernel_rfl) fun args hh x hx => ?_)
  unfold ixgP at hx
  split at hx
  · rename_i n c n' la
    injection hx with hx
    subst hx
    refine ⟨by first | exact Nat.le_refl _ | exact Nat.zero_le _ | exact Nat.le_succ _ | exact Nat.le_add_left 1 3 | exact Nat.le_add_left 2 2 | exact Nat.le_add_left 1 2 | exact Nat.le_add_left 4 2 | exact Nat.le_add_left 4 1 | exact Nat.le_add_left 5 1 | exact Nat.le_add_left 3 2 | exact Nat.le_add_left 5 3, noLit rfl, (fun hw => by first | rfl | cases hw), fun _ hv => ?_⟩
    obtain ⟨rfl, rfl, hb⟩ := hv
    generalize hG : Rx.Ends (R := R) _ _ = G
    refine rx_okQ (T := TIxG) TIxG_ok mixed 200 (q := At D Tryd.prog (codeOf Tryd.f63) 1 (retK Tryd.prog (Array.toList (Func.results Tryd.f63)) fun v h => G v (keep 1 h)) [Sum.inl [1, 0, 1, 0], Sum.inr (Sum.inl 0), Sum.inl [1, 1]] (SS.mk [some (Value.slice (some (Addr.mk 0 0 (some 1000))) (List.length la) c), some (Value.func (Fn.func 56) (Array.mk []) (Array.mk [])), none, none, some (Value.int IntKind.i64 0), none, some (Value.slice (some (Addr.mk 0 0 (some 1000))) (List.length la) c), some (Value.int IntKind.i64 (↑(List.length la) : Int)), some (Value.int IntKind.i64 0), none, none, none, none, none, none, none, none, none, none] [] [some (Sum.inr (Sum.inr (Sum.inl (Row.mk [Value.int IntKind.i64 0] (List.length la) [Col.mk la [] []]))))])) ?_ (by kernel_rfl)
    refine loop_atM (by kernel_rfl) (ι := Nat) (fun i => i ≤ la.findIdx (fun g => !gOk g)) [0, 1, 7, 8] (fun i => [.slice (some ⟨0, 0, some 1000⟩) la.length c, .func (.func 56) ⟨[]⟩ ⟨[]⟩, .int .i64 la.length, .int .i64 i]) (fun i => [some (.inr (.inr (.inl ⟨[.int .i64 0], la.length, [⟨la, [], []⟩]⟩)))]) (fun i => la.length - i) 19 (fun i hi => ⟨rfl, rfl, Nat.le_of_ble_eq_true rfl⟩) ⟨0, Nat.zero_le _, ⟨[0], rfl, ⟨rfl, trivial⟩, rfl, rfl, rfl, rfl⟩⟩ fun i hi => ?_
    refine rx_okQ (T := TIxG) TIxG_ok mixed 200 (q := (decide ((↑i : Int) < (↑(List.length la) : Int)) = true → Vc ((0 : Int) ≤ (↑i : Int) ∧ (↑i : Int) < (↑(List.length la) : Int) ∧ 0 + List.length la ≤ List.length la) ∧ Vc (0 + Int.toNat (↑i : Int) < List.length la) ∧ Vc True ∧ ((!gOk (List.getD la (0 + Int.toNat (↑i : Int)) (0 : Int))) = true → Post (G (Value.int IntKind.i64 (↑i : Int)) [some (Sum.inr (Sum.inr (Sum.inl (Row.mk [Value.int IntKind.i64 0] (List.length la) [Col.mk la [] []]))))])) ∧ ((!gOk (List.getD la (0 + Int.toNat (↑i : Int)) (0 : Int))) = false → Vc (fits ((↑i : Int) + (1 : Int))) ∧ Post (∃ j, j ≤ List.findIdx (fun g => !gOk g) la ∧ List.length la - j < List.length la - i ∧ FitsM R 1 19 [0, 1, 7, 8] [Value.slice (some (Addr.mk 0 0 (some 1000))) (List.length la) c, Value.func (Fn.func (56 : FuncId)) (Array.mk []) (Array.mk []), Value.int IntKind.i64 (↑(List.length la) : Int), Value.int IntKind.i64 (↑j : Int)] [some (Sum.inr (Sum.inr (Sum.inl (Row.mk [Value.int IntKind.i64 0] (List.length la) [Col.mk la [] []]))))] [some (Value.slice (some (Addr.mk 0 0 (some 1000))) (List.length la) c), some (Value.func (Fn.func (56 : FuncId)) (Array.mk []) (Array.mk [])), some (Value.int IntKind.i64 (↑(List.length la) : Int)), some (Value.int IntKind.i64 ((↑i : Int) + (1 : Int)))] [some (Sum.inr (Sum.inr (Sum.inl (Row.mk [Value.int IntKind.i64 0] (List.length la) [Col.mk la [] []]))))] 19))) ∧ (decide ((↑i : Int) < (↑(List.length la) : Int)) = false → Post (G (Value.int IntKind.i64 (-1 : Int)) [some (Sum.inr (Sum.inr (Sum.inl (Row.mk [Value.int IntKind.i64 0] (List.length la) [Col.mk la [] []]))))]))) ?_ (by kernel_rfl)
    subst hG
    repeat' (first | apply And.intro | apply Vc.mk | apply fits.mk | intro h | apply Post.mk)
    all_goals (try simp only [decide_eq_true_eq, decide_eq_false_iff_not, Nat.zero_add, ge_iff_le, Int.not_le, Int.not_lt, Int.toNat_natCast, beq_iff_eq, beq_eq_false_iff_ne, bne_iff_ne, bne_eq_false_iff_eq, Bool.not_eq_true', Bool.not_eq_false'] at *)
    all_goals first | contradiction | omega | (apply congrArg Value.bool; assumption) | exact congrArg Value.bool (decide_eq_true (by assumption)) | exact congrArg Value.bool (decide_eq_false (Int.not_lt.mpr (by assumption))) | exact ⟨rfl, by omega⟩ | exact rfl | (simp [*, -List.getD_eq_getElem?_getD]; done) | skip
    · have e := fi_hitG hi (by omega) (by simp_all)
      rw [show ixG la = (i : Nat) from by unfold ixG; rw [e, if_pos (by omega)]]
      exact ⟨[0], rfl, rfl, ⟨rfl, trivial⟩, rfl, rfl, rfl, rfl⟩
    · exact ⟨i + 1, fi_stepG hi (by omega) (by simp_all), by omega, ⟨[0], rfl, ⟨rfl, trivial⟩, rfl, rfl, rfl, rfl⟩⟩
    · rw [show ixG la = -1 from by unfold ixG; rw [if_neg (by omega)]]
      exact ⟨[0], rfl, rfl, ⟨rfl, trivial⟩, rfl, rfl, rfl, rfl⟩
  · cases hx
def TCtG {R : Type} : Tab R := [(63, liftC zN 2 (con1 ixgP))]
theorem TCtG_ok {R : Type} {D : Res R} : TabOk D Tryd.prog (TCtG : Tab R) := ⟨liftC_ok _ _ ixg_ok, trivial⟩
def ctgP {R : Type} : Prim R := fun args hh => match args, hh with
  | [.slice (some ⟨0, 0, some 1000⟩) n c, .func (.func 56) ⟨[]⟩ ⟨[]⟩], [some (.inr (.inr (.inl ⟨[.int .i64 0], n', [⟨la, [], []⟩]⟩)))] => some ⟨n = la.length ∧ n' = la.length ∧ la.length < 1000000, .bool (!allI la.length (fun i => gOk (la.getD i 0))), none, hh, [], []⟩
  | _, _ => none
theorem ctg_ok {R : Type} {D : Res R} : ConOk D Tryd.prog 55 (con1 ctgP) := by
  refine con1_ok (prim_atM 1 (fn := Tryd.f55) (root := codeOf Tryd.f55) (by kernel_rfl) (by kernel_rfl) (by kernel_rfl) fun args hh x hx => ?_)
  unfold ctgP at hx
  split at hx
  · rename_i n c n' la
    injection hx with hx
    subst hx
    refine ⟨by first | exact Nat.le_refl _ | exact Nat.zero_le _ | exact Nat.le_succ _ | exact Nat.le_add_left 1 3 | exact Nat.le_add_left 2 2 | exact Nat.le_add_left 1 2 | exact Nat.le_add_left 4 2 | exact Nat.le_add_left 4 1 | exact Nat.le_add_left 5 1 | exact Nat.le_add_left 3 2 | exact Nat.le_add_left 5 3, noLit rfl, (fun hw => by first | rfl | cases hw), fun _ hv => ?_⟩
    obtain ⟨rfl, rfl, hb⟩ := hv
    generalize hG : Rx.Ends (R := R) _ _ = G
    refine rx_okQ (T := TCtG) TCtG_ok mixed 200 (q := Vc (List.length la = List.length la ∧ List.length la = List.length la ∧ List.length la < 1000000) ∧ Post (G (Value.bool (decide (ixG la ≥ (0 : Int)))) [some (Sum.inr (Sum.inr (Sum.inl (Row.mk [Value.int IntKind.i64 0] (List.length la) [Col.mk la [] []]))))])) ?_ (by kernel_rfl)
    subst hG
    repeat' (first | apply And.intro | apply Vc.mk | apply fits.mk | intro h | apply Post.mk)
    all_goals (try simp only [decide_eq_true_eq, decide_eq_false_iff_not, Nat.zero_add, ge_iff_le, Int.not_le, Int.not_lt, Int.toNat_natCast, beq_iff_eq, beq_eq_false_iff_ne, bne_iff_ne, bne_eq_false_iff_eq, Bool.not_eq_true', Bool.not_eq_false'] at *)
    all_goals first | contradiction | omega | (apply congrArg Value.bool; assumption) | exact congrArg Value.bool (decide_eq_true (by assumption)) | exact congrArg Value.bool (decide_eq_false (Int.not_lt.mpr (by assumption))) | exact ⟨rfl, by omega⟩ | exact rfl | (simp [*, -List.getD_eq_getElem?_getD]; done) | skip
    rw [show (!allI la.length (fun i => gOk (la.getD i 0))) = decide (ixG la ≥ 0) from ?_]
    · exact ⟨[0], rfl, rfl, ⟨rfl, trivial⟩, rfl, rfl, rfl, rfl⟩
    have hle := List.findIdx_le_length (xs := la) (p := fun g => !gOk g)
    unfold ixG
    by_cases hh : la.findIdx (fun g => !gOk g) < la.length
    · rw [if_pos hh, decide_eq_true (by omega)]
      have := List.findIdx_getElem (xs := la) (p := fun g => !gOk g) (w := hh)
      rw [allI_no hh (by rw [List.getD_eq_getElem?_getD, List.getElem?_eq_getElem hh]; simpa using this)]; rfl
    · rw [if_neg hh, decide_eq_false (by decide)]
      have : allI la.length (fun i => gOk (la.getD i 0)) = true := allI_iff.2 fun i hi => by
        have := List.not_of_lt_findIdx (xs := la) (p := fun g => !gOk g) (i := i) (by omega)
        rw [List.getD_eq_getElem?_getD, List.getElem?_eq_getElem hi]
        simpa using this
      rw [this]; rfl
  · cases hx
def TLas {R : Type} : Tab R := [(55, liftC zN 2 (con1 ctgP))]
theorem TLas_ok {R : Type} {D : Res R} : TabOk D Tryd.prog (TLas : Tab R) := ⟨liftC_ok _ _ ctg_ok, trivial⟩
def lasP {R : Type} : Prim R := fun args hh => match args, hh with
  | [.slice (some ⟨0, 0, some 1000⟩) n c], [some (.inr (.inr (.inl ⟨[.int .i64 0], n', [⟨la, [], []⟩]⟩)))] => some ⟨n = la.length ∧ n' = la.length ∧ la.length < 1000000, .bool (lasB la), none, hh, [], []⟩
  | _, _ => none
theorem las_ok {R : Type} {D : Res R} : ConOk D Tryd.prog 42 (con1 lasP) := by
  refine con1_ok (prim_atM 1 (fn := Tryd.f42) (root := codeOf Tryd.f42) (by kernel_rfl) (by kernel_rfl) (by kernel_rfl) fun args hh x hx => ?_)
  unfold lasP at hx
  split at hx
  · rename_i n c n' la
    injection hx with hx
    subst hx
    refine ⟨by first | exact Nat.le_refl _ | exact Nat.zero_le _ | exact Nat.le_succ _ | exact Nat.le_add_left 1 3 | exact Nat.le_add_left 2 2 | exact Nat.le_add_left 1 2 | exact Nat.le_add_left 4 2 | exact Nat.le_add_left 4 1 | exact Nat.le_add_left 5 1 | exact Nat.le_add_left 3 2 | exact Nat.le_add_left 5 3, noLit rfl, (fun hw => by first | rfl | cases hw), fun _ hv => ?_⟩
    obtain ⟨rfl, rfl, hb⟩ := hv
    generalize hG : Rx.Ends (R := R) _ _ = G
    refine rx_okQ (T := TLas) TLas_ok mixed 200 (q := (decide ((↑(List.length la) : Int) > (0 : Int)) = true → Vc (fits ((↑(List.length la) : Int) - (1 : Int))) ∧ Vc ((0 : Int) ≤ (↑(List.length la) : Int) - (1 : Int) ∧ (↑(List.length la) : Int) - (1 : Int) < (↑(List.length la) : Int) ∧ 0 + List.length la ≤ List.length la) ∧ Vc (0 + Int.toNat ((↑(List.length la) : Int) - (1 : Int)) < List.length la) ∧ ((List.getD la (0 + Int.toNat ((↑(List.length la) : Int) - (1 : Int))) (0 : Int) == (0 : Int)) = true → Post (G (Value.bool false) [some (Sum.inr (Sum.inr (Sum.inl (Row.mk [Value.int IntKind.i64 0] (List.length la) [Col.mk la [] []]))))])) ∧ ((List.getD la (0 + Int.toNat ((↑(List.length la) : Int) - (1 : Int))) (0 : Int) == (0 : Int)) = false → Vc (List.length la = List.length la ∧ List.length la = List.length la ∧ List.length la < 1000000) ∧ Post (G (Value.bool !!allI (List.length la) fun i => gOk (List.getD la i (0 : Int))) [some (Sum.inr (Sum.inr (Sum.inl (Row.mk [Value.int IntKind.i64 0] (List.length la) [Col.mk la [] []]))))]))) ∧ (decide ((↑(List.length la) : Int) > (0 : Int)) = false → Vc (List.length la = List.length la ∧ List.length la = List.length la ∧ List.length la < 1000000) ∧ Post (G (Value.bool !!allI (List.length la) fun i => gOk (List.getD la i (0 : Int))) [some (Sum.inr (Sum.inr (Sum.inl (Row.mk [Value.int IntKind.i64 0] (List.length la) [Col.mk la [] []]))))]))) ?_ (by kernel_rfl)
    subst hG
    repeat' (first | apply And.intro | apply Vc.mk | apply fits.mk | intro h | apply Post.mk)
    all_goals (try simp only [decide_eq_true_eq, decide_eq_false_iff_not, Nat.zero_add, ge_iff_le, Int.not_le, Int.not_lt, Int.toNat_natCast, beq_iff_eq, beq_eq_false_iff_ne, bne_iff_ne, bne_eq_false_iff_eq, Bool.not_eq_true', Bool.not_eq_false'] at *)
    all_goals first | contradiction | omega | (apply congrArg Value.bool; assumption) | exact congrArg Value.bool (decide_eq_true (by assumption)) | exact congrArg Value.bool (decide_eq_false (Int.not_lt.mpr (by assumption))) | exact ⟨rfl, by omega⟩ | exact rfl | (simp [*, -List.getD_eq_getElem?_getD]; done) | skip
    · rw [show lasB la = false from by unfold lasB endB; rw [decide_eq_true (by omega), decide_eq_true (by rw [show la.length - 1 = ((la.length : Int) - 1).toNat from by omega]; assumption)]; rfl]
      exact ⟨[0], rfl, rfl, ⟨rfl, trivial⟩, rfl, rfl, rfl, rfl⟩
    · rw [show lasB la = (!!allI la.length (fun i => gOk (la.getD i 0))) from by unfold lasB endB; rw [show ((la.length : Int) - 1).toNat = la.length - 1 from by omega] at *; simp_all]
      exact ⟨[0], rfl, rfl, ⟨rfl, trivial⟩, rfl, rfl, rfl, rfl⟩
    · rw [show lasB la = (!!allI la.length (fun i => gOk (la.getD i 0))) from by unfold lasB endB; rw [decide_eq_false (by omega)]; simp]
      exact ⟨[0], rfl, rfl, ⟨rfl, trivial⟩, rfl, rfl, rfl, rfl⟩
  · cases hx
def nanP {R : Type} : Prim R := fun args hh => match args, hh with
  | [.int .i64 a], [] => some ⟨True, .bool false, none, hh, [], []⟩
  | _, _ => none
theorem nan_ok {R : Type} {D : Res R} : ConOk D Tryd.prog 64 (con1 nanP) := by
  refine con1_ok (prim_atM 99 (fn := Tryd.f64) (root := codeOf Tryd.f64) (by kernel_rfl) (by kernel_rfl) (by kernel_rfl) fun args hh x hx => ?_)
  unfold nanP at hx
  split at hx
  · rename_i a
    injection hx with hx
    subst hx
    refine ⟨by first | exact Nat.le_refl _ | exact Nat.zero_le _ | exact Nat.le_succ _ | exact Nat.le_add_left 1 3 | exact Nat.le_add_left 2 2 | exact Nat.le_add_left 1 2 | exact Nat.le_add_left 4 2 | exact Nat.le_add_left 4 1 | exact Nat.le_add_left 5 1 | exact Nat.le_add_left 3 2 | exact Nat.le_add_left 5 3, noLit rfl, (fun hw => by first | rfl | cases hw), fun _ hv => ?_⟩
    generalize hG : Rx.Ends (R := R) _ _ = G
    refine rx_okQ (T := []) trivial mixed 200 (q := Post (G (Value.bool (a != a)) [])) ?_ (by kernel_rfl)
    subst hG
    repeat' (first | apply And.intro | apply Vc.mk | apply fits.mk | intro h | apply Post.mk)
    all_goals (try simp only [decide_eq_true_eq, decide_eq_false_iff_not, Nat.zero_add, ge_iff_le, Int.not_le, Int.not_lt, Int.toNat_natCast, beq_iff_eq, beq_eq_false_iff_ne, bne_iff_ne, bne_eq_false_iff_eq, Bool.not_eq_true', Bool.not_eq_false'] at *)
    all_goals first | contradiction | omega | (apply congrArg Value.bool; assumption) | exact congrArg Value.bool (decide_eq_true (by assumption)) | exact congrArg Value.bool (decide_eq_false (Int.not_lt.mpr (by assumption))) | exact ⟨rfl, by omega⟩ | exact rfl | (simp [*, -List.getD_eq_getElem?_getD]; done) | skip
    rw [show (a != a) = false from by simp]
    exact ⟨[], rfl, rfl, trivial, rfl, rfl, rfl, rfl⟩
  · cases hx
def cmpI (a b : Int) : Int := if a < b then -1 else if b < a then 1 else 0
def TCmpI {R : Type} : Tab R := [(64, liftC zN 2 (con1 nanP))]
theorem TCmpI_ok {R : Type} {D : Res R} : TabOk D Tryd.prog (TCmpI : Tab R) := ⟨liftC_ok _ _ nan_ok, trivial⟩
def cmpiP {R : Type} : Prim R := fun args hh => match args, hh with
  | [.int .i64 a, .int .i64 b], [] => some ⟨True, .int .i64 (cmpI a b), none, hh, [], []⟩
  | _, _ => none
theorem cmpi_ok {R : Type} {D : Res R} : ConOk D Tryd.prog 57 (con1 cmpiP) := by
  refine con1_ok (prim_atM 99 (fn := Tryd.f57) (root := codeOf Tryd.f57) (by kernel_rfl) (by kernel_rfl) (by kernel_rfl) fun args hh x hx => ?_)
  unfold cmpiP at hx
  split at hx
  · rename_i a b
    injection hx with hx
    subst hx
    refine ⟨by first | exact Nat.le_refl _ | exact Nat.zero_le _ | exact Nat.le_succ _ | exact Nat.le_add_left 1 3 | exact Nat.le_add_left 2 2 | exact Nat.le_add_left 1 2 | exact Nat.le_add_left 4 2 | exact Nat.le_add_left 4 1 | exact Nat.le_add_left 5 1 | exact Nat.le_add_left 3 2 | exact Nat.le_add_left 5 3, noLit rfl, (fun hw => by first | rfl | cases hw), fun _ hv => ?_⟩
    generalize hG : Rx.Ends (R := R) _ _ = G
    refine rx_okQ (T := TCmpI) TCmpI_ok mixed 200 (q := Vc True ∧ Vc True ∧ (false = true → (false = true → Post (G (Value.int IntKind.i64 0) [])) ∧ (false = false → Post (G (Value.int IntKind.i64 (-1 : Int)) []))) ∧ (false = false → (false = true → Post (G (Value.int IntKind.i64 1) [])) ∧ (false = false → (decide (a < b) = true → Post (G (Value.int IntKind.i64 (-1 : Int)) [])) ∧ (decide (a < b) = false → (decide (a > b) = true → Post (G (Value.int IntKind.i64 1) [])) ∧ (decide (a > b) = false → Post (G (Value.int IntKind.i64 0) [])))))) ?_ (by kernel_rfl)
    subst hG
    repeat' (first | apply And.intro | apply Vc.mk | apply fits.mk | intro h | apply Post.mk)
    all_goals (try simp only [decide_eq_true_eq, decide_eq_false_iff_not, Nat.zero_add, ge_iff_le, Int.not_le, Int.not_lt, Int.toNat_natCast, beq_iff_eq, beq_eq_false_iff_ne, bne_iff_ne, bne_eq_false_iff_eq, Bool.not_eq_true', Bool.not_eq_false'] at *)
    all_goals first | contradiction | omega | (apply congrArg Value.bool; assumption) | exact congrArg Value.bool (decide_eq_true (by assumption)) | exact congrArg Value.bool (decide_eq_false (Int.not_lt.mpr (by assumption))) | exact ⟨rfl, by omega⟩ | exact rfl | (simp [*, -List.getD_eq_getElem?_getD]; done) | skip
    · rw [show cmpI a b = -1 from by unfold cmpI; rw [if_pos (by omega)]]
      exact ⟨[], rfl, rfl, trivial, rfl, rfl, rfl, rfl⟩
    · rw [show cmpI a b = 1 from by unfold cmpI; rw [if_neg (by omega), if_pos (by omega)]]
      exact ⟨[], rfl, rfl, trivial, rfl, rfl, rfl, rfl⟩
    · rw [show cmpI a b = 0 from by unfold cmpI; rw [if_neg (by omega), if_neg (by omega)]]
      exact ⟨[], rfl, rfl, trivial, rfl, rfl, rfl, rfl⟩
  · cases hx
def TByT {R : Type} : Tab R := [(57, liftC zN 2 (con1 cmpiP))]
theorem TByT_ok {R : Type} {D : Res R} : TabOk D Tryd.prog (TByT : Tab R) := ⟨liftC_ok _ _ cmpi_ok, trivial⟩
def bytP {R : Type} : Prim R := fun args hh => match args, hh with
  | [.agg ⟨[.int .i64 a1, .int .i64 a2, .int .i64 a3, .bool a4, .int .i64 a5, .int .i64 a6]⟩, .agg ⟨[.int .i64 b1, .int .i64 b2, .int .i64 b3, .bool b4, .int .i64 b5, .int .i64 b6]⟩], [] => some ⟨True, .int .i64 (cmpI a3 b3), none, hh, [], []⟩
  | _, _ => none
theorem byt_ok {R : Type} {D : Res R} : ConOk D Tryd.prog 44 (con1 bytP) := by
  refine con1_ok (prim_atM 99 (fn := Tryd.f44) (root := codeOf Tryd.f44) (by kernel_rfl) (by kernel_rfl) (by kernel_rfl) fun args hh x hx => ?_)
  unfold bytP at hx
  split at hx
  · rename_i a1 a2 a3 a4 a5 a6 b1 b2 b3 b4 b5 b6
    injection hx with hx
    subst hx
    refine ⟨by first | exact Nat.le_refl _ | exact Nat.zero_le _ | exact Nat.le_succ _ | exact Nat.le_add_left 1 3 | exact Nat.le_add_left 2 2 | exact Nat.le_add_left 1 2 | exact Nat.le_add_left 4 2 | exact Nat.le_add_left 4 1 | exact Nat.le_add_left 5 1 | exact Nat.le_add_left 3 2 | exact Nat.le_add_left 5 3, noLit rfl, (fun hw => by first | rfl | cases hw), fun _ hv => ?_⟩
    generalize hG : Rx.Ends (R := R) _ _ = G
    refine rx_okQ (T := TByT) TByT_ok mixed 200 (q := Vc True ∧ Post (G (Value.int IntKind.i64 (cmpI a3 b3)) [some (Sum.inl (41, [Value.int IntKind.i64 a1, Value.int IntKind.i64 a2, Value.int IntKind.i64 a3, Value.bool a4, Value.int IntKind.i64 a5, Value.int IntKind.i64 a6])), some (Sum.inl (41, [Value.int IntKind.i64 b1, Value.int IntKind.i64 b2, Value.int IntKind.i64 b3, Value.bool b4, Value.int IntKind.i64 b5, Value.int IntKind.i64 b6]))])) ?_ (by kernel_rfl)
    subst hG
    repeat' (first | apply And.intro | apply Vc.mk | apply fits.mk | intro h | apply Post.mk)
    all_goals (try simp only [decide_eq_true_eq, decide_eq_false_iff_not, Nat.zero_add, ge_iff_le, Int.not_le, Int.not_lt, Int.toNat_natCast, beq_iff_eq, beq_eq_false_iff_ne, bne_iff_ne, bne_eq_false_iff_eq, Bool.not_eq_true', Bool.not_eq_false'] at *)
    all_goals first | contradiction | omega | (apply congrArg Value.bool; assumption) | exact congrArg Value.bool (decide_eq_true (by assumption)) | exact congrArg Value.bool (decide_eq_false (Int.not_lt.mpr (by assumption))) | exact ⟨rfl, by omega⟩ | exact rfl | (simp [*, -List.getD_eq_getElem?_getD]; done) | skip
    exact ⟨[], rfl, rfl, trivial, rfl, rfl, rfl, rfl⟩
  · cases hx
def TIsS {R : Type} : Tab R := [(44, liftC zN 2 (con1 bytP))]
theorem TIsS_ok {R : Type} {D : Res R} : TabOk D Tryd.prog (TIsS : Tab R) := ⟨liftC_ok _ _ byt_ok, trivial⟩
def issP {R : Type} : Prim R := fun args hh => match args, hh with
  | [.slice (some ⟨0, 0, some 6000⟩) n c, .func (.func 44) ⟨[]⟩ ⟨[]⟩], [some (.inr (.inr (.inl r)))] => some ⟨r = rowL (uL r) ∧ n = (uL r).length ∧ (uL r).length < 1000000, .bool (srtB (uL r)), none, hh, [], []⟩
  | _, _ => none
theorem iss_ok {R : Type} {D : Res R} : ConOk D Tryd.prog 43 (con1 issP) := by
  refine con1_ok (prim_atM 1 (fn := Tryd.f43) (root := codeOf Tryd.f43) (by kernel_rfl) (by kernel_rfl) (by kernel_rfl) fun args hh x hx => ?_)
  unfold issP at hx
  split at hx
  · rename_i n c r
    injection hx with hx
    subst hx
    refine ⟨by first | exact Nat.le_refl _ | exact Nat.zero_le _ | exact Nat.le_succ _ | exact Nat.le_add_left 1 3 | exact Nat.le_add_left 2 2 | exact Nat.le_add_left 1 2 | exact Nat.le_add_left 4 2 | exact Nat.le_add_left 4 1 | exact Nat.le_add_left 5 1 | exact Nat.le_add_left 3 2 | exact Nat.le_add_left 5 3, noLit rfl, (fun hw => by first | rfl | cases hw), fun _ hv => ?_⟩
    obtain ⟨hr, rfl, hb⟩ := hv; generalize uL r = l at *; subst hr
    generalize hG : Rx.Ends (R := R) _ _ = G
    refine rx_okQ (T := TIsS) TIsS_ok mixed 200 (q := Vc (fits ((↑(List.length l) : Int) - (1 : Int))) ∧ At D Tryd.prog (codeOf Tryd.f43) 1 (retK Tryd.prog (Array.toList (Func.results Tryd.f43)) fun v h => G v (keep 1 h)) [Sum.inl [1, 0, 1, 0], Sum.inr (Sum.inl 0), Sum.inl [1, 1]] (SS.mk [some (Value.slice (some (Addr.mk 0 0 (some 6000))) (List.length l) c), some (Value.func (Fn.func 44) (Array.mk []) (Array.mk [])), none, none, some (Value.bool false), some (Value.int IntKind.i64 ((↑(List.length l) : Int) - (1 : Int))), some (Value.slice (some (Addr.mk 0 0 (some 6000))) (List.length l) c), some (Value.int IntKind.i64 (↑(List.length l) : Int)), some (Value.int IntKind.i64 ((↑(List.length l) : Int) - (1 : Int))), none, none, none, none, none, none, none, none, none, none, none, none, none, none, none, none] [(4, false)] [some (Sum.inr (Sum.inr (Sum.inl (Row.mk [Value.int IntKind.i64 0, Value.int IntKind.i64 0, Value.int IntKind.i64 0, Value.bool false, Value.int IntKind.i64 0, Value.int IntKind.i64 0] (List.length l) [Col.mk (List.map (fun x => Ls.ix x) l) [] [], Col.mk (List.map (fun x => Ls.gn x) l) [] [], Col.mk (List.map (fun x => Ls.tm x) l) [] [], Col.mk [] (List.map (fun x => Ls.ins x) l) [], Col.mk (List.map (fun x => Ls.key x) l) [] [], Col.mk (List.map (fun x => Ls.id x) l) [] []]))))])) ?_ (by kernel_rfl)
    refine ⟨⟨by omega, by omega⟩, ?_⟩
    refine loop_atM (by kernel_rfl) (ι := Nat) (fun k => k ≤ l.length ∧ ∀ j, l.length - k ≤ j → 0 < j → j < l.length → (l.getD (j - 1) ls0).tm ≤ (l.getD j ls0).tm) [0, 1, 5] (fun k => [.slice (some ⟨0, 0, some 6000⟩) l.length c, .func (.func 44) ⟨[]⟩ ⟨[]⟩, .int .i64 ((l.length : Int) - 1 - k)]) (fun k => [vL l]) (fun k => l.length - k) 25 (fun i hi => ⟨rfl, rfl, Nat.le_refl _⟩) ⟨0, ⟨Nat.zero_le _, fun j h1 h2 h3 => by omega⟩, ?_⟩ fun k hk => ?_
    · rw [show (l.length : Int) - 1 - (0 : Nat) = (l.length : Int) - 1 from by omega]
      exact ⟨[0], rfl, ⟨rfl, trivial⟩, rfl, rfl, rfl, rfl⟩
    obtain ⟨hk, hs⟩ := hk
    refine rx_okQ (T := TIsS) TIsS_ok mixed 200 (q := (decide ((↑(List.length l) : Int) - (1 : Int) - (↑k : Int) > (0 : Int)) = true → Vc ((0 : Int) ≤ (↑(List.length l) : Int) - (1 : Int) - (↑k : Int) ∧ (↑(List.length l) : Int) - (1 : Int) - (↑k : Int) < (↑(List.length l) : Int) ∧ 0 + List.length l ≤ List.length l) ∧ Vc (0 + Int.toNat ((↑(List.length l) : Int) - (1 : Int) - (↑k : Int)) < List.length l) ∧ Vc (fits ((↑(List.length l) : Int) - (1 : Int) - (↑k : Int) - (1 : Int))) ∧ Vc ((0 : Int) ≤ (↑(List.length l) : Int) - (1 : Int) - (↑k : Int) - (1 : Int) ∧ (↑(List.length l) : Int) - (1 : Int) - (↑k : Int) - (1 : Int) < (↑(List.length l) : Int) ∧ 0 + List.length l ≤ List.length l) ∧ Vc (0 + Int.toNat ((↑(List.length l) : Int) - (1 : Int) - (↑k : Int) - (1 : Int)) < List.length l) ∧ Vc True ∧ (decide (cmpI (List.getD (List.map (fun x => Ls.tm x) l) (0 + Int.toNat ((↑(List.length l) : Int) - (1 : Int) - (↑k : Int))) (0 : Int)) (List.getD (List.map (fun x => Ls.tm x) l) (0 + Int.toNat ((↑(List.length l) : Int) - (1 : Int) - (↑k : Int) - (1 : Int))) (0 : Int)) < (0 : Int)) = true → Post (G (Value.bool false) [some (Sum.inr (Sum.inr (Sum.inl (Row.mk [Value.int IntKind.i64 0, Value.int IntKind.i64 0, Value.int IntKind.i64 0, Value.bool false, Value.int IntKind.i64 0, Value.int IntKind.i64 0] (List.length l) [Col.mk (List.map (fun x => Ls.ix x) l) [] [], Col.mk (List.map (fun x => Ls.gn x) l) [] [], Col.mk (List.map (fun x => Ls.tm x) l) [] [], Col.mk [] (List.map (fun x => Ls.ins x) l) [], Col.mk (List.map (fun x => Ls.key x) l) [] [], Col.mk (List.map (fun x => Ls.id x) l) [] []]))))])) ∧ (decide (cmpI (List.getD (List.map (fun x => Ls.tm x) l) (0 + Int.toNat ((↑(List.length l) : Int) - (1 : Int) - (↑k : Int))) (0 : Int)) (List.getD (List.map (fun x => Ls.tm x) l) (0 + Int.toNat ((↑(List.length l) : Int) - (1 : Int) - (↑k : Int) - (1 : Int))) (0 : Int)) < (0 : Int)) = false → Vc (fits ((↑(List.length l) : Int) - (1 : Int) - (↑k : Int) - (1 : Int))) ∧ Post (∃ j, (j ≤ List.length l ∧ ∀ (j_1 : Nat), List.length l - j ≤ j_1 → 0 < j_1 → j_1 < List.length l → Ls.tm (List.getD l (j_1 - 1) ls0) ≤ Ls.tm (List.getD l j_1 ls0)) ∧ List.length l - j < List.length l - k ∧ FitsM R 1 25 [0, 1, 5] [Value.slice (some (Addr.mk 0 0 (some 6000))) (List.length l) c, Value.func (Fn.func (44 : FuncId)) (Array.mk []) (Array.mk []), Value.int IntKind.i64 ((↑(List.length l) : Int) - (1 : Int) - (↑j : Int))] [vL l] [some (Value.slice (some (Addr.mk 0 0 (some 6000))) (List.length l) c), some (Value.func (Fn.func (44 : FuncId)) (Array.mk []) (Array.mk [])), some (Value.int IntKind.i64 ((↑(List.length l) : Int) - (1 : Int) - (↑k : Int) - (1 : Int)))] [some (Sum.inr (Sum.inr (Sum.inl (Row.mk [Value.int IntKind.i64 0, Value.int IntKind.i64 0, Value.int IntKind.i64 0, Value.bool false, Value.int IntKind.i64 0, Value.int IntKind.i64 0] (List.length l) [Col.mk (List.map (fun x => Ls.ix x) l) [] [], Col.mk (List.map (fun x => Ls.gn x) l) [] [], Col.mk (List.map (fun x => Ls.tm x) l) [] [], Col.mk [] (List.map (fun x => Ls.ins x) l) [], Col.mk (List.map (fun x => Ls.key x) l) [] [], Col.mk (List.map (fun x => Ls.id x) l) [] []]))))] 25))) ∧ (decide ((↑(List.length l) : Int) - (1 : Int) - (↑k : Int) > (0 : Int)) = false → Post (G (Value.bool true) [some (Sum.inr (Sum.inr (Sum.inl (Row.mk [Value.int IntKind.i64 0, Value.int IntKind.i64 0, Value.int IntKind.i64 0, Value.bool false, Value.int IntKind.i64 0, Value.int IntKind.i64 0] (List.length l) [Col.mk (List.map (fun x => Ls.ix x) l) [] [], Col.mk (List.map (fun x => Ls.gn x) l) [] [], Col.mk (List.map (fun x => Ls.tm x) l) [] [], Col.mk [] (List.map (fun x => Ls.ins x) l) [], Col.mk (List.map (fun x => Ls.key x) l) [] [], Col.mk (List.map (fun x => Ls.id x) l) [] []]))))]))) ?_ (by kernel_rfl)
    subst hG
    have gt : ∀ k, (l.map fun x => x.tm).getD k 0 = (l.getD k ls0).tm := fun k => gL (·.tm) 0 rfl
    have cm : ∀ a b, cmpI a b < 0 ↔ a < b := fun a b => by unfold cmpI; split; omega; split <;> omega
    repeat' (first | apply And.intro | apply Vc.mk | apply fits.mk | intro h | apply Post.mk)
    all_goals (try simp only [decide_eq_true_eq, decide_eq_false_iff_not, Nat.zero_add, ge_iff_le, Int.not_le, Int.not_lt, Int.toNat_natCast, beq_iff_eq, beq_eq_false_iff_ne, bne_iff_ne, bne_eq_false_iff_eq, Bool.not_eq_true', Bool.not_eq_false'] at *)
    all_goals first | contradiction | omega | (apply congrArg Value.bool; assumption) | exact congrArg Value.bool (decide_eq_true (by assumption)) | exact congrArg Value.bool (decide_eq_false (Int.not_lt.mpr (by assumption))) | exact ⟨rfl, by omega⟩ | exact rfl | (simp [*, -List.getD_eq_getElem?_getD]; done) | skip
    · rename_i h0 h
      have e1 : ((l.length : Int) - 1 - k).toNat = l.length - 1 - k := by omega
      have e2 : ((l.length : Int) - 1 - k - 1).toNat = l.length - 1 - k - 1 := by omega
      simp only [Nat.zero_add, e1, e2, gt, cm] at h
      rw [show srtB l = false from allI_no (i := l.length - 1 - k) (by omega) (by rw [decide_eq_false (by omega), decide_eq_false (by omega)]; rfl)]
      exact ⟨[0], rfl, rfl, ⟨rfl, trivial⟩, rfl, rfl, rfl, rfl⟩
    · rename_i h0 h
      have e1 : ((l.length : Int) - 1 - k).toNat = l.length - 1 - k := by omega
      have e2 : ((l.length : Int) - 1 - k - 1).toNat = l.length - 1 - k - 1 := by omega
      have h' : ¬ cmpI ((l.map fun x => x.tm).getD ((l.length : Int) - 1 - k).toNat 0) ((l.map fun x => x.tm).getD ((l.length : Int) - 1 - k - 1).toNat 0) < 0 := Int.not_lt.2 h
      simp only [e1, e2, gt, cm] at h'
      refine ⟨k + 1, ⟨by omega, fun j h1 h2 h3 => ?_⟩, by omega, ?_⟩
      · by_cases hj : j = l.length - 1 - k
        · subst hj; omega
        · exact hs j (by omega) h2 h3
      · rw [show (l.length : Int) - 1 - ((k + 1 : Nat) : Int) = (l.length : Int) - 1 - k - 1 from by omega]
        exact ⟨[0], rfl, ⟨rfl, trivial⟩, rfl, rfl, rfl, rfl⟩
    · rw [show srtB l = true from allI_iff.2 fun i hi => by
        rcases Nat.eq_zero_or_pos i with h0 | h0
        · rw [decide_eq_true h0]; rfl
        · rw [decide_eq_true (hs i (by omega) h0 hi), Bool.or_true]]
      exact ⟨[0], rfl, rfl, ⟨rfl, trivial⟩, rfl, rfl, rfl, rfl⟩
  · cases hx
end Go.Proofs.YtobdpddamdkabaaDoor.Tg
