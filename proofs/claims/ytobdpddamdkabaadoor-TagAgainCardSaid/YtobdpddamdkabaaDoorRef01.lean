/- whilomref01: Rest, Ints. -/
import Derived.Test.YtobdpddamdkabaaDoorRxP
namespace Go.Proofs.YtobdpddamdkabaaDoor.Rx
set_option linter.unusedVariables false
set_option linter.unusedSimpArgs false
set_option maxRecDepth 100000
def restI (a n : Int) : Int := ((a.tmod n) + n).tmod n
theorem rest_bounds {a n : Int} (h : 0 < n) : 0 ≤ restI a n ∧ restI a n < n := by
  have h1 : 0 ≤ a.tmod n + n := by have := Int.tmod_lt_of_pos a h; have := Int.lt_tmod_of_pos a h; omega
  exact ⟨Int.tmod_nonneg _ h1, Int.tmod_lt_of_pos _ h⟩
def restP {R : Type} : Prim R := fun args hh => match args, hh with
  | [.int .i64 a, .int .i64 n], [] => some ⟨0 < n ∧ n < 1000000, .int .i64 (restI a n), none, hh, [], []⟩
  | _, _ => none
theorem rest_ok {R : Type} {D : Res R} : ConOk D Tryd.prog 17 (con1 restP) := by
  refine con1_ok (prim_atM 99 (fn := Tryd.f17) (root := codeOf Tryd.f17) (by kernel_rfl) (by kernel_rfl) (by kernel_rfl) fun args hh x hx => ?_)
  unfold restP at hx
  split at hx
  · rename_i a n
    injection hx with hx
    subst hx
    refine ⟨by first | exact Nat.le_refl _ | exact Nat.zero_le _ | exact Nat.le_succ _ | exact Nat.le_add_left 1 3 | exact Nat.le_add_left 2 2 | exact Nat.le_add_left 1 2 | exact Nat.le_add_left 4 2 | exact Nat.le_add_left 4 1 | exact Nat.le_add_left 5 1, noLit rfl, (fun hw => by first | rfl | cases hw), fun _ hv => ?_⟩
    generalize hG : Rx.Ends (R := R) _ _ = G
    refine rx_ok (T := []) trivial mixed 200 ?_
    refine as_text (q := Vc (n ≠ (0 : Int)) ∧ Vc (fits (Int.tmod a n + n)) ∧ Vc (n ≠ (0 : Int)) ∧ Post (G (Value.int IntKind.i64 (Int.tmod (Int.tmod a n + n) n)) [])) ?_ (by kernel_rfl)
    subst hG
    have h1 := Int.tmod_lt_of_pos a hv.1
    have h2 := Int.lt_tmod_of_pos a hv.1
    refine ⟨⟨by omega⟩, ⟨⟨by omega, by omega⟩⟩, ⟨by omega⟩, ⟨⟨[], rfl, rfl, trivial, rfl, rfl, rfl, rfl⟩⟩⟩
  · cases hx
theorem take_same {x y : List Int} (hl : x.length = y.length) (h : x.take x.length = y.take x.length) : x = y := by
  rw [List.take_length, hl, List.take_length] at h
  exact h
def intsP {R : Type} : Prim R := fun args hh => match args, hh with
  | [.slice (some ⟨0, 0, some 1000⟩) n _, .slice (some ⟨1, 0, some 1000⟩) m _], [some (.inr (.inr (.inl ⟨[.int .i64 0], n', [⟨x, [], []⟩]⟩))), some (.inr (.inr (.inl ⟨[.int .i64 0], m', [⟨y, [], []⟩]⟩)))] => some ⟨n = x.length ∧ n' = x.length ∧ m = y.length ∧ m' = y.length ∧ x.length < 1000000, .bool (decide (x = y)), none, hh, [], []⟩
  | _, _ => none
theorem ints_ok {R : Type} {D : Res R} : ConOk D Tryd.prog 33 (con1 intsP) := by
  refine con1_ok (prim_atM 2 (fn := Tryd.f33) (root := codeOf Tryd.f33) (by kernel_rfl) (by kernel_rfl) (by kernel_rfl) fun args hh x hx => ?_)
  unfold intsP at hx
  split at hx
  · rename_i n c m c' n' x m' y
    injection hx with hx
    subst hx
    refine ⟨by first | exact Nat.le_refl _ | exact Nat.zero_le _ | exact Nat.le_succ _ | exact Nat.le_add_left 1 3 | exact Nat.le_add_left 2 2 | exact Nat.le_add_left 1 2 | exact Nat.le_add_left 4 2 | exact Nat.le_add_left 4 1 | exact Nat.le_add_left 5 1, noLit rfl, (fun hw => by first | rfl | cases hw), fun _ hv => ?_⟩
    obtain ⟨rfl, rfl, rfl, rfl, v5⟩ := hv
    generalize hG : Rx.Ends (R := R) _ _ = G
    refine rx_ok (T := []) trivial mixed 200 ?_
    refine as_text (q := (((↑(List.length x) : Int) != (↑(List.length y) : Int)) = true → Post (G (Value.bool false) [some (Sum.inr (Sum.inr (Sum.inl (Row.mk [Value.int IntKind.i64 0] (List.length x) [Col.mk x [] []])))), some (Sum.inr (Sum.inr (Sum.inl (Row.mk [Value.int IntKind.i64 0] (List.length y) [Col.mk y [] []]))))])) ∧ (((↑(List.length x) : Int) != (↑(List.length y) : Int)) = false → At D Tryd.prog (codeOf Tryd.f33) 2 (retK Tryd.prog (Array.toList (Func.results Tryd.f33)) fun v h => G v (keep 2 h)) [Sum.inl [1, 1, 0, 1, 0], Sum.inr (Sum.inl 0), Sum.inl [1, 1, 1]] (SS.mk [some (Value.slice (some (Addr.mk 0 0 (some 1000))) (List.length x) c), some (Value.slice (some (Addr.mk 1 0 (some 1000))) (List.length y) c'), none, none, some (Value.bool false), some (Value.int IntKind.i64 0), some (Value.slice (some (Addr.mk 0 0 (some 1000))) (List.length x) c), some (Value.int IntKind.i64 (↑(List.length x) : Int)), some (Value.slice (some (Addr.mk 1 0 (some 1000))) (List.length y) c'), some (Value.int IntKind.i64 (↑(List.length y) : Int)), some (Value.bool false), none, none, none, none, none, none, none, none, none, none, none, none, none, none, none] [(10, false), (4, false)] [some (Sum.inr (Sum.inr (Sum.inl (Row.mk [Value.int IntKind.i64 0] (List.length x) [Col.mk x [] []])))), some (Sum.inr (Sum.inr (Sum.inl (Row.mk [Value.int IntKind.i64 0] (List.length y) [Col.mk y [] []]))))]))) ?_ (by kernel_rfl)
    have fin : ∀ b, b = decide (x = y) → ∀ hp : Hp R, hp = [some (.inr (.inr (.inl ⟨[.int .i64 0], x.length, [⟨x, [], []⟩]⟩))), some (.inr (.inr (.inl ⟨[.int .i64 0], y.length, [⟨y, [], []⟩]⟩)))] → G (.bool b) hp := by
      intro b hb hp hhp
      subst hb hhp
      rw [← hG]
      refine ⟨⟨[0, 1], rfl, rfl, ?_, rfl, rfl, rfl, rfl⟩⟩
      simp [Pulls, pullB, nth, at2, dnL, dnV, mvL, mvV, mvA, mvQ_lt, blt_true, blt_false, RowLe, colI, colB]
    clear hG
    have no : x.length ≠ y.length → decide (x = y) = false := fun h => by simp; intro e; exact h (by rw [e])
    refine ⟨fun h => ?_, fun h => ?_⟩
    · have hl : x.length ≠ y.length := by simp at h; omega
      exact ⟨fin _ (no hl).symm _ rfl⟩
    · have hl : x.length = y.length := by simp at h; omega
      refine loop_atM (by kernel_rfl) (ι := Nat) (fun i => i ≤ x.length ∧ x.take i = y.take i) [0, 1, 5] (fun i => [.slice (some ⟨0, 0, some 1000⟩) x.length c, .slice (some ⟨1, 0, some 1000⟩) y.length c', .int .i64 i]) (fun i => [some (.inr (.inr (.inl ⟨[.int .i64 0], x.length, [⟨x, [], []⟩]⟩))), some (.inr (.inr (.inl ⟨[.int .i64 0], y.length, [⟨y, [], []⟩]⟩)))]) (fun i => x.length - i) 26 (fun i hi => ⟨rfl, rfl, Nat.le_refl _⟩) ⟨0, ⟨Nat.zero_le _, rfl⟩, ⟨[0, 1], ?_, ?_, rfl, rfl, rfl, rfl⟩⟩ fun i hi => ?_
      · rfl
      · simp [Pulls, pullB, nth, at2, dnL, dnV, mvL, mvV, mvA, mvQ_lt, blt_true, blt_false, RowLe, colI, colB]
      obtain ⟨hi, ht⟩ := hi
      refine rx_ok (T := []) trivial mixed 200 ?_
      refine as_text (q := (decide ((↑i : Int) < (↑(List.length x) : Int)) = true → Vc ((0 : Int) ≤ (↑i : Int) ∧ (↑i : Int) < (↑(List.length x) : Int) ∧ 0 + List.length x ≤ List.length x) ∧ Vc (0 + Int.toNat (↑i : Int) < List.length x) ∧ Vc ((0 : Int) ≤ (↑i : Int) ∧ (↑i : Int) < (↑(List.length y) : Int) ∧ 0 + List.length y ≤ List.length y) ∧ Vc (0 + Int.toNat (↑i : Int) < List.length y) ∧ ((List.getD x (0 + Int.toNat (↑i : Int)) (0 : Int) != List.getD y (0 + Int.toNat (↑i : Int)) (0 : Int)) = true → Post (G (Value.bool false) [some (Sum.inr (Sum.inr (Sum.inl (Row.mk [Value.int IntKind.i64 0] (List.length x) [Col.mk x [] []])))), some (Sum.inr (Sum.inr (Sum.inl (Row.mk [Value.int IntKind.i64 0] (List.length y) [Col.mk y [] []]))))])) ∧ ((List.getD x (0 + Int.toNat (↑i : Int)) (0 : Int) != List.getD y (0 + Int.toNat (↑i : Int)) (0 : Int)) = false → Vc (fits ((↑i : Int) + (1 : Int))) ∧ Post (∃ j, (j ≤ List.length x ∧ List.take j x = List.take j y) ∧ List.length x - j < List.length x - i ∧ FitsM R 2 26 [0, 1, 5] [Value.slice (some (Addr.mk 0 0 (some 1000))) (List.length x) c, Value.slice (some (Addr.mk 1 0 (some 1000))) (List.length y) c', Value.int IntKind.i64 (↑j : Int)] [some (Sum.inr (Sum.inr (Sum.inl (Row.mk [Value.int IntKind.i64 0] (List.length x) [Col.mk x [] []])))), some (Sum.inr (Sum.inr (Sum.inl (Row.mk [Value.int IntKind.i64 0] (List.length y) [Col.mk y [] []]))))] [some (Value.slice (some (Addr.mk 0 0 (some 1000))) (List.length x) c), some (Value.slice (some (Addr.mk 1 0 (some 1000))) (List.length y) c'), some (Value.int IntKind.i64 ((↑i : Int) + (1 : Int)))] [some (Sum.inr (Sum.inr (Sum.inl (Row.mk [Value.int IntKind.i64 0] (List.length x) [Col.mk x [] []])))), some (Sum.inr (Sum.inr (Sum.inl (Row.mk [Value.int IntKind.i64 0] (List.length y) [Col.mk y [] []]))))] 26))) ∧ (decide ((↑i : Int) < (↑(List.length x) : Int)) = false → Post (G (Value.bool true) [some (Sum.inr (Sum.inr (Sum.inl (Row.mk [Value.int IntKind.i64 0] (List.length x) [Col.mk x [] []])))), some (Sum.inr (Sum.inr (Sum.inl (Row.mk [Value.int IntKind.i64 0] (List.length y) [Col.mk y [] []]))))]))) ?_ (by kernel_rfl)
      refine ⟨fun h => ?_, fun h => ?_⟩
      · have hlt : i < x.length := by have h' := of_decide_eq_true h; omega
        have t1 := take_succ_getD (l := x) 0 hlt
        have t2 := take_succ_getD (l := y) 0 (by omega : i < y.length)
        simp only [Nat.zero_add, Int.toNat_natCast]
        repeat' (first | apply And.intro | apply Vc.mk | apply fits.mk | intro h | apply Post.mk)
        all_goals (try simp only [decide_eq_true_eq, decide_eq_false_iff_not, Nat.zero_add, ge_iff_le, Int.not_le, Int.not_lt, Int.toNat_natCast, beq_iff_eq, beq_eq_false_iff_ne, bne_iff_ne, bne_eq_false_iff_eq, Bool.not_eq_true', Bool.not_eq_false'] at *)
        all_goals first | contradiction | omega | (apply congrArg Value.bool; assumption) | exact congrArg Value.bool (decide_eq_true (by assumption)) | exact congrArg Value.bool (decide_eq_false (Int.not_lt.mpr (by assumption))) | exact ⟨rfl, by omega⟩ | exact rfl | (simp [*, -List.getD_eq_getElem?_getD]; done) | skip
        · have hne : x.getD i 0 ≠ y.getD i 0 := by assumption
          refine fin _ ?_ _ rfl
          symm
          simp only [decide_eq_false_iff_not]
          intro e
          exact hne (by rw [e])
        · have he : x.getD i 0 = y.getD i 0 := by assumption
          refine ⟨i + 1, ⟨by omega, by rw [t1, t2, ht, he]⟩, by omega, ⟨[0, 1], ?_, ?_, rfl, rfl, rfl, rfl⟩⟩
          · rfl
          · simp [Pulls, pullB, nth, at2, dnL, dnV, mvL, mvV, mvA, mvQ_lt, blt_true, blt_false, RowLe, colI, colB]
      · obtain rfl : i = x.length := by have h' := of_decide_eq_false h; omega
        refine ⟨fin _ ?_ _ rfl⟩
        rw [take_same hl ht]
        simp
  · cases hx
end Go.Proofs.YtobdpddamdkabaaDoor.Rx
