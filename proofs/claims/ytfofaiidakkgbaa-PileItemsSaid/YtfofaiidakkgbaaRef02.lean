/- whilomref02: Same. -/
import Derived.Test.YtfofaiidakkgbaaRef01
namespace Go.Proofs.Ytfofaiidakkgbaa.Rx
set_option linter.unusedVariables false
set_option linter.unusedSimpArgs false
set_option maxRecDepth 100000
def sameP {R : Type} : Prim R := fun args hh => match args, hh with
  | [.slice (some ⟨0, 0, some 2000⟩) n _, .slice (some ⟨1, 0, some 2000⟩) m _], [some (.inr (.inr (.inl ⟨[.int .i64 0, .int .i64 0], n', [⟨x, [], []⟩, ⟨u, [], []⟩]⟩))), some (.inr (.inr (.inl ⟨[.int .i64 0, .int .i64 0], m', [⟨y, [], []⟩, ⟨v, [], []⟩]⟩)))] => some ⟨n = x.length ∧ n' = x.length ∧ m = y.length ∧ m' = y.length ∧ x.length < 1000000 ∧ u.length = x.length ∧ v.length = y.length, .bool (decide (x = y ∧ u = v)), none, hh, [], []⟩
  | _, _ => none
theorem same_ok {R : Type} {D : Res R} : ConOk D Try.prog 21 (con1 sameP) := by
  refine con1_ok (prim_at (fn := Try.f21) (root := codeOf Try.f21) (by kernel_rfl) (by kernel_rfl) (by kernel_rfl) fun args hh x hx => ?_)
  unfold sameP at hx
  split at hx
  · rename_i n c m c' n' x u m' y v
    injection hx with hx
    subst hx
    refine ⟨by first | exact Nat.le_refl _ | exact Nat.zero_le _ | exact Nat.le_succ _, noLit rfl, (fun hw => by first | rfl | cases hw), fun _ hv => ?_⟩
    obtain ⟨rfl, rfl, rfl, rfl, v5, v6, v7⟩ := hv
    generalize hG : Rx.Ends (R := R) _ _ = G
    refine rx_ok (T := []) trivial mixed 200 ?_
    refine as_text (q := (((↑(List.length x) : Int) != (↑(List.length y) : Int)) = true → Post (G (Value.bool false) [some (Sum.inr (Sum.inr (Sum.inl (Row.mk [Value.int IntKind.i64 0, Value.int IntKind.i64 0] (List.length x) [Col.mk x [] [], Col.mk u [] []])))), some (Sum.inr (Sum.inr (Sum.inl (Row.mk [Value.int IntKind.i64 0, Value.int IntKind.i64 0] (List.length y) [Col.mk y [] [], Col.mk v [] []]))))])) ∧ (((↑(List.length x) : Int) != (↑(List.length y) : Int)) = false → At D Try.prog (codeOf Try.f21) 2 (retK Try.prog (Array.toList (Func.results Try.f21)) G) [Sum.inl [1, 1, 0, 1, 0], Sum.inr (Sum.inl 0), Sum.inl [1, 1, 1]] (SS.mk [some (Value.slice (some (Addr.mk 0 0 (some 2000))) (List.length x) c), some (Value.slice (some (Addr.mk 1 0 (some 2000))) (List.length y) c'), none, none, some (Value.bool false), some (Value.int IntKind.i64 0), some (Value.slice (some (Addr.mk 0 0 (some 2000))) (List.length x) c), some (Value.int IntKind.i64 (↑(List.length x) : Int)), some (Value.slice (some (Addr.mk 1 0 (some 2000))) (List.length y) c'), some (Value.int IntKind.i64 (↑(List.length y) : Int)), some (Value.bool false), none, none, none, none, none, none, none, none, none, none, none, none, none, none, none] [(10, false), (4, false)] [some (Sum.inr (Sum.inr (Sum.inl (Row.mk [Value.int IntKind.i64 0, Value.int IntKind.i64 0] (List.length x) [Col.mk x [] [], Col.mk u [] []])))), some (Sum.inr (Sum.inr (Sum.inl (Row.mk [Value.int IntKind.i64 0, Value.int IntKind.i64 0] (List.length y) [Col.mk y [] [], Col.mk v [] []]))))]))) ?_ (by kernel_rfl)
    have fin : ∀ b, b = decide (x = y ∧ u = v) → ∀ hp : Hp R, hp = [some (.inr (.inr (.inl ⟨[.int .i64 0, .int .i64 0], x.length, [⟨x, [], []⟩, ⟨u, [], []⟩]⟩))), some (.inr (.inr (.inl ⟨[.int .i64 0, .int .i64 0], y.length, [⟨y, [], []⟩, ⟨v, [], []⟩]⟩)))] → G (.bool b) hp := by
      intro b hb hp hhp
      subst hb hhp
      rw [← hG]
      refine ⟨⟨[0, 1], rfl, rfl, ?_, rfl, rfl, rfl, rfl⟩⟩
      simp [Pulls, pullB, nth, at2, dnL, dnV, mvL, mvV, mvA, mvQ_lt, blt_true, blt_false, RowLe, colI, colB]
    clear hG
    have no : x.length ≠ y.length → decide (x = y ∧ u = v) = false := fun h => by simp; intro e; exact absurd (by rw [e]) h
    refine ⟨fun h => ?_, fun h => ?_⟩
    · have hl : x.length ≠ y.length := by simp at h; omega
      exact ⟨fin _ (no hl).symm _ rfl⟩
    · have hl : x.length = y.length := by simp at h; omega
      refine loop_atM (by kernel_rfl) (ι := Nat) (fun i => i ≤ x.length ∧ x.take i = y.take i ∧ u.take i = v.take i) [0, 1, 5] (fun i => [.slice (some ⟨0, 0, some 2000⟩) x.length c, .slice (some ⟨1, 0, some 2000⟩) y.length c', .int .i64 i]) (fun i => [some (.inr (.inr (.inl ⟨[.int .i64 0, .int .i64 0], x.length, [⟨x, [], []⟩, ⟨u, [], []⟩]⟩))), some (.inr (.inr (.inl ⟨[.int .i64 0, .int .i64 0], y.length, [⟨y, [], []⟩, ⟨v, [], []⟩]⟩)))]) (fun i => x.length - i) 26 (fun i hi => ⟨rfl, rfl, Nat.le_refl _⟩) ⟨0, ⟨Nat.zero_le _, rfl, rfl⟩, ⟨[0, 1], ?_, ?_, rfl, rfl, rfl, rfl⟩⟩ fun i hi => ?_
      · rfl
      · simp [Pulls, pullB, nth, at2, dnL, dnV, mvL, mvV, mvA, mvQ_lt, blt_true, blt_false, RowLe, colI, colB]
      obtain ⟨hi, ht, hs⟩ := hi
      refine rx_ok (T := []) trivial mixed 200 ?_
      refine as_text (q := (decide ((↑i : Int) < (↑(List.length x) : Int)) = true → Vc ((0 : Int) ≤ (↑i : Int) ∧ (↑i : Int) < (↑(List.length x) : Int) ∧ 0 + List.length x ≤ List.length x) ∧ Vc (0 + Int.toNat (↑i : Int) < List.length x) ∧ Vc ((0 : Int) ≤ (↑i : Int) ∧ (↑i : Int) < (↑(List.length y) : Int) ∧ 0 + List.length y ≤ List.length y) ∧ Vc (0 + Int.toNat (↑i : Int) < List.length y) ∧ ((if true = true then !(List.getD x (0 + Int.toNat (↑i : Int)) (0 : Int) == List.getD y (0 + Int.toNat (↑i : Int)) (0 : Int) && (List.getD u (0 + Int.toNat (↑i : Int)) (0 : Int) == List.getD v (0 + Int.toNat (↑i : Int)) (0 : Int) && true)) else List.getD x (0 + Int.toNat (↑i : Int)) (0 : Int) == List.getD y (0 + Int.toNat (↑i : Int)) (0 : Int) && (List.getD u (0 + Int.toNat (↑i : Int)) (0 : Int) == List.getD v (0 + Int.toNat (↑i : Int)) (0 : Int) && true)) = true → Post (G (Value.bool false) [some (Sum.inr (Sum.inr (Sum.inl (Row.mk [Value.int IntKind.i64 0, Value.int IntKind.i64 0] (List.length x) [Col.mk x [] [], Col.mk u [] []])))), some (Sum.inr (Sum.inr (Sum.inl (Row.mk [Value.int IntKind.i64 0, Value.int IntKind.i64 0] (List.length y) [Col.mk y [] [], Col.mk v [] []]))))])) ∧ ((if true = true then !(List.getD x (0 + Int.toNat (↑i : Int)) (0 : Int) == List.getD y (0 + Int.toNat (↑i : Int)) (0 : Int) && (List.getD u (0 + Int.toNat (↑i : Int)) (0 : Int) == List.getD v (0 + Int.toNat (↑i : Int)) (0 : Int) && true)) else List.getD x (0 + Int.toNat (↑i : Int)) (0 : Int) == List.getD y (0 + Int.toNat (↑i : Int)) (0 : Int) && (List.getD u (0 + Int.toNat (↑i : Int)) (0 : Int) == List.getD v (0 + Int.toNat (↑i : Int)) (0 : Int) && true)) = false → Vc (fits ((↑i : Int) + (1 : Int))) ∧ Post (∃ j, (j ≤ List.length x ∧ List.take j x = List.take j y ∧ List.take j u = List.take j v) ∧ List.length x - j < List.length x - i ∧ FitsM R 2 26 [0, 1, 5] [Value.slice (some (Addr.mk 0 0 (some 2000))) (List.length x) c, Value.slice (some (Addr.mk 1 0 (some 2000))) (List.length y) c', Value.int IntKind.i64 (↑j : Int)] [some (Sum.inr (Sum.inr (Sum.inl (Row.mk [Value.int IntKind.i64 0, Value.int IntKind.i64 0] (List.length x) [Col.mk x [] [], Col.mk u [] []])))), some (Sum.inr (Sum.inr (Sum.inl (Row.mk [Value.int IntKind.i64 0, Value.int IntKind.i64 0] (List.length y) [Col.mk y [] [], Col.mk v [] []]))))] [some (Value.slice (some (Addr.mk 0 0 (some 2000))) (List.length x) c), some (Value.slice (some (Addr.mk 1 0 (some 2000))) (List.length y) c'), some (Value.int IntKind.i64 ((↑i : Int) + (1 : Int)))] [some (Sum.inr (Sum.inr (Sum.inl (Row.mk [Value.int IntKind.i64 0, Value.int IntKind.i64 0] (List.length x) [Col.mk x [] [], Col.mk u [] []])))), some (Sum.inr (Sum.inr (Sum.inl (Row.mk [Value.int IntKind.i64 0, Value.int IntKind.i64 0] (List.length y) [Col.mk y [] [], Col.mk v [] []]))))] 26))) ∧ (decide ((↑i : Int) < (↑(List.length x) : Int)) = false → Post (G (Value.bool true) [some (Sum.inr (Sum.inr (Sum.inl (Row.mk [Value.int IntKind.i64 0, Value.int IntKind.i64 0] (List.length x) [Col.mk x [] [], Col.mk u [] []])))), some (Sum.inr (Sum.inr (Sum.inl (Row.mk [Value.int IntKind.i64 0, Value.int IntKind.i64 0] (List.length y) [Col.mk y [] [], Col.mk v [] []]))))]))) ?_ (by kernel_rfl)
      refine ⟨fun h => ?_, fun h => ?_⟩
      · have hlt : i < x.length := by have h' := of_decide_eq_true h; omega
        have t1 := take_succ_getD (l := x) 0 hlt
        have t2 := take_succ_getD (l := y) 0 (by omega : i < y.length)
        have s1 := take_succ_getD (l := u) 0 (by omega : i < u.length)
        have s2 := take_succ_getD (l := v) 0 (by omega : i < v.length)
        simp only [Nat.zero_add, Int.toNat_natCast, if_true]
        generalize hq : (x.getD i 0 == y.getD i 0 && (u.getD i 0 == v.getD i 0 && true)) = q
        cases q
        · have hne : ¬ (x.getD i 0 = y.getD i 0 ∧ u.getD i 0 = v.getD i 0) := fun h2 => by
            rw [h2.1, h2.2] at hq
            simp at hq
          clear hq
          repeat' (first | apply And.intro | apply Vc.mk | apply fits.mk | intro h | apply Post.mk)
          all_goals (try simp only [decide_eq_true_eq, decide_eq_false_iff_not, Nat.zero_add, ge_iff_le, Int.not_le, Int.not_lt, Int.toNat_natCast, beq_iff_eq, beq_eq_false_iff_ne, bne_iff_ne, bne_eq_false_iff_eq, Bool.not_eq_true', Bool.not_eq_false'] at *)
          all_goals first | contradiction | omega | (apply congrArg Value.bool; assumption) | exact ⟨rfl, by omega⟩ | exact rfl | (simp [*, -List.getD_eq_getElem?_getD]; done) | skip
          refine fin _ ?_ _ rfl
          symm
          simp only [decide_eq_false_iff_not]
          rintro ⟨e1, e2⟩
          exact hne ⟨by rw [e1], by rw [e2]⟩
        · have he : x.getD i 0 = y.getD i 0 ∧ u.getD i 0 = v.getD i 0 := by simpa using hq
          clear hq
          repeat' (first | apply And.intro | apply Vc.mk | apply fits.mk | intro h | apply Post.mk)
          all_goals (try simp only [decide_eq_true_eq, decide_eq_false_iff_not, Nat.zero_add, ge_iff_le, Int.not_le, Int.not_lt, Int.toNat_natCast, beq_iff_eq, beq_eq_false_iff_ne, bne_iff_ne, bne_eq_false_iff_eq, Bool.not_eq_true', Bool.not_eq_false'] at *)
          all_goals first | contradiction | omega | (apply congrArg Value.bool; assumption) | exact ⟨rfl, by omega⟩ | exact rfl | (simp [*, -List.getD_eq_getElem?_getD]; done) | skip
          refine ⟨i + 1, ⟨by omega, by rw [t1, t2, ht, he.1], by rw [s1, s2, hs, he.2]⟩, by omega, ⟨[0, 1], ?_, ?_, rfl, rfl, rfl, rfl⟩⟩
          · rfl
          · simp [Pulls, pullB, nth, at2, dnL, dnV, mvL, mvV, mvA, mvQ_lt, blt_true, blt_false, RowLe, colI, colB]
      · obtain rfl : i = x.length := by have h' := of_decide_eq_false h; omega
        refine ⟨fin _ ?_ _ rfl⟩
        rw [take_same hl ht, take_same (x := u) (y := v) (by omega) (by rw [v6]; exact hs)]
        simp
  · cases hx
end Go.Proofs.Ytfofaiidakkgbaa.Rx
