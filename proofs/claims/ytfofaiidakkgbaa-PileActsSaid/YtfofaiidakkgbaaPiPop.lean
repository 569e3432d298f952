/- pile: Pop of a pile of ints (it calls Top). -/
import Derived.Test.YtfofaiidakkgbaaPiPool
namespace Go.Proofs.Ytfofaiidakkgbaa.Pi
open Go.Proofs.Ytfofaiidakkgbaa.Rx
set_option linter.unusedVariables false
set_option linter.unusedSimpArgs false
set_option maxRecDepth 100000
def ptopP {R : Type} : Prim R := fun args hh => match args, hh with
  | [.pointer (some ⟨0, 0, none⟩)], [some (.inl (52, [.slice (some ⟨1, e0, some tag⟩) n cp, .int .i64 lim])), some (.inr (.inl (3, ⟨[.int .i64 0], N, [⟨c, [], []⟩]⟩)))] => some ⟨(tag = 1000 ∨ tag = 2001000) ∧ e0 + n ≤ N ∧ N < 1000000 ∧ N = c.length ∧ cp = 0, .tuple #[.int .i64 (if n = 0 then 0 else c.getD (e0 + (n - 1)) 0), .bool (decide (n ≠ 0))], none, hh, [], []⟩
  | _, _ => none
theorem ptop_ok {R : Type} {D : Res R} : ConOk D Try.prog 13 (con1 ptopP) := by
  refine con1_ok (prim_at (fn := Try.f13) (root := codeOf Try.f13) (by kernel_rfl) (by kernel_rfl) (by kernel_rfl) fun args hh x hx => ?_)
  unfold ptopP at hx
  split at hx
  · rename_i e0 tag n cp lim N c
    injection hx with hx
    subst hx
    refine ⟨by first | exact Nat.le_refl _ | exact Nat.zero_le _ | exact Nat.le_succ _, noLit rfl, (fun hw => by first | rfl | cases hw), fun _ hv => ?_⟩
    obtain ⟨h1, h2, h3, h4, rfl⟩ := hv
    rcases h1 with rfl | rfl
    · generalize hG : Rx.Ends (R := R) _ _ = G
      refine rx_ok (T := []) trivial mixed 200 ?_
      refine as_text (q := Vc (fits ((↑n : Int) - (1 : Int))) ∧ (decide ((↑n : Int) - (1 : Int) < (0 : Int)) = true → Post (G (Value.tuple (Array.mk [Value.int IntKind.i64 0, Value.bool false])) [some (Sum.inl (52, [Value.slice (some (Addr.mk 1 e0 (some 1000))) n 0, Value.int IntKind.i64 lim])), some (Sum.inr (Sum.inl (3, Row.mk [Value.int IntKind.i64 0] N [Col.mk c [] []])))])) ∧ (decide ((↑n : Int) - (1 : Int) < (0 : Int)) = false → Vc ((0 : Int) ≤ (↑n : Int) - (1 : Int) ∧ (↑n : Int) - (1 : Int) < (↑n : Int) ∧ e0 + n ≤ N) ∧ Vc (e0 + Int.toNat ((↑n : Int) - (1 : Int)) < N) ∧ Post (G (Value.tuple (Array.mk [Value.int IntKind.i64 (List.getD c (e0 + Int.toNat ((↑n : Int) - (1 : Int))) (0 : Int)), Value.bool true])) [some (Sum.inl (52, [Value.slice (some (Addr.mk 1 e0 (some 1000))) n 0, Value.int IntKind.i64 lim])), some (Sum.inr (Sum.inl (3, Row.mk [Value.int IntKind.i64 0] N [Col.mk c [] []])))]))) ?_ (by kernel_rfl)
      subst hG
      repeat' (first | apply And.intro | apply Vc.mk | apply fits.mk | intro h | apply Post.mk)
      all_goals (try simp only [decide_eq_true_eq, decide_eq_false_iff_not, Nat.zero_add, ge_iff_le, Int.not_le, Int.not_lt, Int.toNat_natCast, beq_iff_eq, beq_eq_false_iff_ne, bne_iff_ne, bne_eq_false_iff_eq, Bool.not_eq_true', Bool.not_eq_false'] at *)
      all_goals first | contradiction | omega | (apply congrArg Value.bool; assumption) | exact ⟨rfl, by omega⟩ | exact rfl | (simp [*, -List.getD_eq_getElem?_getD]; done) | skip
      all_goals (first | omega | skip)
      · refine ⟨[0, 1], ?_, rfl, ?_, rfl, rfl, rfl, rfl⟩
        · have hx : n = 0 := by omega
          simp [mvV, mvL, dnV, dnL, hx]
        · simp [Pulls, pullB, nth, at2, dnL, dnV, mvL, mvV, mvA, mvQ_lt, blt_true, blt_false, RowLe, colI, colB]
          all_goals rfl
      · refine ⟨[0, 1], ?_, rfl, ?_, rfl, rfl, rfl, rfl⟩
        · have hx : ¬ n = 0 := by omega
          have e : ((n : Int) - 1).toNat = n - 1 := by omega
          rw [e]
          simp [mvV, mvL, dnV, dnL, hx]
        · simp [Pulls, pullB, nth, at2, dnL, dnV, mvL, mvV, mvA, mvQ_lt, blt_true, blt_false, RowLe, colI, colB]
          all_goals rfl
    · generalize hG : Rx.Ends (R := R) _ _ = G
      refine rx_ok (T := []) trivial mixed 200 ?_
      refine as_text (q := Vc (fits ((↑n : Int) - (1 : Int))) ∧ (decide ((↑n : Int) - (1 : Int) < (0 : Int)) = true → Post (G (Value.tuple (Array.mk [Value.int IntKind.i64 0, Value.bool false])) [some (Sum.inl (52, [Value.slice (some (Addr.mk 1 e0 (some 2001000))) n 0, Value.int IntKind.i64 lim])), some (Sum.inr (Sum.inl (3, Row.mk [Value.int IntKind.i64 0] N [Col.mk c [] []])))])) ∧ (decide ((↑n : Int) - (1 : Int) < (0 : Int)) = false → Vc ((0 : Int) ≤ (↑n : Int) - (1 : Int) ∧ (↑n : Int) - (1 : Int) < (↑n : Int) ∧ e0 + n ≤ N) ∧ Vc (e0 + Int.toNat ((↑n : Int) - (1 : Int)) < N) ∧ Post (G (Value.tuple (Array.mk [Value.int IntKind.i64 (List.getD c (e0 + Int.toNat ((↑n : Int) - (1 : Int))) (0 : Int)), Value.bool true])) [some (Sum.inl (52, [Value.slice (some (Addr.mk 1 e0 (some 2001000))) n 0, Value.int IntKind.i64 lim])), some (Sum.inr (Sum.inl (3, Row.mk [Value.int IntKind.i64 0] N [Col.mk c [] []])))]))) ?_ (by kernel_rfl)
      subst hG
      repeat' (first | apply And.intro | apply Vc.mk | apply fits.mk | intro h | apply Post.mk)
      all_goals (try simp only [decide_eq_true_eq, decide_eq_false_iff_not, Nat.zero_add, ge_iff_le, Int.not_le, Int.not_lt, Int.toNat_natCast, beq_iff_eq, beq_eq_false_iff_ne, bne_iff_ne, bne_eq_false_iff_eq, Bool.not_eq_true', Bool.not_eq_false'] at *)
      all_goals first | contradiction | omega | (apply congrArg Value.bool; assumption) | exact ⟨rfl, by omega⟩ | exact rfl | (simp [*, -List.getD_eq_getElem?_getD]; done) | skip
      all_goals (first | omega | skip)
      · refine ⟨[0, 1], ?_, rfl, ?_, rfl, rfl, rfl, rfl⟩
        · have hx : n = 0 := by omega
          simp [mvV, mvL, dnV, dnL, hx]
        · simp [Pulls, pullB, nth, at2, dnL, dnV, mvL, mvV, mvA, mvQ_lt, blt_true, blt_false, RowLe, colI, colB]
          all_goals rfl
      · refine ⟨[0, 1], ?_, rfl, ?_, rfl, rfl, rfl, rfl⟩
        · have hx : ¬ n = 0 := by omega
          have e : ((n : Int) - 1).toNat = n - 1 := by omega
          rw [e]
          simp [mvV, mvL, dnV, dnL, hx]
        · simp [Pulls, pullB, nth, at2, dnL, dnV, mvL, mvV, mvA, mvQ_lt, blt_true, blt_false, RowLe, colI, colB]
          all_goals rfl
  · cases hx
def TP : Tab Empty := [(13, liftC zN 2 (con1 ptopP))]
theorem TP_ok : TabOk NoR Try.prog TP := ⟨liftC_ok _ _ ptop_ok, trivial⟩
def popP : Prim Rs := fun args hh => match args, hh with
  | [.pointer (some ⟨0, 0, none⟩)], [some (.inr (.inr (.inr (.ints m))))] => some ⟨m.Ok 20000, .tuple #[.int .i64 m.top, .bool (decide (m.xs.length ≠ 0))], none, [some (.inr (.inr (.inr (.ints m.pop))))], [], [(0, 0)]⟩
  | _, _ => none
theorem pop_ok : ConOk D Try.prog 14 (con1 popP) := by
  refine con1_ok (res_prim (L := L) (D0 := NoR) (fn := Try.f14) (root := codeOf Try.f14) (by kernel_rfl) (by kernel_rfl) (by kernel_rfl) fun args hh x hx => ?_)
  unfold popP at hx
  split at hx
  · rename_i m
    injection hx with hx
    subst hx
    refine ⟨by first | exact Nat.le_refl _ | exact Nat.zero_le _ | exact Nat.le_succ _, noLit rfl, (fun hw => by first | rfl | cases hw), fun _ hv => ?_⟩
    have h1 := hv.len; have h2 := fun i => PI.row_get m (i := i)
    rcases m with ⟨lim, xs, pre, post, _ | _⟩
    · generalize hG : EndsU (R := Rs) (R0 := Empty) _ _ _ = G
      refine rx_ok (T := TP) TP_ok mixed 200 ?_
      refine as_text (q := Vc ((1000 = 1000 ∨ 1000 = 2001000) ∧ List.length pre + List.length xs ≤ List.length pre + List.length xs + List.length post ∧ List.length pre + List.length xs + List.length post < 1000000 ∧ List.length pre + List.length xs + List.length post = List.length (PI.row (PI.mk lim xs pre post false)) ∧ 0 = 0) ∧ (decide (List.length xs ≠ 0) = true → Vc (fits ((↑(List.length xs) : Int) - (1 : Int))) ∧ Vc ((0 : Int) ≤ (↑(List.length xs) : Int) - (1 : Int) ∧ (↑(List.length xs) : Int) - (1 : Int) < (↑(List.length xs) : Int) ∧ List.length pre + List.length xs ≤ List.length pre + List.length xs + List.length post) ∧ Vc (List.length pre + Int.toNat ((↑(List.length xs) : Int) - (1 : Int)) < List.length pre + List.length xs + List.length post) ∧ Vc ((0 : Int) ≤ (↑(List.length xs) : Int) - (1 : Int) ∧ (↑(List.length xs) : Int) - (1 : Int) ≤ (↑(List.length xs) : Int) ∧ List.length pre + List.length xs ≤ List.length pre + List.length xs + List.length post) ∧ Post (G (Value.tuple (Array.mk [Value.int IntKind.i64 (if List.length xs = 0 then (0 : Int) else List.getD (PI.row (PI.mk lim xs pre post false)) (List.length pre + (List.length xs - 1)) (0 : Int)), Value.bool (decide (List.length xs ≠ 0))])) [some (Sum.inl (52, [Value.slice (some (Addr.mk 1 (List.length pre) (some 1000))) (Int.toNat ((↑(List.length xs) : Int) - (1 : Int))) 0, Value.int IntKind.i64 lim])), some (Sum.inr (Sum.inl (3, Row.mk [Value.int IntKind.i64 0] (List.length pre + List.length xs + List.length post) [Col.mk (List.set (PI.row (PI.mk lim xs pre post false)) (List.length pre + Int.toNat ((↑(List.length xs) : Int) - (1 : Int))) (0 : Int)) [] []])))])) ∧ (decide (List.length xs ≠ 0) = false → Post (G (Value.tuple (Array.mk [Value.int IntKind.i64 (if List.length xs = 0 then (0 : Int) else List.getD (PI.row (PI.mk lim xs pre post false)) (List.length pre + (List.length xs - 1)) (0 : Int)), Value.bool (decide (List.length xs ≠ 0))])) [some (Sum.inl (52, [Value.slice (some (Addr.mk 1 (List.length pre) (some 1000))) (List.length xs) 0, Value.int IntKind.i64 lim])), some (Sum.inr (Sum.inl (3, Row.mk [Value.int IntKind.i64 0] (List.length pre + List.length xs + List.length post) [Col.mk (PI.row (PI.mk lim xs pre post false)) [] []])))]))) ?_ (by kernel_rfl)
      subst hG
      simp only [PI.Ok] at h1 h2
      repeat' (first | apply And.intro | apply Vc.mk | apply fits.mk | intro h | apply Post.mk)
      all_goals (try simp only [decide_eq_true_eq, decide_eq_false_iff_not, Nat.zero_add, ge_iff_le, Int.not_le, Int.not_lt, Int.toNat_natCast, beq_iff_eq, beq_eq_false_iff_ne, bne_iff_ne, bne_eq_false_iff_eq, Bool.not_eq_true', Bool.not_eq_false'] at *)
      all_goals first | contradiction | omega | (apply congrArg Value.bool; assumption) | exact ⟨rfl, by omega⟩ | exact rfl | (simp [*, -List.getD_eq_getElem?_getD]; done) | skip
      all_goals (first | omega | skip)
      · exact PI.row_length ⟨lim, xs, pre, post, false⟩
      · have hq : (⟨lim, xs, pre, post, false⟩ : PI).pop.row = (⟨lim, xs, pre, post, false⟩ : PI).row.set (pre.length + (xs.length - 1)) 0 := PI.pop_row (⟨lim, xs, pre, post, false⟩ : PI) (by assumption)
        have hp := PI.pop_some (⟨lim, xs, pre, post, false⟩ : PI) (by assumption)
        have e : ((xs.length : Int) - 1).toNat = xs.length - 1 := by omega
        have hn : (xs.take (xs.length - 1)).length = xs.length - 1 := by simp
        have hd : (xs.drop (xs.length - 1)).length = 1 := by simp; omega
        have ht : ∀ p : Prop, [Decidable p] → p → True := fun _ _ _ => trivial
        rw [hp] at hq ⊢
        simp only [PI.row] at hq
        rw [e]
        refine ⟨[0, 1], ?_, rfl, ?_, rfl, rfl, rfl, (by kernel_rfl), rfl⟩
        · have hx : ¬ xs.length = 0 := by omega
          rw [h2 _ (by omega)]
          simp [mvV, mvL, dnV, dnL, PI.top, hx, -List.length_eq_zero_iff]
        · simp [layInts, unf, unfGo, unfB, off, width, L, lay, newHp, mvO, mvSB, Pulls, pullB, nth, at2, dnL, dnV, mvL, mvV, mvA, mvQ_lt, blt_true, blt_false, RowLe, colI, colB, PI.row, -List.take_append_drop]
          exact .inl ⟨by omega, by simpa using hq⟩
      · rw [PI.pop_none (⟨lim, xs, pre, post, false⟩ : PI) (by assumption)]
        refine ⟨[0, 1], ?_, rfl, ?_, rfl, rfl, rfl, (by kernel_rfl), rfl⟩
        · have hx : xs.length = 0 := by omega
          simp [mvV, mvL, dnV, dnL, PI.top, hx, -List.length_eq_zero_iff]
        · simp [layInts, unf, unfGo, unfB, off, width, L, lay, newHp, mvO, mvSB, Pulls, pullB, nth, at2, dnL, dnV, mvL, mvV, mvA, mvQ_lt, blt_true, blt_false, RowLe, colI, colB, PI.row]
          all_goals first | rfl | exact ⟨rfl, by omega⟩ | omega | skip
    · generalize hG : EndsU (R := Rs) (R0 := Empty) _ _ _ = G
      refine rx_ok (T := TP) TP_ok mixed 200 ?_
      refine as_text (q := Vc ((2001000 = 1000 ∨ 2001000 = 2001000) ∧ List.length pre + List.length xs ≤ List.length pre + List.length xs + List.length post ∧ List.length pre + List.length xs + List.length post < 1000000 ∧ List.length pre + List.length xs + List.length post = List.length (PI.row (PI.mk lim xs pre post true)) ∧ 0 = 0) ∧ (decide (List.length xs ≠ 0) = true → Vc (fits ((↑(List.length xs) : Int) - (1 : Int))) ∧ Vc ((0 : Int) ≤ (↑(List.length xs) : Int) - (1 : Int) ∧ (↑(List.length xs) : Int) - (1 : Int) < (↑(List.length xs) : Int) ∧ List.length pre + List.length xs ≤ List.length pre + List.length xs + List.length post) ∧ Vc (List.length pre + Int.toNat ((↑(List.length xs) : Int) - (1 : Int)) < List.length pre + List.length xs + List.length post) ∧ Vc ((0 : Int) ≤ (↑(List.length xs) : Int) - (1 : Int) ∧ (↑(List.length xs) : Int) - (1 : Int) ≤ (↑(List.length xs) : Int) ∧ List.length pre + List.length xs ≤ List.length pre + List.length xs + List.length post) ∧ Post (G (Value.tuple (Array.mk [Value.int IntKind.i64 (if List.length xs = 0 then (0 : Int) else List.getD (PI.row (PI.mk lim xs pre post true)) (List.length pre + (List.length xs - 1)) (0 : Int)), Value.bool (decide (List.length xs ≠ 0))])) [some (Sum.inl (52, [Value.slice (some (Addr.mk 1 (List.length pre) (some 2001000))) (Int.toNat ((↑(List.length xs) : Int) - (1 : Int))) 0, Value.int IntKind.i64 lim])), some (Sum.inr (Sum.inl (3, Row.mk [Value.int IntKind.i64 0] (List.length pre + List.length xs + List.length post) [Col.mk (List.set (PI.row (PI.mk lim xs pre post true)) (List.length pre + Int.toNat ((↑(List.length xs) : Int) - (1 : Int))) (0 : Int)) [] []])))])) ∧ (decide (List.length xs ≠ 0) = false → Post (G (Value.tuple (Array.mk [Value.int IntKind.i64 (if List.length xs = 0 then (0 : Int) else List.getD (PI.row (PI.mk lim xs pre post true)) (List.length pre + (List.length xs - 1)) (0 : Int)), Value.bool (decide (List.length xs ≠ 0))])) [some (Sum.inl (52, [Value.slice (some (Addr.mk 1 (List.length pre) (some 2001000))) (List.length xs) 0, Value.int IntKind.i64 lim])), some (Sum.inr (Sum.inl (3, Row.mk [Value.int IntKind.i64 0] (List.length pre + List.length xs + List.length post) [Col.mk (PI.row (PI.mk lim xs pre post true)) [] []])))]))) ?_ (by kernel_rfl)
      subst hG
      simp only [PI.Ok] at h1 h2
      repeat' (first | apply And.intro | apply Vc.mk | apply fits.mk | intro h | apply Post.mk)
      all_goals (try simp only [decide_eq_true_eq, decide_eq_false_iff_not, Nat.zero_add, ge_iff_le, Int.not_le, Int.not_lt, Int.toNat_natCast, beq_iff_eq, beq_eq_false_iff_ne, bne_iff_ne, bne_eq_false_iff_eq, Bool.not_eq_true', Bool.not_eq_false'] at *)
      all_goals first | contradiction | omega | (apply congrArg Value.bool; assumption) | exact ⟨rfl, by omega⟩ | exact rfl | (simp [*, -List.getD_eq_getElem?_getD]; done) | skip
      all_goals (first | omega | skip)
      · exact PI.row_length ⟨lim, xs, pre, post, true⟩
      · have hq : (⟨lim, xs, pre, post, true⟩ : PI).pop.row = (⟨lim, xs, pre, post, true⟩ : PI).row.set (pre.length + (xs.length - 1)) 0 := PI.pop_row (⟨lim, xs, pre, post, true⟩ : PI) (by assumption)
        have hp := PI.pop_some (⟨lim, xs, pre, post, true⟩ : PI) (by assumption)
        have e : ((xs.length : Int) - 1).toNat = xs.length - 1 := by omega
        have hn : (xs.take (xs.length - 1)).length = xs.length - 1 := by simp
        have hd : (xs.drop (xs.length - 1)).length = 1 := by simp; omega
        have ht : ∀ p : Prop, [Decidable p] → p → True := fun _ _ _ => trivial
        rw [hp] at hq ⊢
        simp only [PI.row] at hq
        rw [e]
        refine ⟨[0, 1], ?_, rfl, ?_, rfl, rfl, rfl, (by kernel_rfl), rfl⟩
        · have hx : ¬ xs.length = 0 := by omega
          rw [h2 _ (by omega)]
          simp [mvV, mvL, dnV, dnL, PI.top, hx, -List.length_eq_zero_iff]
        · simp [layInts, unf, unfGo, unfB, off, width, L, lay, newHp, mvO, mvSB, Pulls, pullB, nth, at2, dnL, dnV, mvL, mvV, mvA, mvQ_lt, blt_true, blt_false, RowLe, colI, colB, PI.row, -List.take_append_drop]
          exact ⟨rfl, .inl ⟨by omega, by simpa using hq⟩⟩
      · rw [PI.pop_none (⟨lim, xs, pre, post, true⟩ : PI) (by assumption)]
        refine ⟨[0, 1], ?_, rfl, ?_, rfl, rfl, rfl, (by kernel_rfl), rfl⟩
        · have hx : xs.length = 0 := by omega
          simp [mvV, mvL, dnV, dnL, PI.top, hx, -List.length_eq_zero_iff]
        · simp [layInts, unf, unfGo, unfB, off, width, L, lay, newHp, mvO, mvSB, Pulls, pullB, nth, at2, dnL, dnV, mvL, mvV, mvA, mvQ_lt, blt_true, blt_false, RowLe, colI, colB, PI.row]
          all_goals first | rfl | exact ⟨rfl, by omega⟩ | omega | skip
  · cases hx
end Go.Proofs.Ytfofaiidakkgbaa.Pi
