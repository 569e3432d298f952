/- pile: the functions of a pile of ints, by what they do to its lists. -/
import Derived.Test.YtfofaiidakkgbaaPiRes
namespace Go.Proofs.Ytfofaiidakkgbaa.Pi
open Go.Proofs.Ytfofaiidakkgbaa.Rx
set_option linter.unusedVariables false
set_option linter.unusedSimpArgs false
set_option maxRecDepth 100000
def newP : Prim Rs := fun args hh => match args, hh with
  | [.int .i64 c], [] => some ⟨True, .pointer (some ⟨0, 0, none⟩), none, [some (.inr (.inr (.inr (.ints ⟨min (max c 0) 10000, [], [], [], false⟩))))], [], [(0, 0)]⟩
  | _, _ => none
theorem new_ok : ConOk D Try.prog 8 (con1 newP) := by
  refine con1_ok (res_prim (L := L) (D0 := NoR) (fn := Try.f8) (root := codeOf Try.f8) (by kernel_rfl) (by kernel_rfl) (by kernel_rfl) fun args hh x hx => ?_)
  unfold newP at hx
  split at hx
  · rename_i c
    injection hx with hx
    subst hx
    refine ⟨by first | exact Nat.le_refl _ | exact Nat.zero_le _ | exact Nat.le_succ _, noLit rfl, (fun hw => by first | rfl | cases hw), fun _ hv => ?_⟩
    generalize hG : EndsU (R := Rs) (R0 := Empty) _ _ _ = G
    refine rx_ok (T := []) trivial mixed 200 ?_
    refine as_text (q := Post (G (Value.pointer (some (Addr.mk 0 0 none))) [some (Sum.inl (52, [Value.slice none 0 0, Value.int IntKind.i64 (if (10000 : Int) < if (0 : Int) > c then (0 : Int) else c then (10000 : Int) else if (0 : Int) > c then (0 : Int) else c)]))])) ?_ (by kernel_rfl)
    subst hG
    refine ⟨⟨[0, 1], rfl, rfl, ?_, rfl, rfl, rfl, (by kernel_rfl), rfl⟩⟩
    have e : (if 10000 < if 0 > c then 0 else c then 10000 else if 0 > c then 0 else c) = min (max c 0) 10000 := by
      by_cases h1 : 0 > c
      · rw [if_pos h1]; simp; omega
      · rw [if_neg h1]; split <;> omega
    simp [layInts, PI.row, unf, unfGo, unfB, off, width, L, lay, newHp, mvO, mvSB, Pulls, pullB, nth, at2, dnL, dnV, mvL, mvV, mvA, mvQ_lt, blt_true, blt_false, RowLe, colI, colB, e]
    all_goals first | rfl | exact ⟨rfl, Nat.succ_pos _, rfl⟩
  · cases hx
def lenP : Prim Rs := fun args hh => match args, hh with
  | [.pointer (some ⟨0, 0, none⟩)], [some (.inr (.inr (.inr (.ints m))))] => some ⟨m.Ok 20000, .int .i64 m.xs.length, none, hh, [], []⟩
  | _, _ => none
theorem len_ok : ConOk D Try.prog 16 (con1 lenP) := by
  refine con1_ok (res_prim (L := L) (D0 := NoR) (fn := Try.f16) (root := codeOf Try.f16) (by kernel_rfl) (by kernel_rfl) (by kernel_rfl) fun args hh x hx => ?_)
  unfold lenP at hx
  split at hx
  · rename_i m
    injection hx with hx
    subst hx
    refine ⟨by first | exact Nat.le_refl _ | exact Nat.zero_le _ | exact Nat.le_succ _, noLit rfl, (fun hw => by first | rfl | cases hw), fun _ hv => ?_⟩
    rcases m with ⟨lim, xs, pre, post, _ | _⟩
    · generalize hG : EndsU (R := Rs) (R0 := Empty) _ _ _ = G
      refine rx_ok (T := []) trivial mixed 200 ?_
      refine as_text (q := Post (G (Value.int IntKind.i64 (↑(List.length xs) : Int)) [some (Sum.inl (52, [Value.slice (some (Addr.mk 1 (List.length pre) (some 1000))) (List.length xs) 0, Value.int IntKind.i64 lim])), some (Sum.inr (Sum.inl (3, Row.mk [Value.int IntKind.i64 0] (List.length pre + List.length xs + List.length post) [Col.mk (PI.row (PI.mk lim xs pre post false)) [] []])))])) ?_ (by kernel_rfl)
      subst hG
      have h1 := hv.len
      refine ⟨⟨[0, 1], rfl, rfl, ?_, rfl, rfl, rfl, (by kernel_rfl), rfl⟩⟩
      simp [layInts, unf, unfGo, unfB, off, width, L, lay, newHp, mvO, mvSB, Pulls, pullB, nth, at2, dnL, dnV, mvL, mvV, mvA, mvQ_lt, blt_true, blt_false, RowLe, colI, colB]
      all_goals first | rfl | exact ⟨rfl, Nat.succ_pos _, rfl⟩
    · generalize hG : EndsU (R := Rs) (R0 := Empty) _ _ _ = G
      refine rx_ok (T := []) trivial mixed 200 ?_
      refine as_text (q := Post (G (Value.int IntKind.i64 (↑(List.length xs) : Int)) [some (Sum.inl (52, [Value.slice (some (Addr.mk 1 (List.length pre) (some 2001000))) (List.length xs) 0, Value.int IntKind.i64 lim])), some (Sum.inr (Sum.inl (3, Row.mk [Value.int IntKind.i64 0] (List.length pre + List.length xs + List.length post) [Col.mk (PI.row (PI.mk lim xs pre post true)) [] []])))])) ?_ (by kernel_rfl)
      subst hG
      have h1 := hv.len
      refine ⟨⟨[0, 1], rfl, rfl, ?_, rfl, rfl, rfl, (by kernel_rfl), rfl⟩⟩
      simp [layInts, unf, unfGo, unfB, off, width, L, lay, newHp, mvO, mvSB, Pulls, pullB, nth, at2, dnL, dnV, mvL, mvV, mvA, mvQ_lt, blt_true, blt_false, RowLe, colI, colB]
      all_goals first | rfl | exact ⟨rfl, Nat.succ_pos _, rfl⟩
  · cases hx
def clearP : Prim Rs := fun args hh => match args, hh with
  | [.pointer (some ⟨0, 0, none⟩)], [some (.inr (.inr (.inr (.ints m))))] => some ⟨True, .tuple #[], none, [some (.inr (.inr (.inr (.ints m.clear))))], [], [(0, 0)]⟩
  | _, _ => none
theorem clear_ok : ConOk D Try.prog 15 (con1 clearP) := by
  refine con1_ok (res_prim (L := L) (D0 := NoR) (fn := Try.f15) (root := codeOf Try.f15) (by kernel_rfl) (by kernel_rfl) (by kernel_rfl) fun args hh x hx => ?_)
  unfold clearP at hx
  split at hx
  · rename_i m
    injection hx with hx
    subst hx
    refine ⟨by first | exact Nat.le_refl _ | exact Nat.zero_le _ | exact Nat.le_succ _, noLit rfl, (fun hw => by first | rfl | cases hw), fun _ hv => ?_⟩
    rcases m with ⟨lim, xs, pre, post, _ | _⟩
    · generalize hG : EndsU (R := Rs) (R0 := Empty) _ _ _ = G
      refine rx_ok (T := []) trivial mixed 200 ?_
      refine as_text (q := Post (G (Value.tuple (Array.mk [])) [some (Sum.inl (52, [Value.slice none 0 0, Value.int IntKind.i64 lim])), some (Sum.inr (Sum.inl (3, Row.mk [Value.int IntKind.i64 0] (List.length pre + List.length xs + List.length post) [Col.mk (PI.row (PI.mk lim xs pre post false)) [] []])))])) ?_ (by kernel_rfl)
      subst hG
      refine ⟨⟨[0, 4], rfl, rfl, ?_, rfl, rfl, rfl, (by kernel_rfl), rfl⟩⟩
      simp [layInts, PI.row, PI.clear, unf, unfGo, unfB, off, width, L, lay, newHp, mvO, mvSB, Pulls, pullB, nth, at2, dnL, dnV, mvL, mvV, mvA, mvQ_lt, blt_true, blt_false, RowLe, colI, colB]
      all_goals first | rfl | exact ⟨rfl, Nat.succ_pos _, rfl⟩
    · generalize hG : EndsU (R := Rs) (R0 := Empty) _ _ _ = G
      refine rx_ok (T := []) trivial mixed 200 ?_
      refine as_text (q := Post (G (Value.tuple (Array.mk [])) [some (Sum.inl (52, [Value.slice none 0 0, Value.int IntKind.i64 lim])), some (Sum.inr (Sum.inl (3, Row.mk [Value.int IntKind.i64 0] (List.length pre + List.length xs + List.length post) [Col.mk (PI.row (PI.mk lim xs pre post true)) [] []])))])) ?_ (by kernel_rfl)
      subst hG
      refine ⟨⟨[0, 4], rfl, rfl, ?_, rfl, rfl, rfl, (by kernel_rfl), rfl⟩⟩
      simp [layInts, PI.row, PI.clear, unf, unfGo, unfB, off, width, L, lay, newHp, mvO, mvSB, Pulls, pullB, nth, at2, dnL, dnV, mvL, mvV, mvA, mvQ_lt, blt_true, blt_false, RowLe, colI, colB]
      all_goals first | rfl | exact ⟨rfl, Nat.succ_pos _, rfl⟩
  · cases hx
def topP : Prim Rs := fun args hh => match args, hh with
  | [.pointer (some ⟨0, 0, none⟩)], [some (.inr (.inr (.inr (.ints m))))] => some ⟨m.Ok 20000, .tuple #[.int .i64 m.top, .bool (decide (m.xs.length ≠ 0))], none, hh, [], []⟩
  | _, _ => none
theorem top_ok : ConOk D Try.prog 13 (con1 topP) := by
  refine con1_ok (res_prim (L := L) (D0 := NoR) (fn := Try.f13) (root := codeOf Try.f13) (by kernel_rfl) (by kernel_rfl) (by kernel_rfl) fun args hh x hx => ?_)
  unfold topP at hx
  split at hx
  · rename_i m
    injection hx with hx
    subst hx
    refine ⟨by first | exact Nat.le_refl _ | exact Nat.zero_le _ | exact Nat.le_succ _, noLit rfl, (fun hw => by first | rfl | cases hw), fun _ hv => ?_⟩
    have h1 := hv.len; have h2 := fun i => PI.row_get m (i := i)
    rcases m with ⟨lim, xs, pre, post, _ | _⟩
    · generalize hG : EndsU (R := Rs) (R0 := Empty) _ _ _ = G
      refine rx_ok (T := []) trivial mixed 200 ?_
      refine as_text (q := Vc (fits ((↑(List.length xs) : Int) - (1 : Int))) ∧ (decide ((↑(List.length xs) : Int) - (1 : Int) < (0 : Int)) = true → Post (G (Value.tuple (Array.mk [Value.int IntKind.i64 0, Value.bool false])) [some (Sum.inl (52, [Value.slice (some (Addr.mk 1 (List.length pre) (some 1000))) (List.length xs) 0, Value.int IntKind.i64 lim])), some (Sum.inr (Sum.inl (3, Row.mk [Value.int IntKind.i64 0] (List.length pre + List.length xs + List.length post) [Col.mk (PI.row (PI.mk lim xs pre post false)) [] []])))])) ∧ (decide ((↑(List.length xs) : Int) - (1 : Int) < (0 : Int)) = false → Vc ((0 : Int) ≤ (↑(List.length xs) : Int) - (1 : Int) ∧ (↑(List.length xs) : Int) - (1 : Int) < (↑(List.length xs) : Int) ∧ List.length pre + List.length xs ≤ List.length pre + List.length xs + List.length post) ∧ Vc (List.length pre + Int.toNat ((↑(List.length xs) : Int) - (1 : Int)) < List.length pre + List.length xs + List.length post) ∧ Post (G (Value.tuple (Array.mk [Value.int IntKind.i64 (List.getD (PI.row (PI.mk lim xs pre post false)) (List.length pre + Int.toNat ((↑(List.length xs) : Int) - (1 : Int))) (0 : Int)), Value.bool true])) [some (Sum.inl (52, [Value.slice (some (Addr.mk 1 (List.length pre) (some 1000))) (List.length xs) 0, Value.int IntKind.i64 lim])), some (Sum.inr (Sum.inl (3, Row.mk [Value.int IntKind.i64 0] (List.length pre + List.length xs + List.length post) [Col.mk (PI.row (PI.mk lim xs pre post false)) [] []])))]))) ?_ (by kernel_rfl)
      subst hG
      simp only [PI.top] at *
      repeat' (first | apply And.intro | apply Vc.mk | apply fits.mk | intro h | apply Post.mk)
      all_goals (try simp only [decide_eq_true_eq, decide_eq_false_iff_not, Nat.zero_add, ge_iff_le, Int.not_le, Int.not_lt, Int.toNat_natCast, beq_iff_eq, beq_eq_false_iff_ne, bne_iff_ne, bne_eq_false_iff_eq, Bool.not_eq_true', Bool.not_eq_false'] at *)
      all_goals first | contradiction | omega | (apply congrArg Value.bool; assumption) | exact ⟨rfl, by omega⟩ | exact rfl | (simp [*, -List.getD_eq_getElem?_getD]; done) | skip
      all_goals (first | omega | skip)
      · refine ⟨[0, 1], ?_, rfl, ?_, rfl, rfl, rfl, (by kernel_rfl), rfl⟩
        · have hx : xs.length = 0 := by omega
          simp [mvV, mvL, dnV, dnL, hx, -List.length_eq_zero_iff]
        · simp [layInts, PI.row, unf, unfGo, unfB, off, width, L, lay, newHp, mvO, mvSB, Pulls, pullB, nth, at2, dnL, dnV, mvL, mvV, mvA, mvQ_lt, blt_true, blt_false, RowLe, colI, colB]
          all_goals first | rfl | exact ⟨rfl, Nat.succ_pos _, rfl⟩
      · refine ⟨[0, 1], ?_, rfl, ?_, rfl, rfl, rfl, (by kernel_rfl), rfl⟩
        · have e : ((xs.length : Int) - 1).toNat = xs.length - 1 := by omega
          have hx : ¬ xs.length = 0 := by omega
          rw [e, h2 _ (by omega)]
          simp [mvV, mvL, dnV, dnL, hx, -List.length_eq_zero_iff]
        · simp [layInts, PI.row, unf, unfGo, unfB, off, width, L, lay, newHp, mvO, mvSB, Pulls, pullB, nth, at2, dnL, dnV, mvL, mvV, mvA, mvQ_lt, blt_true, blt_false, RowLe, colI, colB]
          all_goals first | rfl | exact ⟨rfl, Nat.succ_pos _, rfl⟩
    · generalize hG : EndsU (R := Rs) (R0 := Empty) _ _ _ = G
      refine rx_ok (T := []) trivial mixed 200 ?_
      refine as_text (q := Vc (fits ((↑(List.length xs) : Int) - (1 : Int))) ∧ (decide ((↑(List.length xs) : Int) - (1 : Int) < (0 : Int)) = true → Post (G (Value.tuple (Array.mk [Value.int IntKind.i64 0, Value.bool false])) [some (Sum.inl (52, [Value.slice (some (Addr.mk 1 (List.length pre) (some 2001000))) (List.length xs) 0, Value.int IntKind.i64 lim])), some (Sum.inr (Sum.inl (3, Row.mk [Value.int IntKind.i64 0] (List.length pre + List.length xs + List.length post) [Col.mk (PI.row (PI.mk lim xs pre post true)) [] []])))])) ∧ (decide ((↑(List.length xs) : Int) - (1 : Int) < (0 : Int)) = false → Vc ((0 : Int) ≤ (↑(List.length xs) : Int) - (1 : Int) ∧ (↑(List.length xs) : Int) - (1 : Int) < (↑(List.length xs) : Int) ∧ List.length pre + List.length xs ≤ List.length pre + List.length xs + List.length post) ∧ Vc (List.length pre + Int.toNat ((↑(List.length xs) : Int) - (1 : Int)) < List.length pre + List.length xs + List.length post) ∧ Post (G (Value.tuple (Array.mk [Value.int IntKind.i64 (List.getD (PI.row (PI.mk lim xs pre post true)) (List.length pre + Int.toNat ((↑(List.length xs) : Int) - (1 : Int))) (0 : Int)), Value.bool true])) [some (Sum.inl (52, [Value.slice (some (Addr.mk 1 (List.length pre) (some 2001000))) (List.length xs) 0, Value.int IntKind.i64 lim])), some (Sum.inr (Sum.inl (3, Row.mk [Value.int IntKind.i64 0] (List.length pre + List.length xs + List.length post) [Col.mk (PI.row (PI.mk lim xs pre post true)) [] []])))]))) ?_ (by kernel_rfl)
      subst hG
      simp only [PI.top] at *
      repeat' (first | apply And.intro | apply Vc.mk | apply fits.mk | intro h | apply Post.mk)
      all_goals (try simp only [decide_eq_true_eq, decide_eq_false_iff_not, Nat.zero_add, ge_iff_le, Int.not_le, Int.not_lt, Int.toNat_natCast, beq_iff_eq, beq_eq_false_iff_ne, bne_iff_ne, bne_eq_false_iff_eq, Bool.not_eq_true', Bool.not_eq_false'] at *)
      all_goals first | contradiction | omega | (apply congrArg Value.bool; assumption) | exact ⟨rfl, by omega⟩ | exact rfl | (simp [*, -List.getD_eq_getElem?_getD]; done) | skip
      all_goals (first | omega | skip)
      · refine ⟨[0, 1], ?_, rfl, ?_, rfl, rfl, rfl, (by kernel_rfl), rfl⟩
        · have hx : xs.length = 0 := by omega
          simp [mvV, mvL, dnV, dnL, hx, -List.length_eq_zero_iff]
        · simp [layInts, PI.row, unf, unfGo, unfB, off, width, L, lay, newHp, mvO, mvSB, Pulls, pullB, nth, at2, dnL, dnV, mvL, mvV, mvA, mvQ_lt, blt_true, blt_false, RowLe, colI, colB]
          all_goals first | rfl | exact ⟨rfl, Nat.succ_pos _, rfl⟩
      · refine ⟨[0, 1], ?_, rfl, ?_, rfl, rfl, rfl, (by kernel_rfl), rfl⟩
        · have e : ((xs.length : Int) - 1).toNat = xs.length - 1 := by omega
          have hx : ¬ xs.length = 0 := by omega
          rw [e, h2 _ (by omega)]
          simp [mvV, mvL, dnV, dnL, hx, -List.length_eq_zero_iff]
        · simp [layInts, PI.row, unf, unfGo, unfB, off, width, L, lay, newHp, mvO, mvSB, Pulls, pullB, nth, at2, dnL, dnV, mvL, mvV, mvA, mvQ_lt, blt_true, blt_false, RowLe, colI, colB]
          all_goals first | rfl | exact ⟨rfl, Nat.succ_pos _, rfl⟩
  · cases hx
def listP : Prim Rs := fun args hh => match args, hh with
  | [.pointer (some ⟨0, 0, none⟩)], [some (.inr (.inr (.inr (.ints m))))] => some ⟨m.Ok 20000, .slice (some ⟨1, 0, some 1000⟩) m.xs.length 0, none, [some (.inr (.inr (.inr (.ints m)))), some (.inr (.inl (3, ⟨[.int .i64 0], m.xs.length, [⟨m.xs, [], []⟩]⟩)))], [], [(0, 0)]⟩
  | _, _ => none
theorem list_ok : ConOk D Try.prog 18 (con1 listP) := by
  refine con1_ok (res_prim (L := L) (D0 := NoR) (fn := Try.f18) (root := codeOf Try.f18) (by kernel_rfl) (by kernel_rfl) (by kernel_rfl) fun args hh x hx => ?_)
  unfold listP at hx
  split at hx
  · rename_i m
    injection hx with hx
    subst hx
    refine ⟨by first | exact Nat.le_refl _ | exact Nat.zero_le _ | exact Nat.le_succ _, noLit rfl, (fun hw => by first | rfl | cases hw), fun _ hv => ?_⟩
    have h1 := hv.len; have h2 := PI.row_cut m
    rcases m with ⟨lim, xs, pre, post, _ | _⟩
    · generalize hG : EndsU (R := Rs) (R0 := Empty) _ _ _ = G
      refine rx_ok (T := []) trivial mixed 200 ?_
      refine as_text (q := Vc (List.length pre + List.length xs ≤ List.length pre + List.length xs + List.length post ∧ List.length xs * 8 ≤ 140737488355328 ∧ List.length xs ≤ 140737488355328) ∧ Post (G (Value.slice (some (Addr.mk 3 0 (some 1000))) (0 + List.length xs) 0) [some (Sum.inl (52, [Value.slice (some (Addr.mk 1 (List.length pre) (some 1000))) (List.length xs) 0, Value.int IntKind.i64 lim])), some (Sum.inr (Sum.inl (3, Row.mk [Value.int IntKind.i64 0] (List.length pre + List.length xs + List.length post) [Col.mk (PI.row (PI.mk lim xs pre post false)) [] []]))), some (Sum.inr (Sum.inl (3, Row.mk [Value.int IntKind.i64 0] 0 [Col.mk [] [] []]))), some (Sum.inr (Sum.inl (3, Row.mk [Value.int IntKind.i64 0] (0 + List.length xs) [Col.mk ([] ++ cut (PI.row (PI.mk lim xs pre post false)) (List.length pre) (List.length xs)) [] []])))])) ?_ (by kernel_rfl)
      subst hG
      simp only [PI.Ok] at h1 h2
      simp only [h2, List.nil_append, Nat.zero_add]
      refine ⟨⟨by omega, by omega, by omega⟩, ⟨⟨[0, 1, 3], ?_, rfl, ?_, rfl, rfl, rfl, (by kernel_rfl), rfl⟩⟩⟩
      · simp [unf, unfGo, unfB, off, width, L, lay, newHp, mvO, mvSB, Pulls, pullB, nth, at2, dnL, dnV, mvL, mvV, mvA, mvQ_lt, blt_true, blt_false, RowLe, colI, colB, layInts]
      · simp [layInts, PI.row, unf, unfGo, unfB, off, width, L, lay, newHp, mvO, mvSB, Pulls, pullB, nth, at2, dnL, dnV, mvL, mvV, mvA, mvQ_lt, blt_true, blt_false, RowLe, colI, colB]
        all_goals first | rfl | exact ⟨rfl, Nat.succ_pos _, rfl⟩
    · generalize hG : EndsU (R := Rs) (R0 := Empty) _ _ _ = G
      refine rx_ok (T := []) trivial mixed 200 ?_
      refine as_text (q := Vc (List.length pre + List.length xs ≤ List.length pre + List.length xs + List.length post ∧ List.length xs * 8 ≤ 140737488355328 ∧ List.length xs ≤ 140737488355328) ∧ Post (G (Value.slice (some (Addr.mk 3 0 (some 1000))) (0 + List.length xs) 0) [some (Sum.inl (52, [Value.slice (some (Addr.mk 1 (List.length pre) (some 2001000))) (List.length xs) 0, Value.int IntKind.i64 lim])), some (Sum.inr (Sum.inl (3, Row.mk [Value.int IntKind.i64 0] (List.length pre + List.length xs + List.length post) [Col.mk (PI.row (PI.mk lim xs pre post true)) [] []]))), some (Sum.inr (Sum.inl (3, Row.mk [Value.int IntKind.i64 0] 0 [Col.mk [] [] []]))), some (Sum.inr (Sum.inl (3, Row.mk [Value.int IntKind.i64 0] (0 + List.length xs) [Col.mk ([] ++ cut (PI.row (PI.mk lim xs pre post true)) (List.length pre) (List.length xs)) [] []])))])) ?_ (by kernel_rfl)
      subst hG
      simp only [PI.Ok] at h1 h2
      simp only [h2, List.nil_append, Nat.zero_add]
      refine ⟨⟨by omega, by omega, by omega⟩, ⟨⟨[0, 1, 3], ?_, rfl, ?_, rfl, rfl, rfl, (by kernel_rfl), rfl⟩⟩⟩
      · simp [unf, unfGo, unfB, off, width, L, lay, newHp, mvO, mvSB, Pulls, pullB, nth, at2, dnL, dnV, mvL, mvV, mvA, mvQ_lt, blt_true, blt_false, RowLe, colI, colB, layInts]
      · simp [layInts, PI.row, unf, unfGo, unfB, off, width, L, lay, newHp, mvO, mvSB, Pulls, pullB, nth, at2, dnL, dnV, mvL, mvV, mvA, mvQ_lt, blt_true, blt_false, RowLe, colI, colB]
        all_goals first | rfl | exact ⟨rfl, Nat.succ_pos _, rfl⟩
  · cases hx
def pushP : Prim Rs := fun args hh => match args, hh with
  | [.pointer (some ⟨0, 0, none⟩), .int .i64 v], [some (.inr (.inr (.inr (.ints m))))] => some ⟨m.Ok 20000, .tuple #[.int .i64 (m.gone v), .bool m.over], none, [some (.inr (.inr (.inr (.ints (m.push v)))))], [], [(0, 0)]⟩
  | _, _ => none
theorem push_ok : ConOk D Try.prog 11 (con1 pushP) := by
  refine con1_ok (res_prim (L := L) (D0 := NoR) (fn := Try.f11) (root := codeOf Try.f11) (by kernel_rfl) (by kernel_rfl) (by kernel_rfl) fun args hh x hx => ?_)
  unfold pushP at hx
  split at hx
  · rename_i v m
    injection hx with hx
    subst hx
    refine ⟨by first | exact Nat.le_refl _ | exact Nat.zero_le _ | exact Nat.le_succ _, noLit rfl, (fun hw => by first | rfl | cases hw), fun _ hv => ?_⟩
    have h1 := hv.len; have h2 := PI.row_cut m
    rcases m with ⟨lim, xs, pre, post, _ | _⟩
    · generalize hG : EndsU (R := Rs) (R0 := Empty) _ _ _ = G
      refine rx_ok (T := []) trivial mixed 200 ?_
      refine as_text (q := Vc (List.length pre + List.length xs ≤ List.length pre + List.length xs + List.length post ∧ 1 ≤ 1 ∧ (List.length xs + 1) * 8 ≤ 140737488355328 ∧ List.length xs + 1 ≤ 140737488355328) ∧ (decide ((↑(List.length xs + 1) : Int) ≤ lim) = true → Post (G (Value.tuple (Array.mk [Value.int IntKind.i64 0, Value.bool false])) [some (Sum.inl (52, [Value.slice (some (Addr.mk 3 0 (some 1000))) (List.length xs + 1) 0, Value.int IntKind.i64 lim])), none, some (Sum.inr (Sum.inl (3, Row.mk [Value.int IntKind.i64 0] 1 [Col.mk [v] [] []]))), some (Sum.inr (Sum.inl (3, Row.mk [Value.int IntKind.i64 0] (List.length xs + 1) [Col.mk (cut (PI.row (PI.mk lim xs pre post false)) (List.length pre) (List.length xs) ++ cut [v] 0 1) [] []])))])) ∧ (decide ((↑(List.length xs + 1) : Int) ≤ lim) = false → Vc ((0 : Int) ≤ (0 : Int) ∧ (0 : Int) < (↑(List.length xs + 1) : Int) ∧ 0 + (List.length xs + 1) ≤ List.length xs + 1) ∧ Vc (0 < List.length xs + 1) ∧ Vc ((0 : Int) ≤ (0 : Int) ∧ (0 : Int) < (↑(List.length xs + 1) : Int) ∧ 0 + (List.length xs + 1) ≤ List.length xs + 1) ∧ Vc (0 < List.length xs + 1) ∧ Vc (0 = 0 ∧ (0 : Int) ≤ (1 : Int) ∧ (1 : Int) ≤ (↑(List.length xs + 1) : Int) ∧ (↑(List.length xs + 1) : Int) ≤ (↑(List.length xs + 1) : Int) ∧ 0 + (List.length xs + 1) ≤ List.length xs + 1) ∧ Post (G (Value.tuple (Array.mk [Value.int IntKind.i64 (List.getD (cut (PI.row (PI.mk lim xs pre post false)) (List.length pre) (List.length xs) ++ cut [v] 0 1) 0 (0 : Int)), Value.bool true])) [some (Sum.inl (52, [Value.slice (some (Addr.mk 3 1 (some 4001000))) (Int.toNat ((↑(List.length xs + 1) : Int) - (1 : Int))) 0, Value.int IntKind.i64 lim])), none, some (Sum.inr (Sum.inl (3, Row.mk [Value.int IntKind.i64 0] 1 [Col.mk [v] [] []]))), some (Sum.inr (Sum.inl (3, Row.mk [Value.int IntKind.i64 0] (List.length xs + 1) [Col.mk (List.set (cut (PI.row (PI.mk lim xs pre post false)) (List.length pre) (List.length xs) ++ cut [v] 0 1) 0 (0 : Int)) [] []])))]))) ?_ (by kernel_rfl)
      subst hG
      simp only [PI.Ok] at h1 h2
      simp only [h2, List.nil_append, Nat.zero_add]
      repeat' (first | apply And.intro | apply Vc.mk | apply fits.mk | intro h | apply Post.mk)
      all_goals (try simp only [decide_eq_true_eq, decide_eq_false_iff_not, Nat.zero_add, ge_iff_le, Int.not_le, Int.not_lt, Int.toNat_natCast, beq_iff_eq, beq_eq_false_iff_ne, bne_iff_ne, bne_eq_false_iff_eq, Bool.not_eq_true', Bool.not_eq_false'] at *)
      all_goals first | contradiction | omega | (apply congrArg Value.bool; assumption) | exact ⟨rfl, by omega⟩ | exact rfl | (simp [*, -List.getD_eq_getElem?_getD]; done) | skip
      all_goals (first | omega | skip)
      all_goals have c1 : cut [v] 0 1 = [v] := rfl
      · have hp := fun tg => PI.push_room ⟨lim, xs, pre, post, tg⟩ v (by assumption)
        rw [(hp _).1, (hp _).2.1, (hp _).2.2, c1]
        refine ⟨[0, 3], ?_, rfl, ?_, rfl, rfl, rfl, (by kernel_rfl), rfl⟩
        · simp [unf, unfGo, unfB, off, width, L, lay, newHp, mvO, mvSB, Pulls, pullB, nth, at2, dnL, dnV, mvL, mvV, mvA, mvQ_lt, blt_true, blt_false, RowLe, colI, colB]
        · simp [layInts, PI.row, unf, unfGo, unfB, off, width, L, lay, newHp, mvO, mvSB, Pulls, pullB, nth, at2, dnL, dnV, mvL, mvV, mvA, mvQ_lt, blt_true, blt_false, RowLe, colI, colB]
          all_goals first | rfl | exact ⟨rfl, by omega⟩ | omega | skip
      · obtain ⟨y, ys, e⟩ := snoc_cons xs v
        have hl : xs.length + 1 = ys.length + 1 := by have := congrArg List.length e; simpa using this
        have hp := fun tg => PI.push_over ⟨lim, xs, pre, post, tg⟩ v y ys (by assumption) e
        have e2 : ((((ys.length + 1 : Nat) : Int)) - 1).toNat = ys.length := by omega
        rw [(hp _).1, (hp _).2.1, (hp _).2.2, c1, e, hl, e2]
        refine ⟨[0, 3], ?_, rfl, ?_, rfl, rfl, rfl, (by kernel_rfl), rfl⟩
        · simp [unf, unfGo, unfB, off, width, L, lay, newHp, mvO, mvSB, Pulls, pullB, nth, at2, dnL, dnV, mvL, mvV, mvA, mvQ_lt, blt_true, blt_false, RowLe, colI, colB]
        · simp [layInts, PI.row, unf, unfGo, unfB, off, width, L, lay, newHp, mvO, mvSB, Pulls, pullB, nth, at2, dnL, dnV, mvL, mvV, mvA, mvQ_lt, blt_true, blt_false, RowLe, colI, colB]
          all_goals first | rfl | exact ⟨rfl, by omega⟩ | omega | skip
    · generalize hG : EndsU (R := Rs) (R0 := Empty) _ _ _ = G
      refine rx_ok (T := []) trivial mixed 200 ?_
      refine as_text (q := Vc (0 < 1 ∧ List.length pre + List.length xs ≤ List.length pre + List.length xs + List.length post ∧ 1 ≤ 1 ∧ (List.length xs + 1) * 8 ≤ 140737488355328 ∧ List.length xs + 1 ≤ 140737488355328) ∧ (decide ((↑(List.length xs + 1) : Int) ≤ lim) = true → Post (G (Value.tuple (Array.mk [Value.int IntKind.i64 0, Value.bool false])) [some (Sum.inl (52, [Value.slice (some (Addr.mk 3 0 (some 1000))) (List.length xs + 1) 0, Value.int IntKind.i64 lim])), none, some (Sum.inr (Sum.inl (3, Row.mk [Value.int IntKind.i64 0] 1 [Col.mk [v] [] []]))), some (Sum.inr (Sum.inl (3, Row.mk [Value.int IntKind.i64 0] (List.length xs + 1) [Col.mk (cut (PI.row (PI.mk lim xs pre post true)) (List.length pre) (List.length xs) ++ cut [v] 0 1) [] []])))])) ∧ (decide ((↑(List.length xs + 1) : Int) ≤ lim) = false → Vc ((0 : Int) ≤ (0 : Int) ∧ (0 : Int) < (↑(List.length xs + 1) : Int) ∧ 0 + (List.length xs + 1) ≤ List.length xs + 1) ∧ Vc (0 < List.length xs + 1) ∧ Vc ((0 : Int) ≤ (0 : Int) ∧ (0 : Int) < (↑(List.length xs + 1) : Int) ∧ 0 + (List.length xs + 1) ≤ List.length xs + 1) ∧ Vc (0 < List.length xs + 1) ∧ Vc (0 = 0 ∧ (0 : Int) ≤ (1 : Int) ∧ (1 : Int) ≤ (↑(List.length xs + 1) : Int) ∧ (↑(List.length xs + 1) : Int) ≤ (↑(List.length xs + 1) : Int) ∧ 0 + (List.length xs + 1) ≤ List.length xs + 1) ∧ Post (G (Value.tuple (Array.mk [Value.int IntKind.i64 (List.getD (cut (PI.row (PI.mk lim xs pre post true)) (List.length pre) (List.length xs) ++ cut [v] 0 1) 0 (0 : Int)), Value.bool true])) [some (Sum.inl (52, [Value.slice (some (Addr.mk 3 1 (some 4001000))) (Int.toNat ((↑(List.length xs + 1) : Int) - (1 : Int))) 0, Value.int IntKind.i64 lim])), none, some (Sum.inr (Sum.inl (3, Row.mk [Value.int IntKind.i64 0] 1 [Col.mk [v] [] []]))), some (Sum.inr (Sum.inl (3, Row.mk [Value.int IntKind.i64 0] (List.length xs + 1) [Col.mk (List.set (cut (PI.row (PI.mk lim xs pre post true)) (List.length pre) (List.length xs) ++ cut [v] 0 1) 0 (0 : Int)) [] []])))]))) ?_ (by kernel_rfl)
      subst hG
      simp only [PI.Ok] at h1 h2
      simp only [h2, List.nil_append, Nat.zero_add]
      repeat' (first | apply And.intro | apply Vc.mk | apply fits.mk | intro h | apply Post.mk)
      all_goals (try simp only [decide_eq_true_eq, decide_eq_false_iff_not, Nat.zero_add, ge_iff_le, Int.not_le, Int.not_lt, Int.toNat_natCast, beq_iff_eq, beq_eq_false_iff_ne, bne_iff_ne, bne_eq_false_iff_eq, Bool.not_eq_true', Bool.not_eq_false'] at *)
      all_goals first | contradiction | omega | (apply congrArg Value.bool; assumption) | exact ⟨rfl, by omega⟩ | exact rfl | (simp [*, -List.getD_eq_getElem?_getD]; done) | skip
      all_goals (first | omega | skip)
      all_goals have c1 : cut [v] 0 1 = [v] := rfl
      · have hp := fun tg => PI.push_room ⟨lim, xs, pre, post, tg⟩ v (by assumption)
        rw [(hp _).1, (hp _).2.1, (hp _).2.2, c1]
        refine ⟨[0, 3], ?_, rfl, ?_, rfl, rfl, rfl, (by kernel_rfl), rfl⟩
        · simp [unf, unfGo, unfB, off, width, L, lay, newHp, mvO, mvSB, Pulls, pullB, nth, at2, dnL, dnV, mvL, mvV, mvA, mvQ_lt, blt_true, blt_false, RowLe, colI, colB]
        · simp [layInts, PI.row, unf, unfGo, unfB, off, width, L, lay, newHp, mvO, mvSB, Pulls, pullB, nth, at2, dnL, dnV, mvL, mvV, mvA, mvQ_lt, blt_true, blt_false, RowLe, colI, colB]
          all_goals first | rfl | exact ⟨rfl, by omega⟩ | omega | skip
      · obtain ⟨y, ys, e⟩ := snoc_cons xs v
        have hl : xs.length + 1 = ys.length + 1 := by have := congrArg List.length e; simpa using this
        have hp := fun tg => PI.push_over ⟨lim, xs, pre, post, tg⟩ v y ys (by assumption) e
        have e2 : ((((ys.length + 1 : Nat) : Int)) - 1).toNat = ys.length := by omega
        rw [(hp _).1, (hp _).2.1, (hp _).2.2, c1, e, hl, e2]
        refine ⟨[0, 3], ?_, rfl, ?_, rfl, rfl, rfl, (by kernel_rfl), rfl⟩
        · simp [unf, unfGo, unfB, off, width, L, lay, newHp, mvO, mvSB, Pulls, pullB, nth, at2, dnL, dnV, mvL, mvV, mvA, mvQ_lt, blt_true, blt_false, RowLe, colI, colB]
        · simp [layInts, PI.row, unf, unfGo, unfB, off, width, L, lay, newHp, mvO, mvSB, Pulls, pullB, nth, at2, dnL, dnV, mvL, mvV, mvA, mvQ_lt, blt_true, blt_false, RowLe, colI, colB]
          all_goals first | rfl | exact ⟨rfl, by omega⟩ | omega | skip
  · cases hx
end Go.Proofs.Ytfofaiidakkgbaa.Pi
