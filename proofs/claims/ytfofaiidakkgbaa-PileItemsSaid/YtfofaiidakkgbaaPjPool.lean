/- pile: the functions of a pile of items, by what they do to its columns. -/
import Derived.Test.YtfofaiidakkgbaaPiRes
namespace Go.Proofs.Ytfofaiidakkgbaa.Pi
open Go.Proofs.Ytfofaiidakkgbaa.Rx
set_option linter.unusedVariables false
set_option linter.unusedSimpArgs false
set_option maxRecDepth 100000
def jnewP : Prim Rs := fun args hh => match args, hh with
  | [.int .i64 c], [] => some ⟨True, .pointer (some ⟨0, 0, none⟩), none, [some (.inr (.inr (.inr (.items ⟨min (max c 0) 10000, [], [], [], [], [], [], false⟩))))], [], [(0, 0)]⟩
  | _, _ => none
theorem jnew_ok : ConOk D Try.prog 19 (con1 jnewP) := by
  refine con1_ok (res_prim (L := L) (D0 := NoR) (fn := Try.f19) (root := codeOf Try.f19) (by kernel_rfl) (by kernel_rfl) (by kernel_rfl) fun args hh x hx => ?_)
  unfold jnewP at hx
  split at hx
  · rename_i c
    injection hx with hx
    subst hx
    refine ⟨by first | exact Nat.le_refl _ | exact Nat.zero_le _ | exact Nat.le_succ _, noLit rfl, (fun hw => by first | rfl | cases hw), fun _ hv => ?_⟩
    generalize hG : EndsU (R := Rs) (R0 := Empty) _ _ _ = G
    refine rx_ok (T := []) trivial mixed 200 ?_
    refine as_text (q := Post (G (Value.pointer (some (Addr.mk 0 0 none))) [some (Sum.inl (54, [Value.slice none 0 0, Value.int IntKind.i64 (if (10000 : Int) < if (0 : Int) > c then (0 : Int) else c then (10000 : Int) else if (0 : Int) > c then (0 : Int) else c)]))])) ?_ (by kernel_rfl)
    subst hG
    refine ⟨⟨[0, 1], rfl, rfl, ?_, rfl, rfl, rfl, (by kernel_rfl), rfl⟩⟩
    have e : (if 10000 < if 0 > c then 0 else c then 10000 else if 0 > c then 0 else c) = min (max c 0) 10000 := by
      by_cases h1 : 0 > c
      · rw [if_pos h1]; simp; omega
      · rw [if_neg h1]; split <;> omega
    simp [layItems, PJ.rowX, PJ.rowY, unf, unfGo, unfB, off, width, L, lay, newHp, mvO, mvSB, Pulls, pullB, nth, at2, dnL, dnV, mvL, mvV, mvA, mvQ_lt, blt_true, blt_false, RowLe, colI, colB, e]
    all_goals first | rfl | exact ⟨rfl, Nat.succ_pos _, rfl⟩
  · cases hx
def jlenP : Prim Rs := fun args hh => match args, hh with
  | [.pointer (some ⟨0, 0, none⟩)], [some (.inr (.inr (.inr (.items m))))] => some ⟨m.Ok 20000, .int .i64 m.x.length, none, hh, [], []⟩
  | _, _ => none
theorem jlen_ok : ConOk D Try.prog 24 (con1 jlenP) := by
  refine con1_ok (res_prim (L := L) (D0 := NoR) (fn := Try.f24) (root := codeOf Try.f24) (by kernel_rfl) (by kernel_rfl) (by kernel_rfl) fun args hh x hx => ?_)
  unfold jlenP at hx
  split at hx
  · rename_i m
    injection hx with hx
    subst hx
    refine ⟨by first | exact Nat.le_refl _ | exact Nat.zero_le _ | exact Nat.le_succ _, noLit rfl, (fun hw => by first | rfl | cases hw), fun _ hv => ?_⟩
    rcases m with ⟨lim, x, y, px, py, qx, qy, _ | _⟩
    · generalize hG : EndsU (R := Rs) (R0 := Empty) _ _ _ = G
      refine rx_ok (T := []) trivial mixed 200 ?_
      refine as_text (q := Post (G (Value.int IntKind.i64 (↑(List.length x) : Int)) [some (Sum.inl (54, [Value.slice (some (Addr.mk 1 (List.length px) (some 2000))) (List.length x) 0, Value.int IntKind.i64 lim])), some (Sum.inr (Sum.inl (43, Row.mk [Value.int IntKind.i64 0, Value.int IntKind.i64 0] (List.length px + List.length x + List.length qx) [Col.mk (PJ.rowX (PJ.mk lim x y px py qx qy false)) [] [], Col.mk (PJ.rowY (PJ.mk lim x y px py qx qy false)) [] []])))])) ?_ (by kernel_rfl)
      subst hG
      have h1 := hv.len
      refine ⟨⟨[0, 1], rfl, rfl, ?_, rfl, rfl, rfl, (by kernel_rfl), rfl⟩⟩
      simp [layItems, unf, unfGo, unfB, off, width, L, lay, newHp, mvO, mvSB, Pulls, pullB, nth, at2, dnL, dnV, mvL, mvV, mvA, mvQ_lt, blt_true, blt_false, RowLe, colI, colB]
      all_goals first | rfl | exact ⟨rfl, Nat.succ_pos _, rfl⟩
    · generalize hG : EndsU (R := Rs) (R0 := Empty) _ _ _ = G
      refine rx_ok (T := []) trivial mixed 200 ?_
      refine as_text (q := Post (G (Value.int IntKind.i64 (↑(List.length x) : Int)) [some (Sum.inl (54, [Value.slice (some (Addr.mk 1 (List.length px) (some 2002000))) (List.length x) 0, Value.int IntKind.i64 lim])), some (Sum.inr (Sum.inl (43, Row.mk [Value.int IntKind.i64 0, Value.int IntKind.i64 0] (List.length px + List.length x + List.length qx) [Col.mk (PJ.rowX (PJ.mk lim x y px py qx qy true)) [] [], Col.mk (PJ.rowY (PJ.mk lim x y px py qx qy true)) [] []])))])) ?_ (by kernel_rfl)
      subst hG
      have h1 := hv.len
      refine ⟨⟨[0, 1], rfl, rfl, ?_, rfl, rfl, rfl, (by kernel_rfl), rfl⟩⟩
      simp [layItems, unf, unfGo, unfB, off, width, L, lay, newHp, mvO, mvSB, Pulls, pullB, nth, at2, dnL, dnV, mvL, mvV, mvA, mvQ_lt, blt_true, blt_false, RowLe, colI, colB]
      all_goals first | rfl | exact ⟨rfl, Nat.succ_pos _, rfl⟩
  · cases hx
def jlistP : Prim Rs := fun args hh => match args, hh with
  | [.pointer (some ⟨0, 0, none⟩)], [some (.inr (.inr (.inr (.items m))))] => some ⟨m.Ok 20000, .slice (some ⟨1, 0, some 2000⟩) m.x.length 0, none, [some (.inr (.inr (.inr (.items m)))), some (.inr (.inl (43, ⟨[.int .i64 0, .int .i64 0], m.x.length, [⟨m.x, [], []⟩, ⟨m.y, [], []⟩]⟩)))], [], [(0, 0)]⟩
  | _, _ => none
theorem jlist_ok : ConOk D Try.prog 22 (con1 jlistP) := by
  refine con1_ok (res_prim (L := L) (D0 := NoR) (fn := Try.f22) (root := codeOf Try.f22) (by kernel_rfl) (by kernel_rfl) (by kernel_rfl) fun args hh x hx => ?_)
  unfold jlistP at hx
  split at hx
  · rename_i m
    injection hx with hx
    subst hx
    refine ⟨by first | exact Nat.le_refl _ | exact Nat.zero_le _ | exact Nat.le_succ _, noLit rfl, (fun hw => by first | rfl | cases hw), fun _ hv => ?_⟩
    have h1 := hv.len; have h2 := PJ.cutX m; have h3 := PJ.cutY m hv
    rcases m with ⟨lim, x, y, px, py, qx, qy, _ | _⟩
    · generalize hG : EndsU (R := Rs) (R0 := Empty) _ _ _ = G
      refine rx_ok (T := []) trivial mixed 200 ?_
      refine as_text (q := Vc (List.length px + List.length x ≤ List.length px + List.length x + List.length qx ∧ List.length x * 16 ≤ 140737488355328 ∧ List.length x ≤ 140737488355328) ∧ Post (G (Value.slice (some (Addr.mk 3 0 (some 2000))) (0 + List.length x) 0) [some (Sum.inl (54, [Value.slice (some (Addr.mk 1 (List.length px) (some 2000))) (List.length x) 0, Value.int IntKind.i64 lim])), some (Sum.inr (Sum.inl (43, Row.mk [Value.int IntKind.i64 0, Value.int IntKind.i64 0] (List.length px + List.length x + List.length qx) [Col.mk (PJ.rowX (PJ.mk lim x y px py qx qy false)) [] [], Col.mk (PJ.rowY (PJ.mk lim x y px py qx qy false)) [] []]))), some (Sum.inr (Sum.inl (43, Row.mk [Value.int IntKind.i64 0, Value.int IntKind.i64 0] 0 [Col.mk [] [] [], Col.mk [] [] []]))), some (Sum.inr (Sum.inl (43, Row.mk [Value.int IntKind.i64 0, Value.int IntKind.i64 0] (0 + List.length x) [Col.mk ([] ++ cut (PJ.rowX (PJ.mk lim x y px py qx qy false)) (List.length px) (List.length x)) [] [], Col.mk ([] ++ cut (PJ.rowY (PJ.mk lim x y px py qx qy false)) (List.length px) (List.length x)) [] []])))])) ?_ (by kernel_rfl)
      subst hG
      simp only [PJ.Ok] at h1 h2 h3
      simp only [h2, h3, List.nil_append, Nat.zero_add]
      repeat' (first | apply And.intro | apply Vc.mk | apply fits.mk | intro h | apply Post.mk)
      all_goals (try simp only [decide_eq_true_eq, decide_eq_false_iff_not, Nat.zero_add, ge_iff_le, Int.not_le, Int.not_lt, Int.toNat_natCast, beq_iff_eq, beq_eq_false_iff_ne, bne_iff_ne, bne_eq_false_iff_eq, Bool.not_eq_true', Bool.not_eq_false'] at *)
      all_goals first | contradiction | omega | (apply congrArg Value.bool; assumption) | exact ⟨rfl, by omega⟩ | exact rfl | (simp [*, -List.getD_eq_getElem?_getD]; done) | skip
      all_goals (first | omega | skip)
      refine ⟨[0, 1, 3], ?_, rfl, ?_, rfl, rfl, rfl, (by kernel_rfl), rfl⟩
      · simp [unf, unfGo, unfB, off, width, L, lay, newHp, mvO, mvSB, Pulls, pullB, nth, at2, dnL, dnV, mvL, mvV, mvA, mvQ_lt, blt_true, blt_false, RowLe, colI, colB, layItems]
      · simp [layItems, PJ.rowX, PJ.rowY, unf, unfGo, unfB, off, width, L, lay, newHp, mvO, mvSB, Pulls, pullB, nth, at2, dnL, dnV, mvL, mvV, mvA, mvQ_lt, blt_true, blt_false, RowLe, colI, colB]
        all_goals first | rfl | exact ⟨rfl, Nat.succ_pos _, rfl⟩
    · generalize hG : EndsU (R := Rs) (R0 := Empty) _ _ _ = G
      refine rx_ok (T := []) trivial mixed 200 ?_
      refine as_text (q := Vc (List.length px + List.length x ≤ List.length px + List.length x + List.length qx ∧ List.length x * 16 ≤ 140737488355328 ∧ List.length x ≤ 140737488355328) ∧ Post (G (Value.slice (some (Addr.mk 3 0 (some 2000))) (0 + List.length x) 0) [some (Sum.inl (54, [Value.slice (some (Addr.mk 1 (List.length px) (some 2002000))) (List.length x) 0, Value.int IntKind.i64 lim])), some (Sum.inr (Sum.inl (43, Row.mk [Value.int IntKind.i64 0, Value.int IntKind.i64 0] (List.length px + List.length x + List.length qx) [Col.mk (PJ.rowX (PJ.mk lim x y px py qx qy true)) [] [], Col.mk (PJ.rowY (PJ.mk lim x y px py qx qy true)) [] []]))), some (Sum.inr (Sum.inl (43, Row.mk [Value.int IntKind.i64 0, Value.int IntKind.i64 0] 0 [Col.mk [] [] [], Col.mk [] [] []]))), some (Sum.inr (Sum.inl (43, Row.mk [Value.int IntKind.i64 0, Value.int IntKind.i64 0] (0 + List.length x) [Col.mk ([] ++ cut (PJ.rowX (PJ.mk lim x y px py qx qy true)) (List.length px) (List.length x)) [] [], Col.mk ([] ++ cut (PJ.rowY (PJ.mk lim x y px py qx qy true)) (List.length px) (List.length x)) [] []])))])) ?_ (by kernel_rfl)
      subst hG
      simp only [PJ.Ok] at h1 h2 h3
      simp only [h2, h3, List.nil_append, Nat.zero_add]
      repeat' (first | apply And.intro | apply Vc.mk | apply fits.mk | intro h | apply Post.mk)
      all_goals (try simp only [decide_eq_true_eq, decide_eq_false_iff_not, Nat.zero_add, ge_iff_le, Int.not_le, Int.not_lt, Int.toNat_natCast, beq_iff_eq, beq_eq_false_iff_ne, bne_iff_ne, bne_eq_false_iff_eq, Bool.not_eq_true', Bool.not_eq_false'] at *)
      all_goals first | contradiction | omega | (apply congrArg Value.bool; assumption) | exact ⟨rfl, by omega⟩ | exact rfl | (simp [*, -List.getD_eq_getElem?_getD]; done) | skip
      all_goals (first | omega | skip)
      refine ⟨[0, 1, 3], ?_, rfl, ?_, rfl, rfl, rfl, (by kernel_rfl), rfl⟩
      · simp [unf, unfGo, unfB, off, width, L, lay, newHp, mvO, mvSB, Pulls, pullB, nth, at2, dnL, dnV, mvL, mvV, mvA, mvQ_lt, blt_true, blt_false, RowLe, colI, colB, layItems]
      · simp [layItems, PJ.rowX, PJ.rowY, unf, unfGo, unfB, off, width, L, lay, newHp, mvO, mvSB, Pulls, pullB, nth, at2, dnL, dnV, mvL, mvV, mvA, mvQ_lt, blt_true, blt_false, RowLe, colI, colB]
        all_goals first | rfl | exact ⟨rfl, Nat.succ_pos _, rfl⟩
  · cases hx
def jpushP : Prim Rs := fun args hh => match args, hh with
  | [.pointer (some ⟨0, 0, none⟩), .agg ⟨[.int .i64 v, .int .i64 u]⟩], [some (.inr (.inr (.inr (.items m))))] => some ⟨m.Ok 20000, .tuple #[.agg #[.int .i64 (m.goneX v), .int .i64 (m.goneY u)], .bool m.over], none, [some (.inr (.inr (.inr (.items (m.push v u)))))], [], [(0, 0)]⟩
  | _, _ => none
theorem jpush_ok : ConOk D Try.prog 20 (con1 jpushP) := by
  refine con1_ok (res_prim (L := L) (D0 := NoR) (fn := Try.f20) (root := codeOf Try.f20) (by kernel_rfl) (by kernel_rfl) (by kernel_rfl) fun args hh x hx => ?_)
  unfold jpushP at hx
  split at hx
  · rename_i v u m
    injection hx with hx
    subst hx
    refine ⟨by first | exact Nat.le_refl _ | exact Nat.zero_le _ | exact Nat.le_succ _, noLit rfl, (fun hw => by first | rfl | cases hw), fun _ hv => ?_⟩
    have h1 := hv.len; have h2 := PJ.cutX m; have h3 := PJ.cutY m hv; have h4 := hv.y
    rcases m with ⟨lim, x, y, px, py, qx, qy, _ | _⟩
    · generalize hG : EndsU (R := Rs) (R0 := Empty) _ _ _ = G
      refine rx_ok (T := []) trivial mixed 200 ?_
      refine as_text (q := Vc (List.length px + List.length x ≤ List.length px + List.length x + List.length qx ∧ 1 ≤ 1 ∧ (List.length x + 1) * 16 ≤ 140737488355328 ∧ List.length x + 1 ≤ 140737488355328) ∧ (decide ((↑(List.length x + 1) : Int) ≤ lim) = true → Post (G (Value.tuple (Array.mk [Value.agg (Array.mk [Value.int IntKind.i64 0, Value.int IntKind.i64 0]), Value.bool false])) [some (Sum.inl (54, [Value.slice (some (Addr.mk 6 0 (some 2000))) (List.length x + 1) 0, Value.int IntKind.i64 lim])), none, some (Sum.inl (43, [Value.int IntKind.i64 v, Value.int IntKind.i64 u])), some (Sum.inl (43, [Value.int IntKind.i64 0, Value.int IntKind.i64 0])), some (Sum.inl (43, [Value.int IntKind.i64 0, Value.int IntKind.i64 0])), some (Sum.inr (Sum.inl (43, Row.mk [Value.int IntKind.i64 0, Value.int IntKind.i64 0] 1 [Col.mk [v] [] [], Col.mk [u] [] []]))), some (Sum.inr (Sum.inl (43, Row.mk [Value.int IntKind.i64 0, Value.int IntKind.i64 0] (List.length x + 1) [Col.mk (cut (PJ.rowX (PJ.mk lim x y px py qx qy false)) (List.length px) (List.length x) ++ cut [v] 0 1) [] [], Col.mk (cut (PJ.rowY (PJ.mk lim x y px py qx qy false)) (List.length px) (List.length x) ++ cut [u] 0 1) [] []])))])) ∧ (decide ((↑(List.length x + 1) : Int) ≤ lim) = false → Vc ((0 : Int) ≤ (0 : Int) ∧ (0 : Int) < (↑(List.length x + 1) : Int) ∧ 0 + (List.length x + 1) ≤ List.length x + 1) ∧ Vc (0 < List.length x + 1) ∧ Vc ((0 : Int) ≤ (0 : Int) ∧ (0 : Int) < (↑(List.length x + 1) : Int) ∧ 0 + (List.length x + 1) ≤ List.length x + 1) ∧ Vc (0 < List.length x + 1) ∧ Vc (0 = 0 ∧ (0 : Int) ≤ (1 : Int) ∧ (1 : Int) ≤ (↑(List.length x + 1) : Int) ∧ (↑(List.length x + 1) : Int) ≤ (↑(List.length x + 1) : Int) ∧ 0 + (List.length x + 1) ≤ List.length x + 1) ∧ Post (G (Value.tuple (Array.mk [Value.agg (Array.mk [Value.int IntKind.i64 (List.getD (cut (PJ.rowX (PJ.mk lim x y px py qx qy false)) (List.length px) (List.length x) ++ cut [v] 0 1) 0 (0 : Int)), Value.int IntKind.i64 (List.getD (cut (PJ.rowY (PJ.mk lim x y px py qx qy false)) (List.length px) (List.length x) ++ cut [u] 0 1) 0 (0 : Int))]), Value.bool true])) [some (Sum.inl (54, [Value.slice (some (Addr.mk 6 1 (some 7002000))) (Int.toNat ((↑(List.length x + 1) : Int) - (1 : Int))) 0, Value.int IntKind.i64 lim])), none, some (Sum.inl (43, [Value.int IntKind.i64 v, Value.int IntKind.i64 u])), some (Sum.inl (43, [Value.int IntKind.i64 (List.getD (cut (PJ.rowX (PJ.mk lim x y px py qx qy false)) (List.length px) (List.length x) ++ cut [v] 0 1) 0 (0 : Int)), Value.int IntKind.i64 (List.getD (cut (PJ.rowY (PJ.mk lim x y px py qx qy false)) (List.length px) (List.length x) ++ cut [u] 0 1) 0 (0 : Int))])), some (Sum.inl (43, [Value.int IntKind.i64 0, Value.int IntKind.i64 0])), some (Sum.inr (Sum.inl (43, Row.mk [Value.int IntKind.i64 0, Value.int IntKind.i64 0] 1 [Col.mk [v] [] [], Col.mk [u] [] []]))), some (Sum.inr (Sum.inl (43, Row.mk [Value.int IntKind.i64 0, Value.int IntKind.i64 0] (List.length x + 1) [Col.mk (List.set (cut (PJ.rowX (PJ.mk lim x y px py qx qy false)) (List.length px) (List.length x) ++ cut [v] 0 1) 0 (0 : Int)) [] [], Col.mk (List.set (cut (PJ.rowY (PJ.mk lim x y px py qx qy false)) (List.length px) (List.length x) ++ cut [u] 0 1) 0 (0 : Int)) [] []]))), some (Sum.inl (43, [Value.int IntKind.i64 (List.getD (cut (PJ.rowX (PJ.mk lim x y px py qx qy false)) (List.length px) (List.length x) ++ cut [v] 0 1) 0 (0 : Int)), Value.int IntKind.i64 (List.getD (cut (PJ.rowY (PJ.mk lim x y px py qx qy false)) (List.length px) (List.length x) ++ cut [u] 0 1) 0 (0 : Int))]))]))) ?_ (by kernel_rfl)
      subst hG
      simp only [PJ.Ok] at h1 h2 h3 h4
      have c1 : ∀ z : Int, cut [z] 0 1 = [z] := fun z => rfl
      simp only [h2, h3, c1, List.nil_append, Nat.zero_add]
      repeat' (first | apply And.intro | apply Vc.mk | apply fits.mk | intro h | apply Post.mk)
      all_goals (try simp only [decide_eq_true_eq, decide_eq_false_iff_not, Nat.zero_add, ge_iff_le, Int.not_le, Int.not_lt, Int.toNat_natCast, beq_iff_eq, beq_eq_false_iff_ne, bne_iff_ne, bne_eq_false_iff_eq, Bool.not_eq_true', Bool.not_eq_false'] at *)
      all_goals first | contradiction | omega | (apply congrArg Value.bool; assumption) | exact ⟨rfl, by omega⟩ | exact rfl | (simp [*, -List.getD_eq_getElem?_getD]; done) | skip
      all_goals (first | omega | skip)
      · have hp := fun tg => PJ.push_room ⟨lim, x, y, px, py, qx, qy, tg⟩ v u (by assumption)
        rw [(hp _).1, (hp _).2.1, (hp _).2.2.1, (hp _).2.2.2]
        refine ⟨[0, 6], ?_, rfl, ?_, rfl, rfl, rfl, (by kernel_rfl), rfl⟩
        · simp [unf, unfGo, unfB, off, width, L, lay, newHp, mvO, mvSB, Pulls, pullB, nth, at2, dnL, dnV, mvL, mvV, mvA, mvQ_lt, blt_true, blt_false, RowLe, colI, colB]
        · simp [layItems, PJ.rowX, PJ.rowY, unf, unfGo, unfB, off, width, L, lay, newHp, mvO, mvSB, Pulls, pullB, nth, at2, dnL, dnV, mvL, mvV, mvA, mvQ_lt, blt_true, blt_false, RowLe, colI, colB]
          all_goals first | rfl | exact ⟨rfl, by omega⟩ | omega | skip
      · obtain ⟨a, ks, e⟩ := snoc_cons x v
        obtain ⟨b, ls, e'⟩ := snoc_cons y u
        have hl : x.length + 1 = ks.length + 1 := by have := congrArg List.length e; simpa using this
        have hp := fun tg => PJ.push_over ⟨lim, x, y, px, py, qx, qy, tg⟩ v u a b ks ls (by assumption) e e'
        have e2 : ((((ks.length + 1 : Nat) : Int)) - 1).toNat = ks.length := by omega
        rw [(hp _).1, (hp _).2.1, (hp _).2.2.1, (hp _).2.2.2, e, e', hl, e2]
        refine ⟨[0, 6], ?_, rfl, ?_, rfl, rfl, rfl, (by kernel_rfl), rfl⟩
        · simp [unf, unfGo, unfB, off, width, L, lay, newHp, mvO, mvSB, Pulls, pullB, nth, at2, dnL, dnV, mvL, mvV, mvA, mvQ_lt, blt_true, blt_false, RowLe, colI, colB]
        · simp [layItems, PJ.rowX, PJ.rowY, unf, unfGo, unfB, off, width, L, lay, newHp, mvO, mvSB, Pulls, pullB, nth, at2, dnL, dnV, mvL, mvV, mvA, mvQ_lt, blt_true, blt_false, RowLe, colI, colB]
          all_goals first | rfl | exact ⟨rfl, by omega⟩ | omega | skip
    · generalize hG : EndsU (R := Rs) (R0 := Empty) _ _ _ = G
      refine rx_ok (T := []) trivial mixed 200 ?_
      refine as_text (q := Vc (0 < 1 ∧ List.length px + List.length x ≤ List.length px + List.length x + List.length qx ∧ 1 ≤ 1 ∧ (List.length x + 1) * 16 ≤ 140737488355328 ∧ List.length x + 1 ≤ 140737488355328) ∧ (decide ((↑(List.length x + 1) : Int) ≤ lim) = true → Post (G (Value.tuple (Array.mk [Value.agg (Array.mk [Value.int IntKind.i64 0, Value.int IntKind.i64 0]), Value.bool false])) [some (Sum.inl (54, [Value.slice (some (Addr.mk 6 0 (some 2000))) (List.length x + 1) 0, Value.int IntKind.i64 lim])), none, some (Sum.inl (43, [Value.int IntKind.i64 v, Value.int IntKind.i64 u])), some (Sum.inl (43, [Value.int IntKind.i64 0, Value.int IntKind.i64 0])), some (Sum.inl (43, [Value.int IntKind.i64 0, Value.int IntKind.i64 0])), some (Sum.inr (Sum.inl (43, Row.mk [Value.int IntKind.i64 0, Value.int IntKind.i64 0] 1 [Col.mk [v] [] [], Col.mk [u] [] []]))), some (Sum.inr (Sum.inl (43, Row.mk [Value.int IntKind.i64 0, Value.int IntKind.i64 0] (List.length x + 1) [Col.mk (cut (PJ.rowX (PJ.mk lim x y px py qx qy true)) (List.length px) (List.length x) ++ cut [v] 0 1) [] [], Col.mk (cut (PJ.rowY (PJ.mk lim x y px py qx qy true)) (List.length px) (List.length x) ++ cut [u] 0 1) [] []])))])) ∧ (decide ((↑(List.length x + 1) : Int) ≤ lim) = false → Vc ((0 : Int) ≤ (0 : Int) ∧ (0 : Int) < (↑(List.length x + 1) : Int) ∧ 0 + (List.length x + 1) ≤ List.length x + 1) ∧ Vc (0 < List.length x + 1) ∧ Vc ((0 : Int) ≤ (0 : Int) ∧ (0 : Int) < (↑(List.length x + 1) : Int) ∧ 0 + (List.length x + 1) ≤ List.length x + 1) ∧ Vc (0 < List.length x + 1) ∧ Vc (0 = 0 ∧ (0 : Int) ≤ (1 : Int) ∧ (1 : Int) ≤ (↑(List.length x + 1) : Int) ∧ (↑(List.length x + 1) : Int) ≤ (↑(List.length x + 1) : Int) ∧ 0 + (List.length x + 1) ≤ List.length x + 1) ∧ Post (G (Value.tuple (Array.mk [Value.agg (Array.mk [Value.int IntKind.i64 (List.getD (cut (PJ.rowX (PJ.mk lim x y px py qx qy true)) (List.length px) (List.length x) ++ cut [v] 0 1) 0 (0 : Int)), Value.int IntKind.i64 (List.getD (cut (PJ.rowY (PJ.mk lim x y px py qx qy true)) (List.length px) (List.length x) ++ cut [u] 0 1) 0 (0 : Int))]), Value.bool true])) [some (Sum.inl (54, [Value.slice (some (Addr.mk 6 1 (some 7002000))) (Int.toNat ((↑(List.length x + 1) : Int) - (1 : Int))) 0, Value.int IntKind.i64 lim])), none, some (Sum.inl (43, [Value.int IntKind.i64 v, Value.int IntKind.i64 u])), some (Sum.inl (43, [Value.int IntKind.i64 (List.getD (cut (PJ.rowX (PJ.mk lim x y px py qx qy true)) (List.length px) (List.length x) ++ cut [v] 0 1) 0 (0 : Int)), Value.int IntKind.i64 (List.getD (cut (PJ.rowY (PJ.mk lim x y px py qx qy true)) (List.length px) (List.length x) ++ cut [u] 0 1) 0 (0 : Int))])), some (Sum.inl (43, [Value.int IntKind.i64 0, Value.int IntKind.i64 0])), some (Sum.inr (Sum.inl (43, Row.mk [Value.int IntKind.i64 0, Value.int IntKind.i64 0] 1 [Col.mk [v] [] [], Col.mk [u] [] []]))), some (Sum.inr (Sum.inl (43, Row.mk [Value.int IntKind.i64 0, Value.int IntKind.i64 0] (List.length x + 1) [Col.mk (List.set (cut (PJ.rowX (PJ.mk lim x y px py qx qy true)) (List.length px) (List.length x) ++ cut [v] 0 1) 0 (0 : Int)) [] [], Col.mk (List.set (cut (PJ.rowY (PJ.mk lim x y px py qx qy true)) (List.length px) (List.length x) ++ cut [u] 0 1) 0 (0 : Int)) [] []]))), some (Sum.inl (43, [Value.int IntKind.i64 (List.getD (cut (PJ.rowX (PJ.mk lim x y px py qx qy true)) (List.length px) (List.length x) ++ cut [v] 0 1) 0 (0 : Int)), Value.int IntKind.i64 (List.getD (cut (PJ.rowY (PJ.mk lim x y px py qx qy true)) (List.length px) (List.length x) ++ cut [u] 0 1) 0 (0 : Int))]))]))) ?_ (by kernel_rfl)
      subst hG
      simp only [PJ.Ok] at h1 h2 h3 h4
      have c1 : ∀ z : Int, cut [z] 0 1 = [z] := fun z => rfl
      simp only [h2, h3, c1, List.nil_append, Nat.zero_add]
      repeat' (first | apply And.intro | apply Vc.mk | apply fits.mk | intro h | apply Post.mk)
      all_goals (try simp only [decide_eq_true_eq, decide_eq_false_iff_not, Nat.zero_add, ge_iff_le, Int.not_le, Int.not_lt, Int.toNat_natCast, beq_iff_eq, beq_eq_false_iff_ne, bne_iff_ne, bne_eq_false_iff_eq, Bool.not_eq_true', Bool.not_eq_false'] at *)
      all_goals first | contradiction | omega | (apply congrArg Value.bool; assumption) | exact ⟨rfl, by omega⟩ | exact rfl | (simp [*, -List.getD_eq_getElem?_getD]; done) | skip
      all_goals (first | omega | skip)
      · have hp := fun tg => PJ.push_room ⟨lim, x, y, px, py, qx, qy, tg⟩ v u (by assumption)
        rw [(hp _).1, (hp _).2.1, (hp _).2.2.1, (hp _).2.2.2]
        refine ⟨[0, 6], ?_, rfl, ?_, rfl, rfl, rfl, (by kernel_rfl), rfl⟩
        · simp [unf, unfGo, unfB, off, width, L, lay, newHp, mvO, mvSB, Pulls, pullB, nth, at2, dnL, dnV, mvL, mvV, mvA, mvQ_lt, blt_true, blt_false, RowLe, colI, colB]
        · simp [layItems, PJ.rowX, PJ.rowY, unf, unfGo, unfB, off, width, L, lay, newHp, mvO, mvSB, Pulls, pullB, nth, at2, dnL, dnV, mvL, mvV, mvA, mvQ_lt, blt_true, blt_false, RowLe, colI, colB]
          all_goals first | rfl | exact ⟨rfl, by omega⟩ | omega | skip
      · obtain ⟨a, ks, e⟩ := snoc_cons x v
        obtain ⟨b, ls, e'⟩ := snoc_cons y u
        have hl : x.length + 1 = ks.length + 1 := by have := congrArg List.length e; simpa using this
        have hp := fun tg => PJ.push_over ⟨lim, x, y, px, py, qx, qy, tg⟩ v u a b ks ls (by assumption) e e'
        have e2 : ((((ks.length + 1 : Nat) : Int)) - 1).toNat = ks.length := by omega
        rw [(hp _).1, (hp _).2.1, (hp _).2.2.1, (hp _).2.2.2, e, e', hl, e2]
        refine ⟨[0, 6], ?_, rfl, ?_, rfl, rfl, rfl, (by kernel_rfl), rfl⟩
        · simp [unf, unfGo, unfB, off, width, L, lay, newHp, mvO, mvSB, Pulls, pullB, nth, at2, dnL, dnV, mvL, mvV, mvA, mvQ_lt, blt_true, blt_false, RowLe, colI, colB]
        · simp [layItems, PJ.rowX, PJ.rowY, unf, unfGo, unfB, off, width, L, lay, newHp, mvO, mvSB, Pulls, pullB, nth, at2, dnL, dnV, mvL, mvV, mvA, mvQ_lt, blt_true, blt_false, RowLe, colI, colB]
          all_goals first | rfl | exact ⟨rfl, by omega⟩ | omega | skip
  · cases hx
def jtopP {R : Type} : Prim R := fun args hh => match args, hh with
  | [.pointer (some ⟨0, 0, none⟩)], [some (.inl (54, [.slice (some ⟨1, e0, some tag⟩) n cp, .int .i64 lim])), some (.inr (.inl (43, ⟨[.int .i64 0, .int .i64 0], N, [⟨c, [], []⟩, ⟨c', [], []⟩]⟩)))] => some ⟨(tag = 2000 ∨ tag = 2002000) ∧ e0 + n ≤ N ∧ N < 1000000 ∧ cp = 0, .tuple #[.agg #[.int .i64 (if n = 0 then 0 else c.getD (e0 + (n - 1)) 0), .int .i64 (if n = 0 then 0 else c'.getD (e0 + (n - 1)) 0)], .bool (decide (n ≠ 0))], none, hh, [], []⟩
  | _, _ => none
theorem jtop_ok {R : Type} {D : Res R} : ConOk D Try.prog 25 (con1 jtopP) := by
  refine con1_ok (prim_at (fn := Try.f25) (root := codeOf Try.f25) (by kernel_rfl) (by kernel_rfl) (by kernel_rfl) fun args hh x hx => ?_)
  unfold jtopP at hx
  split at hx
  · rename_i e0 tag n cp lim N c c'
    injection hx with hx
    subst hx
    refine ⟨by first | exact Nat.le_refl _ | exact Nat.zero_le _ | exact Nat.le_succ _, noLit rfl, (fun hw => by first | rfl | cases hw), fun _ hv => ?_⟩
    obtain ⟨h1, h2, h3, rfl⟩ := hv
    rcases h1 with rfl | rfl
    · generalize hG : Rx.Ends (R := R) _ _ = G
      refine rx_ok (T := []) trivial mixed 200 ?_
      refine as_text (q := Vc (fits ((↑n : Int) - (1 : Int))) ∧ (decide ((↑n : Int) - (1 : Int) < (0 : Int)) = true → Post (G (Value.tuple (Array.mk [Value.agg (Array.mk [Value.int IntKind.i64 0, Value.int IntKind.i64 0]), Value.bool false])) [some (Sum.inl (54, [Value.slice (some (Addr.mk 1 e0 (some 2000))) n 0, Value.int IntKind.i64 lim])), some (Sum.inr (Sum.inl (43, Row.mk [Value.int IntKind.i64 0, Value.int IntKind.i64 0] N [Col.mk c [] [], Col.mk c' [] []]))), some (Sum.inl (43, [Value.int IntKind.i64 0, Value.int IntKind.i64 0])), some (Sum.inl (43, [Value.int IntKind.i64 0, Value.int IntKind.i64 0]))])) ∧ (decide ((↑n : Int) - (1 : Int) < (0 : Int)) = false → Vc ((0 : Int) ≤ (↑n : Int) - (1 : Int) ∧ (↑n : Int) - (1 : Int) < (↑n : Int) ∧ e0 + n ≤ N) ∧ Vc (e0 + Int.toNat ((↑n : Int) - (1 : Int)) < N) ∧ Post (G (Value.tuple (Array.mk [Value.agg (Array.mk [Value.int IntKind.i64 (List.getD c (e0 + Int.toNat ((↑n : Int) - (1 : Int))) (0 : Int)), Value.int IntKind.i64 (List.getD c' (e0 + Int.toNat ((↑n : Int) - (1 : Int))) (0 : Int))]), Value.bool true])) [some (Sum.inl (54, [Value.slice (some (Addr.mk 1 e0 (some 2000))) n 0, Value.int IntKind.i64 lim])), some (Sum.inr (Sum.inl (43, Row.mk [Value.int IntKind.i64 0, Value.int IntKind.i64 0] N [Col.mk c [] [], Col.mk c' [] []]))), some (Sum.inl (43, [Value.int IntKind.i64 (List.getD c (e0 + Int.toNat ((↑n : Int) - (1 : Int))) (0 : Int)), Value.int IntKind.i64 (List.getD c' (e0 + Int.toNat ((↑n : Int) - (1 : Int))) (0 : Int))]))]))) ?_ (by kernel_rfl)
      subst hG
      repeat' (first | apply And.intro | apply Vc.mk | apply fits.mk | intro h | apply Post.mk)
      all_goals (try simp only [decide_eq_true_eq, decide_eq_false_iff_not, Nat.zero_add, ge_iff_le, Int.not_le, Int.not_lt, Int.toNat_natCast, beq_iff_eq, beq_eq_false_iff_ne, bne_iff_ne, bne_eq_false_iff_eq, Bool.not_eq_true', Bool.not_eq_false'] at *)
      all_goals first | contradiction | omega | (apply congrArg Value.bool; assumption) | exact ⟨rfl, by omega⟩ | exact rfl | (simp [*, -List.getD_eq_getElem?_getD]; done) | skip
      all_goals (first | omega | skip)
      · refine ⟨[0, 1], ?_, rfl, ?_, rfl, rfl, rfl, rfl⟩
        · have hx : n = 0 := by omega
          simp [mvV, mvL, dnV, dnL, hx]
        · simp [Pulls, pullB, nth, at2, dnL, dnV, mvL, mvV, mvA, mvQ_lt, blt_true, blt_false, RowLe, colI, colB]
          all_goals rfl
      · refine ⟨[0, 1], ?_, rfl, ?_, rfl, rfl, rfl, rfl⟩
        · have hx : ¬ n = 0 := by omega
          have e : ((n : Int) - 1).toNat = n - 1 := by omega
          rw [e]
          simp [mvV, mvL, dnV, dnL, hx]
        · simp [Pulls, pullB, nth, at2, dnL, dnV, mvL, mvV, mvA, mvQ_lt, blt_true, blt_false, RowLe, colI, colB]
          all_goals rfl
    · generalize hG : Rx.Ends (R := R) _ _ = G
      refine rx_ok (T := []) trivial mixed 200 ?_
      refine as_text (q := Vc (fits ((↑n : Int) - (1 : Int))) ∧ (decide ((↑n : Int) - (1 : Int) < (0 : Int)) = true → Post (G (Value.tuple (Array.mk [Value.agg (Array.mk [Value.int IntKind.i64 0, Value.int IntKind.i64 0]), Value.bool false])) [some (Sum.inl (54, [Value.slice (some (Addr.mk 1 e0 (some 2002000))) n 0, Value.int IntKind.i64 lim])), some (Sum.inr (Sum.inl (43, Row.mk [Value.int IntKind.i64 0, Value.int IntKind.i64 0] N [Col.mk c [] [], Col.mk c' [] []]))), some (Sum.inl (43, [Value.int IntKind.i64 0, Value.int IntKind.i64 0])), some (Sum.inl (43, [Value.int IntKind.i64 0, Value.int IntKind.i64 0]))])) ∧ (decide ((↑n : Int) - (1 : Int) < (0 : Int)) = false → Vc ((0 : Int) ≤ (↑n : Int) - (1 : Int) ∧ (↑n : Int) - (1 : Int) < (↑n : Int) ∧ e0 + n ≤ N) ∧ Vc (e0 + Int.toNat ((↑n : Int) - (1 : Int)) < N) ∧ Post (G (Value.tuple (Array.mk [Value.agg (Array.mk [Value.int IntKind.i64 (List.getD c (e0 + Int.toNat ((↑n : Int) - (1 : Int))) (0 : Int)), Value.int IntKind.i64 (List.getD c' (e0 + Int.toNat ((↑n : Int) - (1 : Int))) (0 : Int))]), Value.bool true])) [some (Sum.inl (54, [Value.slice (some (Addr.mk 1 e0 (some 2002000))) n 0, Value.int IntKind.i64 lim])), some (Sum.inr (Sum.inl (43, Row.mk [Value.int IntKind.i64 0, Value.int IntKind.i64 0] N [Col.mk c [] [], Col.mk c' [] []]))), some (Sum.inl (43, [Value.int IntKind.i64 (List.getD c (e0 + Int.toNat ((↑n : Int) - (1 : Int))) (0 : Int)), Value.int IntKind.i64 (List.getD c' (e0 + Int.toNat ((↑n : Int) - (1 : Int))) (0 : Int))]))]))) ?_ (by kernel_rfl)
      subst hG
      repeat' (first | apply And.intro | apply Vc.mk | apply fits.mk | intro h | apply Post.mk)
      all_goals (try simp only [decide_eq_true_eq, decide_eq_false_iff_not, Nat.zero_add, ge_iff_le, Int.not_le, Int.not_lt, Int.toNat_natCast, beq_iff_eq, beq_eq_false_iff_ne, bne_iff_ne, bne_eq_false_iff_eq, Bool.not_eq_true', Bool.not_eq_false'] at *)
      all_goals first | contradiction | omega | (apply congrArg Value.bool; assumption) | exact ⟨rfl, by omega⟩ | exact rfl | (simp [*, -List.getD_eq_getElem?_getD]; done) | skip
      all_goals (first | omega | skip)
      · refine ⟨[0, 1], ?_, rfl, ?_, rfl, rfl, rfl, rfl⟩
        · have hx : n = 0 := by omega
          simp [mvV, mvL, dnV, dnL, hx]
        · simp [Pulls, pullB, nth, at2, dnL, dnV, mvL, mvV, mvA, mvQ_lt, blt_true, blt_false, RowLe, colI, colB]
          all_goals rfl
      · refine ⟨[0, 1], ?_, rfl, ?_, rfl, rfl, rfl, rfl⟩
        · have hx : ¬ n = 0 := by omega
          have e : ((n : Int) - 1).toNat = n - 1 := by omega
          rw [e]
          simp [mvV, mvL, dnV, dnL, hx]
        · simp [Pulls, pullB, nth, at2, dnL, dnV, mvL, mvV, mvA, mvQ_lt, blt_true, blt_false, RowLe, colI, colB]
          all_goals rfl
  · cases hx
def TJ : Tab Empty := [(25, liftC zN 2 (con1 jtopP))]
theorem TJ_ok : TabOk NoR Try.prog TJ := ⟨liftC_ok _ _ jtop_ok, trivial⟩
def jpopP : Prim Rs := fun args hh => match args, hh with
  | [.pointer (some ⟨0, 0, none⟩)], [some (.inr (.inr (.inr (.items m))))] => some ⟨m.Ok 20000, .tuple #[.agg #[.int .i64 m.topX, .int .i64 m.topY], .bool (decide (m.x.length ≠ 0))], none, [some (.inr (.inr (.inr (.items m.pop))))], [], [(0, 0)]⟩
  | _, _ => none
theorem jpop_ok : ConOk D Try.prog 23 (con1 jpopP) := by
  refine con1_ok (res_prim (L := L) (D0 := NoR) (fn := Try.f23) (root := codeOf Try.f23) (by kernel_rfl) (by kernel_rfl) (by kernel_rfl) fun args hh x hx => ?_)
  unfold jpopP at hx
  split at hx
  · rename_i m
    injection hx with hx
    subst hx
    refine ⟨by first | exact Nat.le_refl _ | exact Nat.zero_le _ | exact Nat.le_succ _, noLit rfl, (fun hw => by first | rfl | cases hw), fun _ hv => ?_⟩
    have h1 := hv.len; have h4 := hv.y; have h5 := hv.py
    rcases m with ⟨lim, x, y, px, py, qx, qy, _ | _⟩
    · generalize hG : EndsU (R := Rs) (R0 := Empty) _ _ _ = G
      refine rx_ok (T := TJ) TJ_ok mixed 200 ?_
      refine as_text (q := Vc ((2000 = 2000 ∨ 2000 = 2002000) ∧ List.length px + List.length x ≤ List.length px + List.length x + List.length qx ∧ List.length px + List.length x + List.length qx < 1000000 ∧ 0 = 0) ∧ (decide (List.length x ≠ 0) = true → Vc (fits ((↑(List.length x) : Int) - (1 : Int))) ∧ Vc ((0 : Int) ≤ (↑(List.length x) : Int) - (1 : Int) ∧ (↑(List.length x) : Int) - (1 : Int) < (↑(List.length x) : Int) ∧ List.length px + List.length x ≤ List.length px + List.length x + List.length qx) ∧ Vc (List.length px + Int.toNat ((↑(List.length x) : Int) - (1 : Int)) < List.length px + List.length x + List.length qx) ∧ Vc ((0 : Int) ≤ (↑(List.length x) : Int) - (1 : Int) ∧ (↑(List.length x) : Int) - (1 : Int) ≤ (↑(List.length x) : Int) ∧ List.length px + List.length x ≤ List.length px + List.length x + List.length qx) ∧ Post (G (Value.tuple (Array.mk [Value.agg (Array.mk [Value.int IntKind.i64 (if List.length x = 0 then (0 : Int) else List.getD (PJ.rowX (PJ.mk lim x y px py qx qy false)) (List.length px + (List.length x - 1)) (0 : Int)), Value.int IntKind.i64 (if List.length x = 0 then (0 : Int) else List.getD (PJ.rowY (PJ.mk lim x y px py qx qy false)) (List.length px + (List.length x - 1)) (0 : Int))]), Value.bool (decide (List.length x ≠ 0))])) [some (Sum.inl (54, [Value.slice (some (Addr.mk 1 (List.length px) (some 2000))) (Int.toNat ((↑(List.length x) : Int) - (1 : Int))) 0, Value.int IntKind.i64 lim])), some (Sum.inr (Sum.inl (43, Row.mk [Value.int IntKind.i64 0, Value.int IntKind.i64 0] (List.length px + List.length x + List.length qx) [Col.mk (List.set (PJ.rowX (PJ.mk lim x y px py qx qy false)) (List.length px + Int.toNat ((↑(List.length x) : Int) - (1 : Int))) (0 : Int)) [] [], Col.mk (List.set (PJ.rowY (PJ.mk lim x y px py qx qy false)) (List.length px + Int.toNat ((↑(List.length x) : Int) - (1 : Int))) (0 : Int)) [] []]))), some (Sum.inl (43, [Value.int IntKind.i64 (if List.length x = 0 then (0 : Int) else List.getD (PJ.rowX (PJ.mk lim x y px py qx qy false)) (List.length px + (List.length x - 1)) (0 : Int)), Value.int IntKind.i64 (if List.length x = 0 then (0 : Int) else List.getD (PJ.rowY (PJ.mk lim x y px py qx qy false)) (List.length px + (List.length x - 1)) (0 : Int))])), some (Sum.inl (43, [Value.int IntKind.i64 (if List.length x = 0 then (0 : Int) else List.getD (PJ.rowX (PJ.mk lim x y px py qx qy false)) (List.length px + (List.length x - 1)) (0 : Int)), Value.int IntKind.i64 (if List.length x = 0 then (0 : Int) else List.getD (PJ.rowY (PJ.mk lim x y px py qx qy false)) (List.length px + (List.length x - 1)) (0 : Int))])), some (Sum.inl (43, [Value.int IntKind.i64 0, Value.int IntKind.i64 0]))])) ∧ (decide (List.length x ≠ 0) = false → Post (G (Value.tuple (Array.mk [Value.agg (Array.mk [Value.int IntKind.i64 (if List.length x = 0 then (0 : Int) else List.getD (PJ.rowX (PJ.mk lim x y px py qx qy false)) (List.length px + (List.length x - 1)) (0 : Int)), Value.int IntKind.i64 (if List.length x = 0 then (0 : Int) else List.getD (PJ.rowY (PJ.mk lim x y px py qx qy false)) (List.length px + (List.length x - 1)) (0 : Int))]), Value.bool (decide (List.length x ≠ 0))])) [some (Sum.inl (54, [Value.slice (some (Addr.mk 1 (List.length px) (some 2000))) (List.length x) 0, Value.int IntKind.i64 lim])), some (Sum.inr (Sum.inl (43, Row.mk [Value.int IntKind.i64 0, Value.int IntKind.i64 0] (List.length px + List.length x + List.length qx) [Col.mk (PJ.rowX (PJ.mk lim x y px py qx qy false)) [] [], Col.mk (PJ.rowY (PJ.mk lim x y px py qx qy false)) [] []]))), some (Sum.inl (43, [Value.int IntKind.i64 (if List.length x = 0 then (0 : Int) else List.getD (PJ.rowX (PJ.mk lim x y px py qx qy false)) (List.length px + (List.length x - 1)) (0 : Int)), Value.int IntKind.i64 (if List.length x = 0 then (0 : Int) else List.getD (PJ.rowY (PJ.mk lim x y px py qx qy false)) (List.length px + (List.length x - 1)) (0 : Int))])), some (Sum.inl (43, [Value.int IntKind.i64 (if List.length x = 0 then (0 : Int) else List.getD (PJ.rowX (PJ.mk lim x y px py qx qy false)) (List.length px + (List.length x - 1)) (0 : Int)), Value.int IntKind.i64 (if List.length x = 0 then (0 : Int) else List.getD (PJ.rowY (PJ.mk lim x y px py qx qy false)) (List.length px + (List.length x - 1)) (0 : Int))]))]))) ?_ (by kernel_rfl)
      subst hG
      simp only [PJ.Ok] at h1 h4 h5
      repeat' (first | apply And.intro | apply Vc.mk | apply fits.mk | intro h | apply Post.mk)
      all_goals (try simp only [decide_eq_true_eq, decide_eq_false_iff_not, Nat.zero_add, ge_iff_le, Int.not_le, Int.not_lt, Int.toNat_natCast, beq_iff_eq, beq_eq_false_iff_ne, bne_iff_ne, bne_eq_false_iff_eq, Bool.not_eq_true', Bool.not_eq_false'] at *)
      all_goals first | contradiction | omega | (apply congrArg Value.bool; assumption) | exact ⟨rfl, by omega⟩ | exact rfl | (simp [*, -List.getD_eq_getElem?_getD]; done) | skip
      all_goals (first | omega | skip)
      · obtain ⟨xs, a, rfl⟩ := exists_snoc (x := x) (by assumption)
        obtain ⟨ys, b, rfl⟩ := exists_snoc (x := y) (by rw [h4]; assumption)
        have hl : ys.length = xs.length := by simpa using h4
        have hp := fun tg => PJ.snoc ⟨lim, xs ++ [a], ys ++ [b], px, py, qx, qy, tg⟩ rfl rfl hl
        have e0 : (xs ++ [a]).length = xs.length + 1 := by simp
        have e : (((xs.length + 1 : Nat) : Int) - 1).toNat = xs.length := by omega
        have e1 : (px ++ (xs ++ [a]) ++ qx).getD (px.length + xs.length) 0 = a := by rw [mid_get rfl (by simp)]; simp
        have e2 : (py ++ (ys ++ [b]) ++ qy).getD (px.length + xs.length) 0 = b := by rw [mid_get h5 (by simp; omega), ← hl]; simp
        have e3 := mid_set (p := px) (ys := xs) (q := qx) (y := a) rfl rfl
        have e4 := mid_set (p := py) (ys := ys) (q := qy) (y := b) h5 hl
        rw [(hp _).1, (hp _).2.1, (hp _).2.2.1]
        simp only [PJ.rowX, PJ.rowY, e0, e, e3, e4, Nat.add_sub_cancel, Nat.succ_ne_zero, if_false, e1, e2, ne_eq, not_false_eq_true, decide_true]
        refine ⟨[0, 1], ?_, rfl, ?_, rfl, rfl, rfl, (by kernel_rfl), rfl⟩
        · simp [mvV, mvL, dnV, dnL]
        · simp [layItems, unf, unfGo, unfB, off, width, L, lay, newHp, mvO, mvSB, Pulls, pullB, nth, at2, dnL, dnV, mvL, mvV, mvA, mvQ_lt, blt_true, blt_false, RowLe, colI, colB, PJ.rowX, PJ.rowY]
          all_goals first | rfl | exact .inl (by omega) | exact ⟨rfl, .inl (by omega)⟩ | skip
      · have hz : ¬ x.length ≠ 0 := by assumption
        have hp := fun tg => PJ.pop_none ⟨lim, x, y, px, py, qx, qy, tg⟩ hz
        have hx : x.length = 0 := by omega
        rw [hp]
        refine ⟨[0, 1], ?_, rfl, ?_, rfl, rfl, rfl, (by kernel_rfl), rfl⟩
        · simp [mvV, mvL, dnV, dnL, PJ.topX, PJ.topY, hx, -List.length_eq_zero_iff]
        · simp [layItems, unf, unfGo, unfB, off, width, L, lay, newHp, mvO, mvSB, Pulls, pullB, nth, at2, dnL, dnV, mvL, mvV, mvA, mvQ_lt, blt_true, blt_false, RowLe, colI, colB, PJ.rowX, PJ.rowY]
          all_goals first | rfl | exact ⟨rfl, by omega⟩ | omega | skip
    · generalize hG : EndsU (R := Rs) (R0 := Empty) _ _ _ = G
      refine rx_ok (T := TJ) TJ_ok mixed 200 ?_
      refine as_text (q := Vc ((2002000 = 2000 ∨ 2002000 = 2002000) ∧ List.length px + List.length x ≤ List.length px + List.length x + List.length qx ∧ List.length px + List.length x + List.length qx < 1000000 ∧ 0 = 0) ∧ (decide (List.length x ≠ 0) = true → Vc (fits ((↑(List.length x) : Int) - (1 : Int))) ∧ Vc ((0 : Int) ≤ (↑(List.length x) : Int) - (1 : Int) ∧ (↑(List.length x) : Int) - (1 : Int) < (↑(List.length x) : Int) ∧ List.length px + List.length x ≤ List.length px + List.length x + List.length qx) ∧ Vc (List.length px + Int.toNat ((↑(List.length x) : Int) - (1 : Int)) < List.length px + List.length x + List.length qx) ∧ Vc ((0 : Int) ≤ (↑(List.length x) : Int) - (1 : Int) ∧ (↑(List.length x) : Int) - (1 : Int) ≤ (↑(List.length x) : Int) ∧ List.length px + List.length x ≤ List.length px + List.length x + List.length qx) ∧ Post (G (Value.tuple (Array.mk [Value.agg (Array.mk [Value.int IntKind.i64 (if List.length x = 0 then (0 : Int) else List.getD (PJ.rowX (PJ.mk lim x y px py qx qy true)) (List.length px + (List.length x - 1)) (0 : Int)), Value.int IntKind.i64 (if List.length x = 0 then (0 : Int) else List.getD (PJ.rowY (PJ.mk lim x y px py qx qy true)) (List.length px + (List.length x - 1)) (0 : Int))]), Value.bool (decide (List.length x ≠ 0))])) [some (Sum.inl (54, [Value.slice (some (Addr.mk 1 (List.length px) (some 2002000))) (Int.toNat ((↑(List.length x) : Int) - (1 : Int))) 0, Value.int IntKind.i64 lim])), some (Sum.inr (Sum.inl (43, Row.mk [Value.int IntKind.i64 0, Value.int IntKind.i64 0] (List.length px + List.length x + List.length qx) [Col.mk (List.set (PJ.rowX (PJ.mk lim x y px py qx qy true)) (List.length px + Int.toNat ((↑(List.length x) : Int) - (1 : Int))) (0 : Int)) [] [], Col.mk (List.set (PJ.rowY (PJ.mk lim x y px py qx qy true)) (List.length px + Int.toNat ((↑(List.length x) : Int) - (1 : Int))) (0 : Int)) [] []]))), some (Sum.inl (43, [Value.int IntKind.i64 (if List.length x = 0 then (0 : Int) else List.getD (PJ.rowX (PJ.mk lim x y px py qx qy true)) (List.length px + (List.length x - 1)) (0 : Int)), Value.int IntKind.i64 (if List.length x = 0 then (0 : Int) else List.getD (PJ.rowY (PJ.mk lim x y px py qx qy true)) (List.length px + (List.length x - 1)) (0 : Int))])), some (Sum.inl (43, [Value.int IntKind.i64 (if List.length x = 0 then (0 : Int) else List.getD (PJ.rowX (PJ.mk lim x y px py qx qy true)) (List.length px + (List.length x - 1)) (0 : Int)), Value.int IntKind.i64 (if List.length x = 0 then (0 : Int) else List.getD (PJ.rowY (PJ.mk lim x y px py qx qy true)) (List.length px + (List.length x - 1)) (0 : Int))])), some (Sum.inl (43, [Value.int IntKind.i64 0, Value.int IntKind.i64 0]))])) ∧ (decide (List.length x ≠ 0) = false → Post (G (Value.tuple (Array.mk [Value.agg (Array.mk [Value.int IntKind.i64 (if List.length x = 0 then (0 : Int) else List.getD (PJ.rowX (PJ.mk lim x y px py qx qy true)) (List.length px + (List.length x - 1)) (0 : Int)), Value.int IntKind.i64 (if List.length x = 0 then (0 : Int) else List.getD (PJ.rowY (PJ.mk lim x y px py qx qy true)) (List.length px + (List.length x - 1)) (0 : Int))]), Value.bool (decide (List.length x ≠ 0))])) [some (Sum.inl (54, [Value.slice (some (Addr.mk 1 (List.length px) (some 2002000))) (List.length x) 0, Value.int IntKind.i64 lim])), some (Sum.inr (Sum.inl (43, Row.mk [Value.int IntKind.i64 0, Value.int IntKind.i64 0] (List.length px + List.length x + List.length qx) [Col.mk (PJ.rowX (PJ.mk lim x y px py qx qy true)) [] [], Col.mk (PJ.rowY (PJ.mk lim x y px py qx qy true)) [] []]))), some (Sum.inl (43, [Value.int IntKind.i64 (if List.length x = 0 then (0 : Int) else List.getD (PJ.rowX (PJ.mk lim x y px py qx qy true)) (List.length px + (List.length x - 1)) (0 : Int)), Value.int IntKind.i64 (if List.length x = 0 then (0 : Int) else List.getD (PJ.rowY (PJ.mk lim x y px py qx qy true)) (List.length px + (List.length x - 1)) (0 : Int))])), some (Sum.inl (43, [Value.int IntKind.i64 (if List.length x = 0 then (0 : Int) else List.getD (PJ.rowX (PJ.mk lim x y px py qx qy true)) (List.length px + (List.length x - 1)) (0 : Int)), Value.int IntKind.i64 (if List.length x = 0 then (0 : Int) else List.getD (PJ.rowY (PJ.mk lim x y px py qx qy true)) (List.length px + (List.length x - 1)) (0 : Int))]))]))) ?_ (by kernel_rfl)
      subst hG
      simp only [PJ.Ok] at h1 h4 h5
      repeat' (first | apply And.intro | apply Vc.mk | apply fits.mk | intro h | apply Post.mk)
      all_goals (try simp only [decide_eq_true_eq, decide_eq_false_iff_not, Nat.zero_add, ge_iff_le, Int.not_le, Int.not_lt, Int.toNat_natCast, beq_iff_eq, beq_eq_false_iff_ne, bne_iff_ne, bne_eq_false_iff_eq, Bool.not_eq_true', Bool.not_eq_false'] at *)
      all_goals first | contradiction | omega | (apply congrArg Value.bool; assumption) | exact ⟨rfl, by omega⟩ | exact rfl | (simp [*, -List.getD_eq_getElem?_getD]; done) | skip
      all_goals (first | omega | skip)
      · obtain ⟨xs, a, rfl⟩ := exists_snoc (x := x) (by assumption)
        obtain ⟨ys, b, rfl⟩ := exists_snoc (x := y) (by rw [h4]; assumption)
        have hl : ys.length = xs.length := by simpa using h4
        have hp := fun tg => PJ.snoc ⟨lim, xs ++ [a], ys ++ [b], px, py, qx, qy, tg⟩ rfl rfl hl
        have e0 : (xs ++ [a]).length = xs.length + 1 := by simp
        have e : (((xs.length + 1 : Nat) : Int) - 1).toNat = xs.length := by omega
        have e1 : (px ++ (xs ++ [a]) ++ qx).getD (px.length + xs.length) 0 = a := by rw [mid_get rfl (by simp)]; simp
        have e2 : (py ++ (ys ++ [b]) ++ qy).getD (px.length + xs.length) 0 = b := by rw [mid_get h5 (by simp; omega), ← hl]; simp
        have e3 := mid_set (p := px) (ys := xs) (q := qx) (y := a) rfl rfl
        have e4 := mid_set (p := py) (ys := ys) (q := qy) (y := b) h5 hl
        rw [(hp _).1, (hp _).2.1, (hp _).2.2.1]
        simp only [PJ.rowX, PJ.rowY, e0, e, e3, e4, Nat.add_sub_cancel, Nat.succ_ne_zero, if_false, e1, e2, ne_eq, not_false_eq_true, decide_true]
        refine ⟨[0, 1], ?_, rfl, ?_, rfl, rfl, rfl, (by kernel_rfl), rfl⟩
        · simp [mvV, mvL, dnV, dnL]
        · simp [layItems, unf, unfGo, unfB, off, width, L, lay, newHp, mvO, mvSB, Pulls, pullB, nth, at2, dnL, dnV, mvL, mvV, mvA, mvQ_lt, blt_true, blt_false, RowLe, colI, colB, PJ.rowX, PJ.rowY]
          all_goals first | rfl | exact .inl (by omega) | exact ⟨rfl, .inl (by omega)⟩ | skip
      · have hz : ¬ x.length ≠ 0 := by assumption
        have hp := fun tg => PJ.pop_none ⟨lim, x, y, px, py, qx, qy, tg⟩ hz
        have hx : x.length = 0 := by omega
        rw [hp]
        refine ⟨[0, 1], ?_, rfl, ?_, rfl, rfl, rfl, (by kernel_rfl), rfl⟩
        · simp [mvV, mvL, dnV, dnL, PJ.topX, PJ.topY, hx, -List.length_eq_zero_iff]
        · simp [layItems, unf, unfGo, unfB, off, width, L, lay, newHp, mvO, mvSB, Pulls, pullB, nth, at2, dnL, dnV, mvL, mvV, mvA, mvQ_lt, blt_true, blt_false, RowLe, colI, colB, PJ.rowX, PJ.rowY]
          all_goals first | rfl | exact ⟨rfl, by omega⟩ | omega | skip
  · cases hx
end Go.Proofs.Ytfofaiidakkgbaa.Pi
