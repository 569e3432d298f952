/- arena: the functions of a pool of items, by what they do to its lists. -/
import Derived.Test.YtloibbakklenbaaArIPlain
namespace Go.Proofs.Ytloibbakklenbaa.Ar
open Go.Proofs.Ytloibbakklenbaa.Rx
set_option linter.unusedVariables false
set_option linter.unusedSimpArgs false
set_option maxRecDepth 100000
def TI0 : Tab Empty := [(36, liftC zN 2 (con1 inextP)), (37, liftC zN 2 ivisitC)]
theorem TI0_ok : TabOk NoR Try.prog TI0 := ⟨liftC_ok _ _ inext_ok, liftC_ok _ _ ivisit_ok, trivial⟩
def inewP : Prim Rs := fun args hh => match args, hh with
  | [.int .i64 c], [] => some ⟨True, .pointer (some ⟨0, 0, none⟩), none, [some (.inr (.inr (.inr (.items ⟨[], [], [], [], [], 0, min (max c 0) 16777216, 0⟩))))], [], [(0, 0)]⟩
  | _, _ => none
theorem inew_ok : ConOk D Try.prog 24 (con1 inewP) := by
  refine con1_ok (res_prim (L := L) (D0 := NoR) (fn := Try.f24) (root := codeOf Try.f24) (by kernel_rfl) (by kernel_rfl) (by kernel_rfl) fun args hh x hx => ?_)
  unfold inewP at hx
  split at hx
  · rename_i c
    injection hx with hx
    subst hx
    refine ⟨by first | exact Nat.le_refl _ | exact Nat.zero_le _, noLit rfl, (fun hw => by first | rfl | cases hw), fun _ hv => ?_⟩
    generalize hG : EndsU (R := Rs) (R0 := Empty) _ _ _ = G
    refine rx_ok (T := TI0) TI0_ok mixed 200 ?_
    refine as_text (q := Post (G (Value.pointer (some (Addr.mk 0 0 none))) [some (Sum.inl (70, [Value.slice none 0 0, Value.slice none 0 0, Value.int IntKind.i64 0, Value.int IntKind.i64 (if (16777216 : Int) < if (0 : Int) > c then (0 : Int) else c then (16777216 : Int) else if (0 : Int) > c then (0 : Int) else c), Value.int IntKind.i64 0]))])) ?_ (by kernel_rfl)
    subst hG
    refine ⟨⟨[0, 1, 1], rfl, rfl, ?_, rfl, rfl, rfl, rfl, rfl⟩⟩
    have e : (if 16777216 < if 0 > c then 0 else c then 16777216 else if 0 > c then 0 else c) = min (max c 0) 16777216 := by
      by_cases h1 : 0 > c
      · rw [if_pos h1]; simp; omega
      · rw [if_neg h1]; split <;> omega
    simp [layItems, unf, unfGo, unfB, off, width, L, lay, newHp, mvO, mvSB, Pulls, pullB, nth, at2, dnL, dnV, mvL, mvV, mvA, mvQ_lt, blt_true, blt_false, RowLe, colI, colB, e]
    exact ⟨⟨rfl, Nat.succ_pos _, rfl⟩, ⟨rfl, Nat.succ_pos _, rfl⟩⟩
  · cases hx
def iputP : Prim Rs := fun args hh => match args, hh with
  | [.pointer (some ⟨0, 0, none⟩), .agg ⟨[.int .i64 v, .int .i64 u]⟩], [some (.inr (.inr (.inr (.items m))))] => some ⟨m.Ok 10000, .tuple #[.agg #[.int .i64 m.putI, .int .i64 m.putG], .bool (!decide (m.held = m.cap))], none, [some (.inr (.inr (.inr (.items (m.put v u)))))], [], [(0, 0)]⟩
  | _, _ => none
theorem iput_ok : ConOk D Try.prog 25 (con1 iputP) := by
  refine con1_ok (res_prim (L := L) (D0 := NoR) (fn := Try.f25) (root := codeOf Try.f25) (by kernel_rfl) (by kernel_rfl) (by kernel_rfl) fun args hh x hx => ?_)
  unfold iputP at hx
  split at hx
  · rename_i v u m
    injection hx with hx
    subst hx
    refine ⟨by first | exact Nat.le_refl _ | exact Nat.zero_le _, noLit rfl, (fun hw => by first | rfl | cases hw), fun _ hv => ?_⟩
    generalize hG : EndsU (R := Rs) (R0 := Empty) _ _ _ = G
    refine rx_ok (T := TI0) TI0_ok mixed 200 ?_
    refine as_text (q := ((IM.held m == IM.cap m) = true → Post (G (Value.tuple (Array.mk [Value.agg (Array.mk [Value.int IntKind.i64 0, Value.int IntKind.i64 0]), Value.bool false])) [some (Sum.inl (70, [Value.slice (some (Addr.mk 1 0 (some 4000))) (List.length (IM.ks m)) 0, Value.slice (some (Addr.mk 2 0 (some 1000))) (List.length (IM.free m)) 0, Value.int IntKind.i64 (IM.held m), Value.int IntKind.i64 (IM.cap m), Value.int IntKind.i64 (IM.visits m)])), some (Sum.inr (Sum.inl (73, Row.mk [Value.int IntKind.i64 0, Value.int IntKind.i64 0, Value.int IntKind.i64 0, Value.bool false] (List.length (IM.ks m)) [Col.mk (IM.ks m) [] [], Col.mk (IM.ids m) [] [], Col.mk (IM.gens m) [] [], Col.mk [] (IM.live m) []]))), some (Sum.inr (Sum.inl (3, Row.mk [Value.int IntKind.i64 0] (List.length (IM.free m)) [Col.mk (IM.free m) [] []]))), some (Sum.inl (52, [Value.int IntKind.i64 v, Value.int IntKind.i64 u])), some (Sum.inl (30, [Value.int IntKind.i64 0, Value.int IntKind.i64 0]))])) ∧ ((IM.held m == IM.cap m) = false → Vc ([some (Sum.inl (70, [Value.slice (some (Addr.mk 1 0 (some 4000))) (List.length (IM.ks m)) 0, Value.slice (some (Addr.mk 2 0 (some 1000))) (List.length (IM.free m)) 0, Value.int IntKind.i64 (IM.held m), Value.int IntKind.i64 (IM.cap m), Value.int IntKind.i64 (IM.visits m)])), some (Sum.inr (Sum.inl (73, Row.mk [Value.int IntKind.i64 0, Value.int IntKind.i64 0, Value.int IntKind.i64 0, Value.bool false] (List.length (IM.ks m)) [Col.mk (IM.ks m) [] [], Col.mk (IM.ids m) [] [], Col.mk (IM.gens m) [] [], Col.mk [] (IM.live m) []]))), some (Sum.inr (Sum.inl (3, Row.mk [Value.int IntKind.i64 0] (List.length (IM.free m)) [Col.mk (IM.free m) [] []])))] = layItems m ∧ List.length (IM.ks m) < 1000000 ∧ List.length (IM.free m) < 1000000 ∧ List.length (IM.ids m) = List.length (IM.ks m) ∧ List.length (IM.gens m) = List.length (IM.ks m) ∧ List.length (IM.live m) = List.length (IM.ks m)) ∧ Vc ((0 : Int) ≤ nextIdxI m ∧ nextIdxI m < (↑(List.length (IM.ks (nextIM m))) : Int) ∧ 0 + List.length (IM.ks (nextIM m)) ≤ List.length (IM.ks (nextIM m))) ∧ Vc (0 + Int.toNat (nextIdxI m) < List.length (IM.ks (nextIM m))) ∧ Vc (0 + Int.toNat (nextIdxI m) < List.length (IM.ks (nextIM m))) ∧ Vc (0 + Int.toNat (nextIdxI m) < List.length (IM.ks (nextIM m))) ∧ Vc (fits (List.getD (IM.gens (nextIM m)) (0 + Int.toNat (nextIdxI m)) (0 : Int) + (1 : Int))) ∧ Vc (0 + Int.toNat (nextIdxI m) < List.length (IM.ks (nextIM m))) ∧ Vc (fits (IM.held (nextIM m) + (1 : Int))) ∧ Vc (0 + Int.toNat (nextIdxI m) < List.length (IM.ks (nextIM m))) ∧ Post (G (Value.tuple (Array.mk [Value.agg (Array.mk [Value.int IntKind.i64 (nextIdxI m), Value.int IntKind.i64 (List.getD (List.set (IM.gens (nextIM m)) (0 + Int.toNat (nextIdxI m)) (List.getD (IM.gens (nextIM m)) (0 + Int.toNat (nextIdxI m)) (0 : Int) + (1 : Int))) (0 + Int.toNat (nextIdxI m)) (0 : Int))]), Value.bool true])) [some (Sum.inl (70, [Value.slice (some (Addr.mk 5 0 (some 4000))) (List.length (IM.ks (nextIM m))) 0, Value.slice (some (Addr.mk 2 0 (some 1000))) (List.length (IM.free (nextIM m))) 0, Value.int IntKind.i64 (IM.held (nextIM m) + (1 : Int)), Value.int IntKind.i64 (IM.cap (nextIM m)), Value.int IntKind.i64 (IM.visits (nextIM m))])), none, some (Sum.inr (Sum.inl (3, Row.mk [Value.int IntKind.i64 0] (List.length (IM.free (nextIM m))) [Col.mk (IM.free (nextIM m)) [] []]))), some (Sum.inl (52, [Value.int IntKind.i64 v, Value.int IntKind.i64 u])), some (Sum.inl (30, [Value.int IntKind.i64 (nextIdxI m), Value.int IntKind.i64 (List.getD (List.set (IM.gens (nextIM m)) (0 + Int.toNat (nextIdxI m)) (List.getD (IM.gens (nextIM m)) (0 + Int.toNat (nextIdxI m)) (0 : Int) + (1 : Int))) (0 + Int.toNat (nextIdxI m)) (0 : Int))])), some (Sum.inr (Sum.inl (73, Row.mk [Value.int IntKind.i64 0, Value.int IntKind.i64 0, Value.int IntKind.i64 0, Value.bool false] (List.length (IM.ks (nextIM m))) [Col.mk (List.set (IM.ks (nextIM m)) (0 + Int.toNat (nextIdxI m)) v) [] [], Col.mk (List.set (IM.ids (nextIM m)) (0 + Int.toNat (nextIdxI m)) u) [] [], Col.mk (List.set (IM.gens (nextIM m)) (0 + Int.toNat (nextIdxI m)) (List.getD (IM.gens (nextIM m)) (0 + Int.toNat (nextIdxI m)) (0 : Int) + (1 : Int))) [] [], Col.mk [] (List.set (IM.live (nextIM m)) (0 + Int.toNat (nextIdxI m)) true) []])))]))) ?_ (by kernel_rfl)
    subst hG
    have h1 := hv.idx
    obtain ⟨h2, h3, h4, h5⟩ := hv.next
    have h6 := getD_bound (i := (nextIdxI m).toNat) h2.gen
    have h7 := hv.cells
    have h8 := hv.frees
    have h9 := hv.hld
    have hi : (nextIdxI m).toNat < (nextIM m).gens.length := by rw [h2.gens]; omega
    have v0 := hv.ids
    have v1 := hv.gens
    have v2 := hv.live
    simp only [Nat.zero_add]
    repeat' (first | apply And.intro | apply Vc.mk | apply fits.mk | intro h | apply Post.mk)
    all_goals (try simp only [decide_eq_true_eq, decide_eq_false_iff_not, Nat.zero_add, ge_iff_le, Int.not_le, Int.not_lt, Int.toNat_natCast, beq_iff_eq, beq_eq_false_iff_ne, Bool.not_eq_true', Bool.not_eq_false'] at *)
    all_goals first | contradiction | omega | (apply congrArg Value.bool; assumption) | exact ⟨rfl, by omega⟩ | exact rfl | (simp [*, -List.getD_eq_getElem?_getD]; done) | skip
    all_goals first | exact h6.1 | skip
    · have h0 : m.held = m.cap := by assumption
      refine ⟨⟨[0, 1, 2], ?_, rfl, ?_, rfl, rfl, rfl, rfl, rfl⟩⟩
      · simp [mvV, mvL, dnV, dnL, IM.putI, IM.putG, h0]
      · simp [layItems, unf, unfGo, unfB, off, width, L, lay, newHp, mvO, mvSB, Pulls, pullB, nth, at2, dnL, dnV, mvL, mvV, mvA, mvQ_lt, blt_true, blt_false, RowLe, colI, colB, IM.put, h0]
    · have h0 : ¬ m.held = m.cap := by assumption
      refine ⟨⟨[0, 5, 2], ?_, rfl, ?_, rfl, rfl, rfl, rfl, rfl⟩⟩
      · simp [mvV, mvL, dnV, dnL, IM.putI, IM.putG, h0, hi]
      · simp [layItems, unf, unfGo, unfB, off, width, L, lay, newHp, mvO, mvSB, Pulls, pullB, nth, at2, dnL, dnV, mvL, mvV, mvA, mvQ_lt, blt_true, blt_false, RowLe, colI, colB, IM.put, h0, h3, h4, h5]
  · cases hx
def igetP : Prim Rs := fun args hh => match args, hh with
  | [.pointer (some ⟨0, 0, none⟩), .agg ⟨[.int .i64 i, .int .i64 g]⟩], [some (.inr (.inr (.inr (.items m))))] => some ⟨m.Ok 10000, .tuple #[.agg #[.int .i64 (m.getK i g), .int .i64 (m.getI i g)], .bool (hasIM m i g)], none, [some (.inr (.inr (.inr (.items (m.get i g)))))], [], [(0, 0)]⟩
  | _, _ => none
theorem iget_ok : ConOk D Try.prog 27 (con1 igetP) := by
  refine con1_ok (res_prim (L := L) (D0 := NoR) (fn := Try.f27) (root := codeOf Try.f27) (by kernel_rfl) (by kernel_rfl) (by kernel_rfl) fun args hh x hx => ?_)
  unfold igetP at hx
  split at hx
  · rename_i i g m
    injection hx with hx
    subst hx
    refine ⟨by first | exact Nat.le_refl _ | exact Nat.zero_le _, noLit rfl, (fun hw => by first | rfl | cases hw), fun _ hv => ?_⟩
    generalize hG : EndsU (R := Rs) (R0 := Empty) _ _ _ = G
    refine rx_ok (T := TI0) TI0_ok mixed 200 ?_
    refine as_text (q := (hasIM m i g = true → Vc ([some (Sum.inl (70, [Value.slice (some (Addr.mk 1 0 (some 4000))) (List.length (IM.ks m)) 0, Value.slice (some (Addr.mk 2 0 (some 1000))) (List.length (IM.free m)) 0, Value.int IntKind.i64 (IM.held m), Value.int IntKind.i64 (IM.cap m), Value.int IntKind.i64 (IM.visits m)])), some (Sum.inr (Sum.inl (73, Row.mk [Value.int IntKind.i64 0, Value.int IntKind.i64 0, Value.int IntKind.i64 0, Value.bool false] (List.length (IM.ks m)) [Col.mk (IM.ks m) [] [], Col.mk (IM.ids m) [] [], Col.mk (IM.gens m) [] [], Col.mk [] (IM.live m) []]))), some (Sum.inr (Sum.inl (3, Row.mk [Value.int IntKind.i64 0] (List.length (IM.free m)) [Col.mk (IM.free m) [] []])))] = layItems m ∧ List.length (IM.ks m) < 1000000 ∧ List.length (IM.ids m) = List.length (IM.ks m) ∧ List.length (IM.gens m) = List.length (IM.ks m) ∧ List.length (IM.live m) = List.length (IM.ks m) ∧ fits (IM.visits m + (1 : Int))) ∧ Vc (Int.toNat i < List.length (IM.ks m)) ∧ Post (G (Value.tuple (Array.mk [Value.agg (Array.mk [Value.int IntKind.i64 (List.getD (IM.ks m) (Int.toNat i) (0 : Int)), Value.int IntKind.i64 (List.getD (IM.ids m) (Int.toNat i) (0 : Int))]), Value.bool true])) [some (Sum.inl (70, [Value.slice (some (Addr.mk 1 0 (some 4000))) (List.length (IM.ks m)) 0, Value.slice (some (Addr.mk 2 0 (some 1000))) (List.length (IM.free m)) 0, Value.int IntKind.i64 (IM.held m), Value.int IntKind.i64 (IM.cap m), Value.int IntKind.i64 (IM.visits m + (1 : Int))])), some (Sum.inr (Sum.inl (73, Row.mk [Value.int IntKind.i64 0, Value.int IntKind.i64 0, Value.int IntKind.i64 0, Value.bool false] (List.length (IM.ks m)) [Col.mk (IM.ks m) [] [], Col.mk (IM.ids m) [] [], Col.mk (IM.gens m) [] [], Col.mk [] (IM.live m) []]))), some (Sum.inr (Sum.inl (3, Row.mk [Value.int IntKind.i64 0] (List.length (IM.free m)) [Col.mk (IM.free m) [] []]))), some (Sum.inl (30, [Value.int IntKind.i64 i, Value.int IntKind.i64 g])), some (Sum.inl (52, [Value.int IntKind.i64 (List.getD (IM.ks m) (Int.toNat i) (0 : Int)), Value.int IntKind.i64 (List.getD (IM.ids m) (Int.toNat i) (0 : Int))]))])) ∧ (hasIM m i g = false → Vc ([some (Sum.inl (70, [Value.slice (some (Addr.mk 1 0 (some 4000))) (List.length (IM.ks m)) 0, Value.slice (some (Addr.mk 2 0 (some 1000))) (List.length (IM.free m)) 0, Value.int IntKind.i64 (IM.held m), Value.int IntKind.i64 (IM.cap m), Value.int IntKind.i64 (IM.visits m)])), some (Sum.inr (Sum.inl (73, Row.mk [Value.int IntKind.i64 0, Value.int IntKind.i64 0, Value.int IntKind.i64 0, Value.bool false] (List.length (IM.ks m)) [Col.mk (IM.ks m) [] [], Col.mk (IM.ids m) [] [], Col.mk (IM.gens m) [] [], Col.mk [] (IM.live m) []]))), some (Sum.inr (Sum.inl (3, Row.mk [Value.int IntKind.i64 0] (List.length (IM.free m)) [Col.mk (IM.free m) [] []])))] = layItems m ∧ List.length (IM.ks m) < 1000000 ∧ List.length (IM.ids m) = List.length (IM.ks m) ∧ List.length (IM.gens m) = List.length (IM.ks m) ∧ List.length (IM.live m) = List.length (IM.ks m)) ∧ Post (G (Value.tuple (Array.mk [Value.agg (Array.mk [Value.int IntKind.i64 0, Value.int IntKind.i64 0]), Value.bool false])) [some (Sum.inl (70, [Value.slice (some (Addr.mk 1 0 (some 4000))) (List.length (IM.ks m)) 0, Value.slice (some (Addr.mk 2 0 (some 1000))) (List.length (IM.free m)) 0, Value.int IntKind.i64 (IM.held m), Value.int IntKind.i64 (IM.cap m), Value.int IntKind.i64 (IM.visits m)])), some (Sum.inr (Sum.inl (73, Row.mk [Value.int IntKind.i64 0, Value.int IntKind.i64 0, Value.int IntKind.i64 0, Value.bool false] (List.length (IM.ks m)) [Col.mk (IM.ks m) [] [], Col.mk (IM.ids m) [] [], Col.mk (IM.gens m) [] [], Col.mk [] (IM.live m) []]))), some (Sum.inr (Sum.inl (3, Row.mk [Value.int IntKind.i64 0] (List.length (IM.free m)) [Col.mk (IM.free m) [] []]))), some (Sum.inl (30, [Value.int IntKind.i64 i, Value.int IntKind.i64 g])), some (Sum.inl (52, [Value.int IntKind.i64 0, Value.int IntKind.i64 0])), some (Sum.inl (52, [Value.int IntKind.i64 0, Value.int IntKind.i64 0]))]))) ?_ (by kernel_rfl)
    subst hG
    have h7 := hv.cells
    have h8 := hv.frees
    have h9 := hv.hld
    have h10 := hv.vis
    have v0 := hv.ids
    have v1 := hv.gens
    have v2 := hv.live
    have w := ihas_spec (m := m) (i := i) (g := g)
    repeat' (first | apply And.intro | apply Vc.mk | apply fits.mk | intro h | apply Post.mk)
    all_goals (try simp only [decide_eq_true_eq, decide_eq_false_iff_not, Nat.zero_add, ge_iff_le, Int.not_le, Int.not_lt, Int.toNat_natCast, beq_iff_eq, beq_eq_false_iff_ne, Bool.not_eq_true', Bool.not_eq_false'] at *)
    all_goals first | contradiction | omega | (apply congrArg Value.bool; assumption) | exact ⟨rfl, by omega⟩ | exact rfl | (simp [*, -List.getD_eq_getElem?_getD]; done) | skip
    all_goals first | (have := w (by assumption); omega) | skip
    · have h : hasIM m i g = true := by assumption
      refine ⟨⟨[0, 1, 2], ?_, rfl, ?_, rfl, rfl, rfl, rfl, rfl⟩⟩
      · simp [mvV, mvL, dnV, dnL, IM.getK, IM.getI, h]
      · simp [layItems, unf, unfGo, unfB, off, width, L, lay, newHp, mvO, mvSB, Pulls, pullB, nth, at2, dnL, dnV, mvL, mvV, mvA, mvQ_lt, blt_true, blt_false, RowLe, colI, colB, IM.get, IM.visit, h]
    · have h : hasIM m i g = false := by assumption
      refine ⟨⟨[0, 1, 2], ?_, rfl, ?_, rfl, rfl, rfl, rfl, rfl⟩⟩
      · simp [mvV, mvL, dnV, dnL, IM.getK, IM.getI, h]
      · simp [layItems, unf, unfGo, unfB, off, width, L, lay, newHp, mvO, mvSB, Pulls, pullB, nth, at2, dnL, dnV, mvL, mvV, mvA, mvQ_lt, blt_true, blt_false, RowLe, colI, colB, IM.get, h]
  · cases hx
def idropP : Prim Rs := fun args hh => match args, hh with
  | [.pointer (some ⟨0, 0, none⟩), .agg ⟨[.int .i64 i, .int .i64 g]⟩], [some (.inr (.inr (.inr (.items m))))] => some ⟨m.Ok 10000, .tuple #[.agg #[.int .i64 (m.getK i g), .int .i64 (m.getI i g)], .bool (hasIM m i g)], none, [some (.inr (.inr (.inr (.items (m.drop i g)))))], [], [(0, 0)]⟩
  | _, _ => none
theorem idrop_ok : ConOk D Try.prog 26 (con1 idropP) := by
  refine con1_ok (res_prim (L := L) (D0 := NoR) (fn := Try.f26) (root := codeOf Try.f26) (by kernel_rfl) (by kernel_rfl) (by kernel_rfl) fun args hh x hx => ?_)
  unfold idropP at hx
  split at hx
  · rename_i i g m
    injection hx with hx
    subst hx
    refine ⟨by first | exact Nat.le_refl _ | exact Nat.zero_le _, noLit rfl, (fun hw => by first | rfl | cases hw), fun _ hv => ?_⟩
    generalize hG : EndsU (R := Rs) (R0 := Empty) _ _ _ = G
    refine rx_ok (T := TI0) TI0_ok mixed 200 ?_
    refine as_text (q := (hasIM m i g = true → Vc ([some (Sum.inl (70, [Value.slice (some (Addr.mk 1 0 (some 4000))) (List.length (IM.ks m)) 0, Value.slice (some (Addr.mk 2 0 (some 1000))) (List.length (IM.free m)) 0, Value.int IntKind.i64 (IM.held m), Value.int IntKind.i64 (IM.cap m), Value.int IntKind.i64 (IM.visits m)])), some (Sum.inr (Sum.inl (73, Row.mk [Value.int IntKind.i64 0, Value.int IntKind.i64 0, Value.int IntKind.i64 0, Value.bool false] (List.length (IM.ks m)) [Col.mk (IM.ks m) [] [], Col.mk (IM.ids m) [] [], Col.mk (IM.gens m) [] [], Col.mk [] (IM.live m) []]))), some (Sum.inr (Sum.inl (3, Row.mk [Value.int IntKind.i64 0] (List.length (IM.free m)) [Col.mk (IM.free m) [] []])))] = layItems m ∧ List.length (IM.ks m) < 1000000 ∧ List.length (IM.ids m) = List.length (IM.ks m) ∧ List.length (IM.gens m) = List.length (IM.ks m) ∧ List.length (IM.live m) = List.length (IM.ks m) ∧ fits (IM.visits m + (1 : Int))) ∧ Vc (Int.toNat i < List.length (IM.ks m)) ∧ Vc (Int.toNat i < List.length (IM.ks m)) ∧ Vc (Int.toNat i < List.length (IM.ks m)) ∧ Vc (fits (IM.held m - (1 : Int))) ∧ Vc (Int.toNat i < List.length (IM.ks m)) ∧ (decide (List.getD (IM.gens m) (Int.toNat i) (0 : Int) < (4294967295 : Int)) = true → Vc (0 + List.length (IM.free m) ≤ List.length (IM.free m) ∧ 1 ≤ 1 ∧ (List.length (IM.free m) + 1) * 8 ≤ 140737488355328 ∧ List.length (IM.free m) + 1 ≤ 140737488355328) ∧ Post (G (Value.tuple (Array.mk [Value.agg (Array.mk [Value.int IntKind.i64 (List.getD (IM.ks m) (Int.toNat i) (0 : Int)), Value.int IntKind.i64 (List.getD (IM.ids m) (Int.toNat i) (0 : Int))]), Value.bool true])) [some (Sum.inl (70, [Value.slice (some (Addr.mk 1 0 (some 4000))) (List.length (IM.ks m)) 0, Value.slice (some (Addr.mk 8 0 (some 1000))) (List.length (IM.free m) + 1) 0, Value.int IntKind.i64 (IM.held m - (1 : Int)), Value.int IntKind.i64 (IM.cap m), Value.int IntKind.i64 (IM.visits m + (1 : Int))])), some (Sum.inr (Sum.inl (73, Row.mk [Value.int IntKind.i64 0, Value.int IntKind.i64 0, Value.int IntKind.i64 0, Value.bool false] (List.length (IM.ks m)) [Col.mk (List.set (IM.ks m) (Int.toNat i) (0 : Int)) [] [], Col.mk (List.set (IM.ids m) (Int.toNat i) (0 : Int)) [] [], Col.mk (IM.gens m) [] [], Col.mk [] (List.set (IM.live m) (Int.toNat i) false) []]))), none, some (Sum.inl (30, [Value.int IntKind.i64 i, Value.int IntKind.i64 g])), some (Sum.inl (52, [Value.int IntKind.i64 (List.getD (IM.ks m) (Int.toNat i) (0 : Int)), Value.int IntKind.i64 (List.getD (IM.ids m) (Int.toNat i) (0 : Int))])), some (Sum.inl (52, [Value.int IntKind.i64 0, Value.int IntKind.i64 0])), some (Sum.inl (52, [Value.int IntKind.i64 (List.getD (IM.ks m) (Int.toNat i) (0 : Int)), Value.int IntKind.i64 (List.getD (IM.ids m) (Int.toNat i) (0 : Int))])), some (Sum.inr (Sum.inl (3, Row.mk [Value.int IntKind.i64 0] 1 [Col.mk [i] [] []]))), some (Sum.inr (Sum.inl (3, Row.mk [Value.int IntKind.i64 0] (List.length (IM.free m) + 1) [Col.mk (cut (IM.free m) 0 (List.length (IM.free m)) ++ cut [i] 0 1) [] []])))])) ∧ (decide (List.getD (IM.gens m) (Int.toNat i) (0 : Int) < (4294967295 : Int)) = false → Post (G (Value.tuple (Array.mk [Value.agg (Array.mk [Value.int IntKind.i64 (List.getD (IM.ks m) (Int.toNat i) (0 : Int)), Value.int IntKind.i64 (List.getD (IM.ids m) (Int.toNat i) (0 : Int))]), Value.bool true])) [some (Sum.inl (70, [Value.slice (some (Addr.mk 1 0 (some 4000))) (List.length (IM.ks m)) 0, Value.slice (some (Addr.mk 2 0 (some 1000))) (List.length (IM.free m)) 0, Value.int IntKind.i64 (IM.held m - (1 : Int)), Value.int IntKind.i64 (IM.cap m), Value.int IntKind.i64 (IM.visits m + (1 : Int))])), some (Sum.inr (Sum.inl (73, Row.mk [Value.int IntKind.i64 0, Value.int IntKind.i64 0, Value.int IntKind.i64 0, Value.bool false] (List.length (IM.ks m)) [Col.mk (List.set (IM.ks m) (Int.toNat i) (0 : Int)) [] [], Col.mk (List.set (IM.ids m) (Int.toNat i) (0 : Int)) [] [], Col.mk (IM.gens m) [] [], Col.mk [] (List.set (IM.live m) (Int.toNat i) false) []]))), some (Sum.inr (Sum.inl (3, Row.mk [Value.int IntKind.i64 0] (List.length (IM.free m)) [Col.mk (IM.free m) [] []]))), some (Sum.inl (30, [Value.int IntKind.i64 i, Value.int IntKind.i64 g])), some (Sum.inl (52, [Value.int IntKind.i64 (List.getD (IM.ks m) (Int.toNat i) (0 : Int)), Value.int IntKind.i64 (List.getD (IM.ids m) (Int.toNat i) (0 : Int))])), some (Sum.inl (52, [Value.int IntKind.i64 0, Value.int IntKind.i64 0])), some (Sum.inl (52, [Value.int IntKind.i64 (List.getD (IM.ks m) (Int.toNat i) (0 : Int)), Value.int IntKind.i64 (List.getD (IM.ids m) (Int.toNat i) (0 : Int))]))]))) ∧ (hasIM m i g = false → Vc ([some (Sum.inl (70, [Value.slice (some (Addr.mk 1 0 (some 4000))) (List.length (IM.ks m)) 0, Value.slice (some (Addr.mk 2 0 (some 1000))) (List.length (IM.free m)) 0, Value.int IntKind.i64 (IM.held m), Value.int IntKind.i64 (IM.cap m), Value.int IntKind.i64 (IM.visits m)])), some (Sum.inr (Sum.inl (73, Row.mk [Value.int IntKind.i64 0, Value.int IntKind.i64 0, Value.int IntKind.i64 0, Value.bool false] (List.length (IM.ks m)) [Col.mk (IM.ks m) [] [], Col.mk (IM.ids m) [] [], Col.mk (IM.gens m) [] [], Col.mk [] (IM.live m) []]))), some (Sum.inr (Sum.inl (3, Row.mk [Value.int IntKind.i64 0] (List.length (IM.free m)) [Col.mk (IM.free m) [] []])))] = layItems m ∧ List.length (IM.ks m) < 1000000 ∧ List.length (IM.ids m) = List.length (IM.ks m) ∧ List.length (IM.gens m) = List.length (IM.ks m) ∧ List.length (IM.live m) = List.length (IM.ks m)) ∧ Post (G (Value.tuple (Array.mk [Value.agg (Array.mk [Value.int IntKind.i64 0, Value.int IntKind.i64 0]), Value.bool false])) [some (Sum.inl (70, [Value.slice (some (Addr.mk 1 0 (some 4000))) (List.length (IM.ks m)) 0, Value.slice (some (Addr.mk 2 0 (some 1000))) (List.length (IM.free m)) 0, Value.int IntKind.i64 (IM.held m), Value.int IntKind.i64 (IM.cap m), Value.int IntKind.i64 (IM.visits m)])), some (Sum.inr (Sum.inl (73, Row.mk [Value.int IntKind.i64 0, Value.int IntKind.i64 0, Value.int IntKind.i64 0, Value.bool false] (List.length (IM.ks m)) [Col.mk (IM.ks m) [] [], Col.mk (IM.ids m) [] [], Col.mk (IM.gens m) [] [], Col.mk [] (IM.live m) []]))), some (Sum.inr (Sum.inl (3, Row.mk [Value.int IntKind.i64 0] (List.length (IM.free m)) [Col.mk (IM.free m) [] []]))), some (Sum.inl (30, [Value.int IntKind.i64 i, Value.int IntKind.i64 g])), some (Sum.inl (52, [Value.int IntKind.i64 0, Value.int IntKind.i64 0])), some (Sum.inl (52, [Value.int IntKind.i64 0, Value.int IntKind.i64 0]))]))) ?_ (by kernel_rfl)
    subst hG
    have h7 := hv.cells
    have h8 := hv.frees
    have h9 := hv.hld
    have h10 := hv.vis
    have v0 := hv.ids
    have v1 := hv.gens
    have v2 := hv.live
    have w := ihas_spec (m := m) (i := i) (g := g)
    have h00 : ∀ h : hasIM m i g = true, hasIM m i g = true := fun h => h
    refine ⟨fun h => ?_, fun h => ?_⟩
    · have hh := h
      obtain ⟨w1, w2, w3, w4⟩ := w h
      repeat' (first | apply And.intro | apply Vc.mk | apply fits.mk | intro h | apply Post.mk)
      all_goals (try simp only [decide_eq_true_eq, decide_eq_false_iff_not, Nat.zero_add, ge_iff_le, Int.not_le, Int.not_lt, Int.toNat_natCast, beq_iff_eq, beq_eq_false_iff_ne, Bool.not_eq_true', Bool.not_eq_false'] at *)
      all_goals first | contradiction | omega | (apply congrArg Value.bool; assumption) | exact ⟨rfl, by omega⟩ | exact rfl | (simp [*, -List.getD_eq_getElem?_getD]; done) | skip
      · have h2 : m.gens.getD i.toNat 0 < 4294967295 := by assumption
        refine ⟨⟨[0, 1, 8], ?_, rfl, ?_, rfl, rfl, rfl, rfl, rfl⟩⟩
        · simp [mvV, mvL, dnV, dnL, IM.getK, IM.getI, hh]
        · simp [layItems, unf, unfGo, unfB, off, width, L, lay, newHp, mvO, mvSB, Pulls, pullB, nth, at2, dnL, dnV, mvL, mvV, mvA, mvQ_lt, blt_true, blt_false, RowLe, colI, colB, IM.drop, IM.visit, hh, h2, -List.getD_eq_getElem?_getD]
          try (left; rfl)
      · have h2 : ¬ m.gens.getD i.toNat 0 < 4294967295 := by omega
        refine ⟨⟨[0, 1, 2], ?_, rfl, ?_, rfl, rfl, rfl, rfl, rfl⟩⟩
        · simp [mvV, mvL, dnV, dnL, IM.getK, IM.getI, hh]
        · simp [layItems, unf, unfGo, unfB, off, width, L, lay, newHp, mvO, mvSB, Pulls, pullB, nth, at2, dnL, dnV, mvL, mvV, mvA, mvQ_lt, blt_true, blt_false, RowLe, colI, colB, IM.drop, IM.visit, hh, h2, -List.getD_eq_getElem?_getD]
    · have hh := h
      repeat' (first | apply And.intro | apply Vc.mk | apply fits.mk | intro h | apply Post.mk)
      all_goals (try simp only [decide_eq_true_eq, decide_eq_false_iff_not, Nat.zero_add, ge_iff_le, Int.not_le, Int.not_lt, Int.toNat_natCast, beq_iff_eq, beq_eq_false_iff_ne, Bool.not_eq_true', Bool.not_eq_false'] at *)
      all_goals first | contradiction | omega | (apply congrArg Value.bool; assumption) | exact ⟨rfl, by omega⟩ | exact rfl | (simp [*, -List.getD_eq_getElem?_getD]; done) | skip
      refine ⟨⟨[0, 1, 2], ?_, rfl, ?_, rfl, rfl, rfl, rfl, rfl⟩⟩
      · simp [mvV, mvL, dnV, dnL, IM.getK, IM.getI, hh]
      · simp [layItems, unf, unfGo, unfB, off, width, L, lay, newHp, mvO, mvSB, Pulls, pullB, nth, at2, dnL, dnV, mvL, mvV, mvA, mvQ_lt, blt_true, blt_false, RowLe, colI, colB, IM.drop, hh]
  · cases hx
def ilenP : Prim Rs := fun args hh => match args, hh with
  | [.pointer (some ⟨0, 0, none⟩)], [some (.inr (.inr (.inr (.items m))))] => some ⟨True, .int .i64 m.held, none, hh, [], []⟩
  | _, _ => none
theorem ilen_ok : ConOk D Try.prog 28 (con1 ilenP) := by
  refine con1_ok (res_prim (L := L) (D0 := NoR) (fn := Try.f28) (root := codeOf Try.f28) (by kernel_rfl) (by kernel_rfl) (by kernel_rfl) fun args hh x hx => ?_)
  unfold ilenP at hx
  split at hx
  · rename_i m
    injection hx with hx
    subst hx
    refine ⟨by first | exact Nat.le_refl _ | exact Nat.zero_le _, noLit rfl, (fun hw => by first | rfl | cases hw), fun _ hv => ?_⟩
    generalize hG : EndsU (R := Rs) (R0 := Empty) _ _ _ = G
    refine rx_ok (T := TI0) TI0_ok mixed 200 ?_
    refine as_text (q := Post (G (Value.int IntKind.i64 (IM.held m)) [some (Sum.inl (70, [Value.slice (some (Addr.mk 1 0 (some 4000))) (List.length (IM.ks m)) 0, Value.slice (some (Addr.mk 2 0 (some 1000))) (List.length (IM.free m)) 0, Value.int IntKind.i64 (IM.held m), Value.int IntKind.i64 (IM.cap m), Value.int IntKind.i64 (IM.visits m)])), some (Sum.inr (Sum.inl (73, Row.mk [Value.int IntKind.i64 0, Value.int IntKind.i64 0, Value.int IntKind.i64 0, Value.bool false] (List.length (IM.ks m)) [Col.mk (IM.ks m) [] [], Col.mk (IM.ids m) [] [], Col.mk (IM.gens m) [] [], Col.mk [] (IM.live m) []]))), some (Sum.inr (Sum.inl (3, Row.mk [Value.int IntKind.i64 0] (List.length (IM.free m)) [Col.mk (IM.free m) [] []])))])) ?_ (by kernel_rfl)
    subst hG
    refine ⟨⟨[0, 1, 2], rfl, rfl, ?_, rfl, rfl, rfl, rfl, rfl⟩⟩
    simp [layItems, unf, unfGo, unfB, off, width, L, lay, newHp, mvO, mvSB, Pulls, pullB, nth, at2, dnL, dnV, mvL, mvV, mvA, mvQ_lt, blt_true, blt_false, RowLe, colI, colB]
  · cases hx
end Go.Proofs.Ytloibbakklenbaa.Ar
