/- arena: the pool's functions, by what they do to a pool's lists. -/
import Derived.Test.YtloibbakklenbaaArPlain
namespace Go.Proofs.Ytloibbakklenbaa.Ar
open Go.Proofs.Ytloibbakklenbaa.Rx
set_option linter.unusedVariables false
set_option linter.unusedSimpArgs false
set_option maxRecDepth 100000
def zN : Nat → Bool := fun _ => false
def T0 : Tab Empty := [(33, liftC zN 2 (con1 nextP)), (34, liftC zN 2 visitC)]
theorem T0_ok : TabOk NoR Try.prog T0 := ⟨liftC_ok _ _ next_ok, liftC_ok _ _ visit_ok, trivial⟩
theorem noLit {x : Out Rs} (h : x.lit = none) : ∀ b, x.lit = some b → x.v = .bool b := fun b hb => by rw [h] at hb; cases hb
def newP : Prim Rs := fun args hh => match args, hh with
  | [.int .i64 c], [] =>
    some ⟨True, .pointer (some ⟨0, 0, none⟩), none, [some (.inr (.inr (.inr (.pool ⟨[], [], [], [], 0, min (max c 0) 16777216, 0⟩))))], [], [(0, 0)]⟩
  | _, _ => none
theorem new_ok : ConOk D Try.prog 8 (con1 newP) := by
  refine con1_ok (res_prim (L := L) (D0 := NoR) (fn := Try.f8) (root := codeOf Try.f8) (by kernel_rfl) (by kernel_rfl) (by kernel_rfl) fun args hh x hx => ?_)
  unfold newP at hx
  split at hx
  · rename_i c
    injection hx with hx
    subst hx
    refine ⟨by first | exact Nat.le_refl _ | exact Nat.zero_le _, noLit rfl, (fun hw => by first | rfl | cases hw), fun _ hv => ?_⟩
    generalize hG : EndsU (R := Rs) (R0 := Empty) _ _ _ = G
    refine rx_ok (T := T0) T0_ok mixed 200 ?_
    refine as_text (q := Post (G (Value.pointer (some (Addr.mk 0 0 none))) [some (Sum.inl (62, [Value.slice none 0 0, Value.slice none 0 0, Value.int IntKind.i64 0, Value.int IntKind.i64 (if 16777216 < if 0 > c then 0 else c then 16777216 else if 0 > c then 0 else c), Value.int IntKind.i64 0]))])) ?_ (by kernel_rfl)
    subst hG
    refine ⟨⟨[0, 1, 1], rfl, rfl, ?_, rfl, rfl, rfl, rfl, rfl⟩⟩
    have e : (if 16777216 < if 0 > c then 0 else c then 16777216 else if 0 > c then 0 else c) = min (max c 0) 16777216 := by
      by_cases h1 : 0 > c
      · rw [if_pos h1]; simp; omega
      · rw [if_neg h1]; split <;> omega
    simp [unf, unfGo, unfB, off, width, L, lay, layPool, newHp, mvO, mvSB, Pulls, pullB, nth, at2, dnL, dnV, mvL, mvV, mvA, mvQ_lt, blt_true, blt_false, RowLe, colI, colB, e]
    exact ⟨⟨rfl, Nat.succ_pos _, rfl⟩, ⟨rfl, Nat.succ_pos _, rfl⟩⟩
  · cases hx
def putP : Prim Rs := fun args hh => match args, hh with
  | [.pointer (some ⟨0, 0, none⟩), .int .i64 v], [some (.inr (.inr (.inr (.pool m))))] =>
    some ⟨m.Ok 10000, .tuple #[.agg #[.int .i64 m.putI, .int .i64 m.putG], .bool (!decide (m.held = m.cap))], none, [some (.inr (.inr (.inr (.pool (m.put v)))))], [], [(0, 0)]⟩
  | _, _ => none
theorem put_ok : ConOk D Try.prog 12 (con1 putP) := by
  refine con1_ok (res_prim (L := L) (D0 := NoR) (fn := Try.f12) (root := codeOf Try.f12) (by kernel_rfl) (by kernel_rfl) (by kernel_rfl) fun args hh x hx => ?_)
  unfold putP at hx
  split at hx
  · rename_i v m
    injection hx with hx
    subst hx
    refine ⟨by first | exact Nat.le_refl _ | exact Nat.zero_le _, noLit rfl, (fun hw => by first | rfl | cases hw), fun _ hv => ?_⟩
    generalize hG : EndsU (R := Rs) (R0 := Empty) _ _ _ = G
    refine rx_ok (T := T0) T0_ok mixed 200 ?_
    refine as_text (q := ((PM.held m == PM.cap m) = true → Post (G (Value.tuple (Array.mk [Value.agg (Array.mk [Value.int IntKind.i64 0, Value.int IntKind.i64 0]), Value.bool false])) [some (Sum.inl (62, [Value.slice (some (Addr.mk 1 0 (some 3000))) (List.length (PM.vs m)) 0, Value.slice (some (Addr.mk 2 0 (some 1000))) (List.length (PM.free m)) 0, Value.int IntKind.i64 (PM.held m), Value.int IntKind.i64 (PM.cap m), Value.int IntKind.i64 (PM.visits m)])), some (Sum.inr (Sum.inl (65, Row.mk [Value.int IntKind.i64 0, Value.int IntKind.i64 0, Value.bool false] (List.length (PM.vs m)) [Col.mk (PM.vs m) [] [], Col.mk (PM.gens m) [] [], Col.mk [] (PM.live m) []]))), some (Sum.inr (Sum.inl (3, Row.mk [Value.int IntKind.i64 0] (List.length (PM.free m)) [Col.mk (PM.free m) [] []]))), some (Sum.inl (30, [Value.int IntKind.i64 0, Value.int IntKind.i64 0]))])) ∧ ((PM.held m == PM.cap m) = false → Vc ([some (Sum.inl (62, [Value.slice (some (Addr.mk 1 0 (some 3000))) (List.length (PM.vs m)) 0, Value.slice (some (Addr.mk 2 0 (some 1000))) (List.length (PM.free m)) 0, Value.int IntKind.i64 (PM.held m), Value.int IntKind.i64 (PM.cap m), Value.int IntKind.i64 (PM.visits m)])), some (Sum.inr (Sum.inl (65, Row.mk [Value.int IntKind.i64 0, Value.int IntKind.i64 0, Value.bool false] (List.length (PM.vs m)) [Col.mk (PM.vs m) [] [], Col.mk (PM.gens m) [] [], Col.mk [] (PM.live m) []]))), some (Sum.inr (Sum.inl (3, Row.mk [Value.int IntKind.i64 0] (List.length (PM.free m)) [Col.mk (PM.free m) [] []])))] = layPool m ∧ List.length (PM.vs m) < 1000000 ∧ List.length (PM.free m) < 1000000 ∧ List.length (PM.gens m) = List.length (PM.vs m) ∧ List.length (PM.live m) = List.length (PM.vs m)) ∧ Vc (0 ≤ nextIdx m ∧ nextIdx m < (↑(List.length (PM.vs (nextPM m))) : Int) ∧ 0 + List.length (PM.vs (nextPM m)) ≤ List.length (PM.vs (nextPM m))) ∧ Vc (0 + Int.toNat (nextIdx m) < List.length (PM.vs (nextPM m))) ∧ Vc (0 + Int.toNat (nextIdx m) < List.length (PM.vs (nextPM m))) ∧ Vc (0 + Int.toNat (nextIdx m) < List.length (PM.vs (nextPM m))) ∧ Vc (fits (List.getD (PM.gens (nextPM m)) (0 + Int.toNat (nextIdx m)) 0 + 1)) ∧ Vc (0 + Int.toNat (nextIdx m) < List.length (PM.vs (nextPM m))) ∧ Vc (fits (PM.held (nextPM m) + 1)) ∧ Vc (0 + Int.toNat (nextIdx m) < List.length (PM.vs (nextPM m))) ∧ Post (G (Value.tuple (Array.mk [Value.agg (Array.mk [Value.int IntKind.i64 (nextIdx m), Value.int IntKind.i64 (List.getD (List.set (PM.gens (nextPM m)) (0 + Int.toNat (nextIdx m)) (List.getD (PM.gens (nextPM m)) (0 + Int.toNat (nextIdx m)) 0 + 1)) (0 + Int.toNat (nextIdx m)) 0)]), Value.bool true])) [some (Sum.inl (62, [Value.slice (some (Addr.mk 4 0 (some 3000))) (List.length (PM.vs (nextPM m))) 0, Value.slice (some (Addr.mk 2 0 (some 1000))) (List.length (PM.free (nextPM m))) 0, Value.int IntKind.i64 (PM.held (nextPM m) + 1), Value.int IntKind.i64 (PM.cap (nextPM m)), Value.int IntKind.i64 (PM.visits (nextPM m))])), none, some (Sum.inr (Sum.inl (3, Row.mk [Value.int IntKind.i64 0] (List.length (PM.free (nextPM m))) [Col.mk (PM.free (nextPM m)) [] []]))), some (Sum.inl (30, [Value.int IntKind.i64 (nextIdx m), Value.int IntKind.i64 (List.getD (List.set (PM.gens (nextPM m)) (0 + Int.toNat (nextIdx m)) (List.getD (PM.gens (nextPM m)) (0 + Int.toNat (nextIdx m)) 0 + 1)) (0 + Int.toNat (nextIdx m)) 0)])), some (Sum.inr (Sum.inl (65, Row.mk [Value.int IntKind.i64 0, Value.int IntKind.i64 0, Value.bool false] (List.length (PM.vs (nextPM m))) [Col.mk (List.set (PM.vs (nextPM m)) (0 + Int.toNat (nextIdx m)) v) [] [], Col.mk (List.set (PM.gens (nextPM m)) (0 + Int.toNat (nextIdx m)) (List.getD (PM.gens (nextPM m)) (0 + Int.toNat (nextIdx m)) 0 + 1)) [] [], Col.mk [] (List.set (PM.live (nextPM m)) (0 + Int.toNat (nextIdx m)) true) []])))]))) ?_ (by kernel_rfl)
    subst hG
    have h1 := hv.idx
    obtain ⟨h2, h3, h4, h5⟩ := hv.next
    have h6 := getD_bound (i := (nextIdx m).toNat) h2.gen
    have h7 := hv.cells
    have h8 := hv.frees
    have h9 := hv.hld
    have hi : (nextIdx m).toNat < (nextPM m).gens.length := by rw [h2.gens]; omega
    simp only [Nat.zero_add]
    refine ⟨fun h => ?_, fun h => ⟨⟨rfl, by omega, by omega, hv.gens, hv.live⟩, ⟨h1.1, h1.2, Nat.le_refl _⟩, ⟨by omega⟩, ⟨by omega⟩, ⟨by omega⟩, ⟨⟨by omega, by omega⟩⟩, ⟨by omega⟩, ⟨⟨by omega, by omega⟩⟩, ⟨by omega⟩, ?_⟩⟩
    · have h0 : m.held = m.cap := by simpa using h
      refine ⟨⟨[0, 1, 2], ?_, rfl, ?_, rfl, rfl, rfl, rfl, rfl⟩⟩
      · simp [mvV, mvL, dnV, dnL, PM.putI, PM.putG, h0]
      · simp [unf, unfGo, unfB, off, width, L, lay, layPool, newHp, mvO, mvSB, Pulls, pullB, nth, at2, dnL, dnV, mvL, mvV, mvA, mvQ_lt, blt_true, blt_false, RowLe, colI, colB, PM.put, h0]
    · have h0 : ¬ m.held = m.cap := by simpa using h
      refine ⟨⟨[0, 4, 2], ?_, rfl, ?_, rfl, rfl, rfl, rfl, rfl⟩⟩
      · simp [mvV, mvL, dnV, dnL, PM.putI, PM.putG, h0, hi]
      · simp [unf, unfGo, unfB, off, width, L, lay, layPool, newHp, mvO, mvSB, Pulls, pullB, nth, at2, dnL, dnV, mvL, mvV, mvA, mvQ_lt, blt_true, blt_false, RowLe, colI, colB, PM.put, h0, h3, h4, h5]
  · cases hx
def getP : Prim Rs := fun args hh => match args, hh with
  | [.pointer (some ⟨0, 0, none⟩), .agg ⟨[.int .i64 i, .int .i64 g]⟩], [some (.inr (.inr (.inr (.pool m))))] =>
    some ⟨m.Ok 10000, .tuple #[.int .i64 (m.getV i g), .bool (hasPM m i g)], none, [some (.inr (.inr (.inr (.pool (m.get i g)))))], [], [(0, 0)]⟩
  | _, _ => none
theorem get_ok : ConOk D Try.prog 14 (con1 getP) := by
  refine con1_ok (res_prim (L := L) (D0 := NoR) (fn := Try.f14) (root := codeOf Try.f14) (by kernel_rfl) (by kernel_rfl) (by kernel_rfl) fun args hh x hx => ?_)
  unfold getP at hx
  split at hx
  · rename_i i g m
    injection hx with hx
    subst hx
    refine ⟨by first | exact Nat.le_refl _ | exact Nat.zero_le _, noLit rfl, (fun hw => by first | rfl | cases hw), fun _ hv => ?_⟩
    generalize hG : EndsU (R := Rs) (R0 := Empty) _ _ _ = G
    refine rx_ok (T := T0) T0_ok mixed 200 ?_
    refine as_text (q := (hasPM m i g = true → Vc ([some (Sum.inl (62, [Value.slice (some (Addr.mk 1 0 (some 3000))) (List.length (PM.vs m)) 0, Value.slice (some (Addr.mk 2 0 (some 1000))) (List.length (PM.free m)) 0, Value.int IntKind.i64 (PM.held m), Value.int IntKind.i64 (PM.cap m), Value.int IntKind.i64 (PM.visits m)])), some (Sum.inr (Sum.inl (65, Row.mk [Value.int IntKind.i64 0, Value.int IntKind.i64 0, Value.bool false] (List.length (PM.vs m)) [Col.mk (PM.vs m) [] [], Col.mk (PM.gens m) [] [], Col.mk [] (PM.live m) []]))), some (Sum.inr (Sum.inl (3, Row.mk [Value.int IntKind.i64 0] (List.length (PM.free m)) [Col.mk (PM.free m) [] []])))] = layPool m ∧ List.length (PM.vs m) < 1000000 ∧ List.length (PM.gens m) = List.length (PM.vs m) ∧ List.length (PM.live m) = List.length (PM.vs m) ∧ fits (PM.visits m + 1)) ∧ Vc (Int.toNat i < List.length (PM.vs m)) ∧ Post (G (Value.tuple (Array.mk [Value.int IntKind.i64 (List.getD (PM.vs m) (Int.toNat i) 0), Value.bool true])) [some (Sum.inl (62, [Value.slice (some (Addr.mk 1 0 (some 3000))) (List.length (PM.vs m)) 0, Value.slice (some (Addr.mk 2 0 (some 1000))) (List.length (PM.free m)) 0, Value.int IntKind.i64 (PM.held m), Value.int IntKind.i64 (PM.cap m), Value.int IntKind.i64 (PM.visits m + 1)])), some (Sum.inr (Sum.inl (65, Row.mk [Value.int IntKind.i64 0, Value.int IntKind.i64 0, Value.bool false] (List.length (PM.vs m)) [Col.mk (PM.vs m) [] [], Col.mk (PM.gens m) [] [], Col.mk [] (PM.live m) []]))), some (Sum.inr (Sum.inl (3, Row.mk [Value.int IntKind.i64 0] (List.length (PM.free m)) [Col.mk (PM.free m) [] []]))), some (Sum.inl (30, [Value.int IntKind.i64 i, Value.int IntKind.i64 g]))])) ∧ (hasPM m i g = false → Vc ([some (Sum.inl (62, [Value.slice (some (Addr.mk 1 0 (some 3000))) (List.length (PM.vs m)) 0, Value.slice (some (Addr.mk 2 0 (some 1000))) (List.length (PM.free m)) 0, Value.int IntKind.i64 (PM.held m), Value.int IntKind.i64 (PM.cap m), Value.int IntKind.i64 (PM.visits m)])), some (Sum.inr (Sum.inl (65, Row.mk [Value.int IntKind.i64 0, Value.int IntKind.i64 0, Value.bool false] (List.length (PM.vs m)) [Col.mk (PM.vs m) [] [], Col.mk (PM.gens m) [] [], Col.mk [] (PM.live m) []]))), some (Sum.inr (Sum.inl (3, Row.mk [Value.int IntKind.i64 0] (List.length (PM.free m)) [Col.mk (PM.free m) [] []])))] = layPool m ∧ List.length (PM.vs m) < 1000000 ∧ List.length (PM.gens m) = List.length (PM.vs m) ∧ List.length (PM.live m) = List.length (PM.vs m)) ∧ Post (G (Value.tuple (Array.mk [Value.int IntKind.i64 0, Value.bool false])) [some (Sum.inl (62, [Value.slice (some (Addr.mk 1 0 (some 3000))) (List.length (PM.vs m)) 0, Value.slice (some (Addr.mk 2 0 (some 1000))) (List.length (PM.free m)) 0, Value.int IntKind.i64 (PM.held m), Value.int IntKind.i64 (PM.cap m), Value.int IntKind.i64 (PM.visits m)])), some (Sum.inr (Sum.inl (65, Row.mk [Value.int IntKind.i64 0, Value.int IntKind.i64 0, Value.bool false] (List.length (PM.vs m)) [Col.mk (PM.vs m) [] [], Col.mk (PM.gens m) [] [], Col.mk [] (PM.live m) []]))), some (Sum.inr (Sum.inl (3, Row.mk [Value.int IntKind.i64 0] (List.length (PM.free m)) [Col.mk (PM.free m) [] []]))), some (Sum.inl (30, [Value.int IntKind.i64 i, Value.int IntKind.i64 g]))]))) ?_ (by kernel_rfl)
    subst hG
    have h7 := hv.cells
    have h8 := hv.frees
    have h9 := hv.hld
    have h10 := hv.vis
    refine ⟨fun h => ⟨⟨rfl, by omega, hv.gens, hv.live, ⟨by omega, by omega⟩⟩, ⟨by have := has_spec h; omega⟩, ?_⟩, fun h => ⟨⟨rfl, by omega, hv.gens, hv.live⟩, ?_⟩⟩
    · refine ⟨⟨[0, 1, 2], ?_, rfl, ?_, rfl, rfl, rfl, rfl, rfl⟩⟩
      · simp [mvV, mvL, dnV, dnL, PM.getV, h]
      · simp [unf, unfGo, unfB, off, width, L, lay, layPool, newHp, mvO, mvSB, Pulls, pullB, nth, at2, dnL, dnV, mvL, mvV, mvA, mvQ_lt, blt_true, blt_false, RowLe, colI, colB, PM.get, PM.visit, h]
    · refine ⟨⟨[0, 1, 2], ?_, rfl, ?_, rfl, rfl, rfl, rfl, rfl⟩⟩
      · simp [mvV, mvL, dnV, dnL, PM.getV, h]
      · simp [unf, unfGo, unfB, off, width, L, lay, layPool, newHp, mvO, mvSB, Pulls, pullB, nth, at2, dnL, dnV, mvL, mvV, mvA, mvQ_lt, blt_true, blt_false, RowLe, colI, colB, PM.get, h]
  · cases hx
def setP : Prim Rs := fun args hh => match args, hh with
  | [.pointer (some ⟨0, 0, none⟩), .agg ⟨[.int .i64 i, .int .i64 g]⟩, .int .i64 v], [some (.inr (.inr (.inr (.pool m))))] =>
    some ⟨m.Ok 10000, .bool (hasPM m i g), none, [some (.inr (.inr (.inr (.pool (m.set i g v)))))], [], [(0, 0)]⟩
  | _, _ => none
theorem set_ok : ConOk D Try.prog 16 (con1 setP) := by
  refine con1_ok (res_prim (L := L) (D0 := NoR) (fn := Try.f16) (root := codeOf Try.f16) (by kernel_rfl) (by kernel_rfl) (by kernel_rfl) fun args hh x hx => ?_)
  unfold setP at hx
  split at hx
  · rename_i i g v m
    injection hx with hx
    subst hx
    refine ⟨by first | exact Nat.le_refl _ | exact Nat.zero_le _, noLit rfl, (fun hw => by first | rfl | cases hw), fun _ hv => ?_⟩
    generalize hG : EndsU (R := Rs) (R0 := Empty) _ _ _ = G
    refine rx_ok (T := T0) T0_ok mixed 200 ?_
    refine as_text (q := (hasPM m i g = true → Vc ([some (Sum.inl (62, [Value.slice (some (Addr.mk 1 0 (some 3000))) (List.length (PM.vs m)) 0, Value.slice (some (Addr.mk 2 0 (some 1000))) (List.length (PM.free m)) 0, Value.int IntKind.i64 (PM.held m), Value.int IntKind.i64 (PM.cap m), Value.int IntKind.i64 (PM.visits m)])), some (Sum.inr (Sum.inl (65, Row.mk [Value.int IntKind.i64 0, Value.int IntKind.i64 0, Value.bool false] (List.length (PM.vs m)) [Col.mk (PM.vs m) [] [], Col.mk (PM.gens m) [] [], Col.mk [] (PM.live m) []]))), some (Sum.inr (Sum.inl (3, Row.mk [Value.int IntKind.i64 0] (List.length (PM.free m)) [Col.mk (PM.free m) [] []])))] = layPool m ∧ List.length (PM.vs m) < 1000000 ∧ List.length (PM.gens m) = List.length (PM.vs m) ∧ List.length (PM.live m) = List.length (PM.vs m) ∧ fits (PM.visits m + 1)) ∧ Vc (Int.toNat i < List.length (PM.vs m)) ∧ Post (G (Value.bool true) [some (Sum.inl (62, [Value.slice (some (Addr.mk 1 0 (some 3000))) (List.length (PM.vs m)) 0, Value.slice (some (Addr.mk 2 0 (some 1000))) (List.length (PM.free m)) 0, Value.int IntKind.i64 (PM.held m), Value.int IntKind.i64 (PM.cap m), Value.int IntKind.i64 (PM.visits m + 1)])), some (Sum.inr (Sum.inl (65, Row.mk [Value.int IntKind.i64 0, Value.int IntKind.i64 0, Value.bool false] (List.length (PM.vs m)) [Col.mk (List.set (PM.vs m) (Int.toNat i) v) [] [], Col.mk (PM.gens m) [] [], Col.mk [] (PM.live m) []]))), some (Sum.inr (Sum.inl (3, Row.mk [Value.int IntKind.i64 0] (List.length (PM.free m)) [Col.mk (PM.free m) [] []]))), some (Sum.inl (30, [Value.int IntKind.i64 i, Value.int IntKind.i64 g]))])) ∧ (hasPM m i g = false → Vc ([some (Sum.inl (62, [Value.slice (some (Addr.mk 1 0 (some 3000))) (List.length (PM.vs m)) 0, Value.slice (some (Addr.mk 2 0 (some 1000))) (List.length (PM.free m)) 0, Value.int IntKind.i64 (PM.held m), Value.int IntKind.i64 (PM.cap m), Value.int IntKind.i64 (PM.visits m)])), some (Sum.inr (Sum.inl (65, Row.mk [Value.int IntKind.i64 0, Value.int IntKind.i64 0, Value.bool false] (List.length (PM.vs m)) [Col.mk (PM.vs m) [] [], Col.mk (PM.gens m) [] [], Col.mk [] (PM.live m) []]))), some (Sum.inr (Sum.inl (3, Row.mk [Value.int IntKind.i64 0] (List.length (PM.free m)) [Col.mk (PM.free m) [] []])))] = layPool m ∧ List.length (PM.vs m) < 1000000 ∧ List.length (PM.gens m) = List.length (PM.vs m) ∧ List.length (PM.live m) = List.length (PM.vs m)) ∧ Post (G (Value.bool false) [some (Sum.inl (62, [Value.slice (some (Addr.mk 1 0 (some 3000))) (List.length (PM.vs m)) 0, Value.slice (some (Addr.mk 2 0 (some 1000))) (List.length (PM.free m)) 0, Value.int IntKind.i64 (PM.held m), Value.int IntKind.i64 (PM.cap m), Value.int IntKind.i64 (PM.visits m)])), some (Sum.inr (Sum.inl (65, Row.mk [Value.int IntKind.i64 0, Value.int IntKind.i64 0, Value.bool false] (List.length (PM.vs m)) [Col.mk (PM.vs m) [] [], Col.mk (PM.gens m) [] [], Col.mk [] (PM.live m) []]))), some (Sum.inr (Sum.inl (3, Row.mk [Value.int IntKind.i64 0] (List.length (PM.free m)) [Col.mk (PM.free m) [] []]))), some (Sum.inl (30, [Value.int IntKind.i64 i, Value.int IntKind.i64 g]))]))) ?_ (by kernel_rfl)
    subst hG
    have h7 := hv.cells
    have h8 := hv.frees
    have h9 := hv.hld
    have h10 := hv.vis
    refine ⟨fun h => ⟨⟨rfl, by omega, hv.gens, hv.live, ⟨by omega, by omega⟩⟩, ⟨by have := has_spec h; omega⟩, ?_⟩, fun h => ⟨⟨rfl, by omega, hv.gens, hv.live⟩, ?_⟩⟩
    · refine ⟨⟨[0, 1, 2], ?_, rfl, ?_, rfl, rfl, rfl, rfl, rfl⟩⟩
      · simp [mvV, mvL, dnV, dnL, h]
      · simp [unf, unfGo, unfB, off, width, L, lay, layPool, newHp, mvO, mvSB, Pulls, pullB, nth, at2, dnL, dnV, mvL, mvV, mvA, mvQ_lt, blt_true, blt_false, RowLe, colI, colB, PM.set, PM.visit, h]
    · refine ⟨⟨[0, 1, 2], ?_, rfl, ?_, rfl, rfl, rfl, rfl, rfl⟩⟩
      · simp [mvV, mvL, dnV, dnL, h]
      · simp [unf, unfGo, unfB, off, width, L, lay, layPool, newHp, mvO, mvSB, Pulls, pullB, nth, at2, dnL, dnV, mvL, mvV, mvA, mvQ_lt, blt_true, blt_false, RowLe, colI, colB, PM.set, h]
  · cases hx
def dropP : Prim Rs := fun args hh => match args, hh with
  | [.pointer (some ⟨0, 0, none⟩), .agg ⟨[.int .i64 i, .int .i64 g]⟩], [some (.inr (.inr (.inr (.pool m))))] =>
    some ⟨m.Ok 10000, .tuple #[.int .i64 (m.getV i g), .bool (hasPM m i g)], none, [some (.inr (.inr (.inr (.pool (m.drop i g)))))], [], [(0, 0)]⟩
  | _, _ => none
theorem drop_ok : ConOk D Try.prog 18 (con1 dropP) := by
  refine con1_ok (res_prim (L := L) (D0 := NoR) (fn := Try.f18) (root := codeOf Try.f18) (by kernel_rfl) (by kernel_rfl) (by kernel_rfl) fun args hh x hx => ?_)
  unfold dropP at hx
  split at hx
  · rename_i i g m
    injection hx with hx
    subst hx
    refine ⟨by first | exact Nat.le_refl _ | exact Nat.zero_le _, noLit rfl, (fun hw => by first | rfl | cases hw), fun _ hv => ?_⟩
    generalize hG : EndsU (R := Rs) (R0 := Empty) _ _ _ = G
    refine rx_ok (T := T0) T0_ok mixed 200 ?_
    refine as_text (q := (hasPM m i g = true → Vc ([some (Sum.inl (62, [Value.slice (some (Addr.mk 1 0 (some 3000))) (List.length (PM.vs m)) 0, Value.slice (some (Addr.mk 2 0 (some 1000))) (List.length (PM.free m)) 0, Value.int IntKind.i64 (PM.held m), Value.int IntKind.i64 (PM.cap m), Value.int IntKind.i64 (PM.visits m)])), some (Sum.inr (Sum.inl (65, Row.mk [Value.int IntKind.i64 0, Value.int IntKind.i64 0, Value.bool false] (List.length (PM.vs m)) [Col.mk (PM.vs m) [] [], Col.mk (PM.gens m) [] [], Col.mk [] (PM.live m) []]))), some (Sum.inr (Sum.inl (3, Row.mk [Value.int IntKind.i64 0] (List.length (PM.free m)) [Col.mk (PM.free m) [] []])))] = layPool m ∧ List.length (PM.vs m) < 1000000 ∧ List.length (PM.gens m) = List.length (PM.vs m) ∧ List.length (PM.live m) = List.length (PM.vs m) ∧ fits (PM.visits m + 1)) ∧ Vc (Int.toNat i < List.length (PM.vs m)) ∧ Vc (Int.toNat i < List.length (PM.vs m)) ∧ Vc (Int.toNat i < List.length (PM.vs m)) ∧ Vc (fits (PM.held m - 1)) ∧ Vc (Int.toNat i < List.length (PM.vs m)) ∧ (decide (List.getD (PM.gens m) (Int.toNat i) 0 < 4294967295) = true → Vc (0 + List.length (PM.free m) ≤ List.length (PM.free m) ∧ 1 ≤ 1 ∧ (List.length (PM.free m) + 1) * 8 ≤ 140737488355328 ∧ List.length (PM.free m) + 1 ≤ 140737488355328) ∧ Post (G (Value.tuple (Array.mk [Value.int IntKind.i64 (List.getD (PM.vs m) (Int.toNat i) 0), Value.bool true])) [some (Sum.inl (62, [Value.slice (some (Addr.mk 1 0 (some 3000))) (List.length (PM.vs m)) 0, Value.slice (some (Addr.mk 5 0 (some 1000))) (List.length (PM.free m) + 1) 0, Value.int IntKind.i64 (PM.held m - 1), Value.int IntKind.i64 (PM.cap m), Value.int IntKind.i64 (PM.visits m + 1)])), some (Sum.inr (Sum.inl (65, Row.mk [Value.int IntKind.i64 0, Value.int IntKind.i64 0, Value.bool false] (List.length (PM.vs m)) [Col.mk (List.set (PM.vs m) (Int.toNat i) 0) [] [], Col.mk (PM.gens m) [] [], Col.mk [] (List.set (PM.live m) (Int.toNat i) false) []]))), none, some (Sum.inl (30, [Value.int IntKind.i64 i, Value.int IntKind.i64 g])), some (Sum.inr (Sum.inl (3, Row.mk [Value.int IntKind.i64 0] 1 [Col.mk [i] [] []]))), some (Sum.inr (Sum.inl (3, Row.mk [Value.int IntKind.i64 0] (List.length (PM.free m) + 1) [Col.mk (cut (PM.free m) 0 (List.length (PM.free m)) ++ cut [i] 0 1) [] []])))])) ∧ (decide (List.getD (PM.gens m) (Int.toNat i) 0 < 4294967295) = false → Post (G (Value.tuple (Array.mk [Value.int IntKind.i64 (List.getD (PM.vs m) (Int.toNat i) 0), Value.bool true])) [some (Sum.inl (62, [Value.slice (some (Addr.mk 1 0 (some 3000))) (List.length (PM.vs m)) 0, Value.slice (some (Addr.mk 2 0 (some 1000))) (List.length (PM.free m)) 0, Value.int IntKind.i64 (PM.held m - 1), Value.int IntKind.i64 (PM.cap m), Value.int IntKind.i64 (PM.visits m + 1)])), some (Sum.inr (Sum.inl (65, Row.mk [Value.int IntKind.i64 0, Value.int IntKind.i64 0, Value.bool false] (List.length (PM.vs m)) [Col.mk (List.set (PM.vs m) (Int.toNat i) 0) [] [], Col.mk (PM.gens m) [] [], Col.mk [] (List.set (PM.live m) (Int.toNat i) false) []]))), some (Sum.inr (Sum.inl (3, Row.mk [Value.int IntKind.i64 0] (List.length (PM.free m)) [Col.mk (PM.free m) [] []]))), some (Sum.inl (30, [Value.int IntKind.i64 i, Value.int IntKind.i64 g]))]))) ∧ (hasPM m i g = false → Vc ([some (Sum.inl (62, [Value.slice (some (Addr.mk 1 0 (some 3000))) (List.length (PM.vs m)) 0, Value.slice (some (Addr.mk 2 0 (some 1000))) (List.length (PM.free m)) 0, Value.int IntKind.i64 (PM.held m), Value.int IntKind.i64 (PM.cap m), Value.int IntKind.i64 (PM.visits m)])), some (Sum.inr (Sum.inl (65, Row.mk [Value.int IntKind.i64 0, Value.int IntKind.i64 0, Value.bool false] (List.length (PM.vs m)) [Col.mk (PM.vs m) [] [], Col.mk (PM.gens m) [] [], Col.mk [] (PM.live m) []]))), some (Sum.inr (Sum.inl (3, Row.mk [Value.int IntKind.i64 0] (List.length (PM.free m)) [Col.mk (PM.free m) [] []])))] = layPool m ∧ List.length (PM.vs m) < 1000000 ∧ List.length (PM.gens m) = List.length (PM.vs m) ∧ List.length (PM.live m) = List.length (PM.vs m)) ∧ Post (G (Value.tuple (Array.mk [Value.int IntKind.i64 0, Value.bool false])) [some (Sum.inl (62, [Value.slice (some (Addr.mk 1 0 (some 3000))) (List.length (PM.vs m)) 0, Value.slice (some (Addr.mk 2 0 (some 1000))) (List.length (PM.free m)) 0, Value.int IntKind.i64 (PM.held m), Value.int IntKind.i64 (PM.cap m), Value.int IntKind.i64 (PM.visits m)])), some (Sum.inr (Sum.inl (65, Row.mk [Value.int IntKind.i64 0, Value.int IntKind.i64 0, Value.bool false] (List.length (PM.vs m)) [Col.mk (PM.vs m) [] [], Col.mk (PM.gens m) [] [], Col.mk [] (PM.live m) []]))), some (Sum.inr (Sum.inl (3, Row.mk [Value.int IntKind.i64 0] (List.length (PM.free m)) [Col.mk (PM.free m) [] []]))), some (Sum.inl (30, [Value.int IntKind.i64 i, Value.int IntKind.i64 g]))]))) ?_ (by kernel_rfl)
    subst hG
    have h7 := hv.cells
    have h8 := hv.frees
    have h9 := hv.hld
    have h10 := hv.vis
    refine ⟨fun h => ⟨⟨rfl, by omega, hv.gens, hv.live, ⟨by omega, by omega⟩⟩, ⟨by have := has_spec h; omega⟩, ⟨by have := has_spec h; omega⟩, ⟨by have := has_spec h; omega⟩, ⟨⟨by omega, by omega⟩⟩, ⟨by have := has_spec h; omega⟩, fun h2 => ⟨⟨by omega, by omega, by omega, by omega⟩, ?_⟩, fun h2 => ?_⟩, fun h => ⟨⟨rfl, by omega, hv.gens, hv.live⟩, ?_⟩⟩
    · simp only [decide_eq_true_eq] at h2
      refine ⟨⟨[0, 1, 5], ?_, rfl, ?_, rfl, rfl, rfl, rfl, rfl⟩⟩
      · simp [mvV, mvL, dnV, dnL, PM.getV, h]
      · simp [unf, unfGo, unfB, off, width, L, lay, layPool, newHp, mvO, mvSB, Pulls, pullB, nth, at2, dnL, dnV, mvL, mvV, mvA, mvQ_lt, blt_true, blt_false, RowLe, colI, colB, PM.drop, PM.visit, h, h2, -List.getD_eq_getElem?_getD]
        left; rfl
    · simp only [decide_eq_false_iff_not] at h2
      refine ⟨⟨[0, 1, 2], ?_, rfl, ?_, rfl, rfl, rfl, rfl, rfl⟩⟩
      · simp [mvV, mvL, dnV, dnL, PM.getV, h]
      · simp [unf, unfGo, unfB, off, width, L, lay, layPool, newHp, mvO, mvSB, Pulls, pullB, nth, at2, dnL, dnV, mvL, mvV, mvA, mvQ_lt, blt_true, blt_false, RowLe, colI, colB, PM.drop, PM.visit, h, h2, -List.getD_eq_getElem?_getD]
    · refine ⟨⟨[0, 1, 2], ?_, rfl, ?_, rfl, rfl, rfl, rfl, rfl⟩⟩
      · simp [mvV, mvL, dnV, dnL, PM.getV, h]
      · simp [unf, unfGo, unfB, off, width, L, lay, layPool, newHp, mvO, mvSB, Pulls, pullB, nth, at2, dnL, dnV, mvL, mvV, mvA, mvQ_lt, blt_true, blt_false, RowLe, colI, colB, PM.drop, h]
  · cases hx
def lenP : Prim Rs := fun args hh => match args, hh with
  | [.pointer (some ⟨0, 0, none⟩)], [some (.inr (.inr (.inr (.pool m))))] =>
    some ⟨True, .int .i64 m.held, none, [some (.inr (.inr (.inr (.pool m))))], [], []⟩
  | _, _ => none
theorem len_ok : ConOk D Try.prog 20 (con1 lenP) := by
  refine con1_ok (res_prim (L := L) (D0 := NoR) (fn := Try.f20) (root := codeOf Try.f20) (by kernel_rfl) (by kernel_rfl) (by kernel_rfl) fun args hh x hx => ?_)
  unfold lenP at hx
  split at hx
  · rename_i m
    injection hx with hx
    subst hx
    refine ⟨by first | exact Nat.le_refl _ | exact Nat.zero_le _, noLit rfl, (fun hw => by first | rfl | cases hw), fun _ hv => ?_⟩
    generalize hG : EndsU (R := Rs) (R0 := Empty) _ _ _ = G
    refine rx_ok (T := T0) T0_ok mixed 200 ?_
    refine as_text (q := Post (G (Value.int IntKind.i64 (PM.held m)) [some (Sum.inl (62, [Value.slice (some (Addr.mk 1 0 (some 3000))) (List.length (PM.vs m)) 0, Value.slice (some (Addr.mk 2 0 (some 1000))) (List.length (PM.free m)) 0, Value.int IntKind.i64 (PM.held m), Value.int IntKind.i64 (PM.cap m), Value.int IntKind.i64 (PM.visits m)])), some (Sum.inr (Sum.inl (65, Row.mk [Value.int IntKind.i64 0, Value.int IntKind.i64 0, Value.bool false] (List.length (PM.vs m)) [Col.mk (PM.vs m) [] [], Col.mk (PM.gens m) [] [], Col.mk [] (PM.live m) []]))), some (Sum.inr (Sum.inl (3, Row.mk [Value.int IntKind.i64 0] (List.length (PM.free m)) [Col.mk (PM.free m) [] []])))])) ?_ (by kernel_rfl)
    subst hG
    refine ⟨⟨[0, 1, 2], rfl, rfl, ?_, rfl, rfl, rfl, rfl, rfl⟩⟩
    simp [unf, unfGo, unfB, off, width, L, lay, layPool, newHp, mvO, mvSB, Pulls, pullB, nth, at2, dnL, dnV, mvL, mvV, mvA, mvQ_lt, blt_true, blt_false, RowLe, colI, colB]
  · cases hx
def capP : Prim Rs := fun args hh => match args, hh with
  | [.pointer (some ⟨0, 0, none⟩)], [some (.inr (.inr (.inr (.pool m))))] =>
    some ⟨True, .int .i64 m.cap, none, [some (.inr (.inr (.inr (.pool m))))], [], []⟩
  | _, _ => none
theorem cap_ok : ConOk D Try.prog 22 (con1 capP) := by
  refine con1_ok (res_prim (L := L) (D0 := NoR) (fn := Try.f22) (root := codeOf Try.f22) (by kernel_rfl) (by kernel_rfl) (by kernel_rfl) fun args hh x hx => ?_)
  unfold capP at hx
  split at hx
  · rename_i m
    injection hx with hx
    subst hx
    refine ⟨by first | exact Nat.le_refl _ | exact Nat.zero_le _, noLit rfl, (fun hw => by first | rfl | cases hw), fun _ hv => ?_⟩
    generalize hG : EndsU (R := Rs) (R0 := Empty) _ _ _ = G
    refine rx_ok (T := T0) T0_ok mixed 200 ?_
    refine as_text (q := Post (G (Value.int IntKind.i64 (PM.cap m)) [some (Sum.inl (62, [Value.slice (some (Addr.mk 1 0 (some 3000))) (List.length (PM.vs m)) 0, Value.slice (some (Addr.mk 2 0 (some 1000))) (List.length (PM.free m)) 0, Value.int IntKind.i64 (PM.held m), Value.int IntKind.i64 (PM.cap m), Value.int IntKind.i64 (PM.visits m)])), some (Sum.inr (Sum.inl (65, Row.mk [Value.int IntKind.i64 0, Value.int IntKind.i64 0, Value.bool false] (List.length (PM.vs m)) [Col.mk (PM.vs m) [] [], Col.mk (PM.gens m) [] [], Col.mk [] (PM.live m) []]))), some (Sum.inr (Sum.inl (3, Row.mk [Value.int IntKind.i64 0] (List.length (PM.free m)) [Col.mk (PM.free m) [] []])))])) ?_ (by kernel_rfl)
    subst hG
    refine ⟨⟨[0, 1, 2], rfl, rfl, ?_, rfl, rfl, rfl, rfl, rfl⟩⟩
    simp [unf, unfGo, unfB, off, width, L, lay, layPool, newHp, mvO, mvSB, Pulls, pullB, nth, at2, dnL, dnV, mvL, mvV, mvA, mvQ_lt, blt_true, blt_false, RowLe, colI, colB]
  · cases hx
def visitsP : Prim Rs := fun args hh => match args, hh with
  | [.pointer (some ⟨0, 0, none⟩)], [some (.inr (.inr (.inr (.pool m))))] =>
    some ⟨True, .int .i64 m.visits, none, [some (.inr (.inr (.inr (.pool m))))], [], []⟩
  | _, _ => none
theorem visits_ok : ConOk D Try.prog 23 (con1 visitsP) := by
  refine con1_ok (res_prim (L := L) (D0 := NoR) (fn := Try.f23) (root := codeOf Try.f23) (by kernel_rfl) (by kernel_rfl) (by kernel_rfl) fun args hh x hx => ?_)
  unfold visitsP at hx
  split at hx
  · rename_i m
    injection hx with hx
    subst hx
    refine ⟨by first | exact Nat.le_refl _ | exact Nat.zero_le _, noLit rfl, (fun hw => by first | rfl | cases hw), fun _ hv => ?_⟩
    generalize hG : EndsU (R := Rs) (R0 := Empty) _ _ _ = G
    refine rx_ok (T := T0) T0_ok mixed 200 ?_
    refine as_text (q := Post (G (Value.int IntKind.i64 (PM.visits m)) [some (Sum.inl (62, [Value.slice (some (Addr.mk 1 0 (some 3000))) (List.length (PM.vs m)) 0, Value.slice (some (Addr.mk 2 0 (some 1000))) (List.length (PM.free m)) 0, Value.int IntKind.i64 (PM.held m), Value.int IntKind.i64 (PM.cap m), Value.int IntKind.i64 (PM.visits m)])), some (Sum.inr (Sum.inl (65, Row.mk [Value.int IntKind.i64 0, Value.int IntKind.i64 0, Value.bool false] (List.length (PM.vs m)) [Col.mk (PM.vs m) [] [], Col.mk (PM.gens m) [] [], Col.mk [] (PM.live m) []]))), some (Sum.inr (Sum.inl (3, Row.mk [Value.int IntKind.i64 0] (List.length (PM.free m)) [Col.mk (PM.free m) [] []])))])) ?_ (by kernel_rfl)
    subst hG
    refine ⟨⟨[0, 1, 2], rfl, rfl, ?_, rfl, rfl, rfl, rfl, rfl⟩⟩
    simp [unf, unfGo, unfB, off, width, L, lay, layPool, newHp, mvO, mvSB, Pulls, pullB, nth, at2, dnL, dnV, mvL, mvV, mvA, mvQ_lt, blt_true, blt_false, RowLe, colI, colB]
  · cases hx
end Go.Proofs.Ytloibbakklenbaa.Ar
