/- arena: next and visit, by what they do to a pool's lists. -/
import Derived.Test.YtloibbakklenbaaArRes
namespace Go.Proofs.Ytloibbakklenbaa.Ar
open Go.Proofs.Ytloibbakklenbaa.Rx
set_option linter.unusedVariables false
set_option linter.unusedSimpArgs false
set_option maxRecDepth 100000
def toPool : Hp Empty → Option PM
  | [some (.inl (_, [.slice _ _ _, .slice _ _ _, .int _ hd, .int _ cp, .int _ vi])), some (.inr (.inl (_, ⟨_, _, [c1, c2, c3]⟩))), some (.inr (.inl (_, ⟨_, _, [c4]⟩)))] => some ⟨c1.i, c2.i, c3.b, c4.i, hd, cp, vi⟩
  | _ => none
theorem toPool_len {hh : Hp Empty} {m : PM} (h : toPool hh = some m) : hh.length = 3 := by
  unfold toPool at h
  split at h
  · rfl
  · cases h
/-- the cell for a value -/
def nextIdx (m : PM) : Int := if m.free.length = 0 then (m.vs.length : Int) else m.free.getD (m.free.length - 1) 0
def nextPM (m : PM) : PM := if m.free.length = 0 then { m with vs := m.vs ++ [0], gens := m.gens ++ [0], live := m.live ++ [false] } else { m with free := m.free.take (m.free.length - 1) }
/-- a pool whose cells lie elsewhere -/
def layPool' (m : PM) : Hp Empty :=
  [some (.inl (62, [.slice (some ⟨3, 0, some 3000⟩) m.vs.length 0, .slice (some ⟨2, 0, some 1000⟩) m.free.length 0, .int .i64 m.held, .int .i64 m.cap, .int .i64 m.visits])),
   none,
   some (.inr (.inl (3, ⟨[.int .i64 0], m.free.length, [colI m.free]⟩))),
   some (.inr (.inl (65, ⟨[.int .i64 0, .int .i64 0, .bool false], m.vs.length, [colI m.vs, colI m.gens, colB m.live]⟩)))]
def nextP : Prim Empty := fun args hh => match args, toPool hh with
  | [.pointer (some ⟨0, 0, none⟩)], some m => some ⟨hh = layPool m ∧ m.vs.length < 1000000 ∧ m.free.length < 1000000 ∧ m.gens.length = m.vs.length ∧ m.live.length = m.vs.length, .int .i64 (nextIdx m), none, layPool' (nextPM m), [], [(0, 0)]⟩
  | _, _ => none
theorem next_ok : ConOk NoR Try.prog 33 (con1 nextP) := by
  refine con1_ok (prim_at (fn := Try.f33) (root := codeOf Try.f33) (by kernel_rfl) (by kernel_rfl) (by kernel_rfl) fun args hh x hx => ?_)
  unfold nextP at hx
  split at hx
  · rename_i m hm
    injection hx with hx
    subst hx
    refine ⟨by rw [toPool_len hm]; exact Nat.le_succ _, (fun b hb => by cases hb), (fun hw => by cases hw), fun _ hv => ?_⟩
    obtain ⟨rfl, hv, hv2, hv3, hv4⟩ := hv
    refine rx_ok (T := []) trivial mixed 200 ?_
    refine as_text (q := Vc (fits ((↑(List.length (PM.free m)) : Int) - 1)) ∧ (decide ((↑(List.length (PM.free m)) : Int) - 1 < 0) = true → Vc (0 + List.length (PM.vs m) ≤ List.length (PM.vs m) ∧ 1 ≤ 1 ∧ (List.length (PM.vs m) + 1) * 24 ≤ 140737488355328 ∧ List.length (PM.vs m) + 1 ≤ 140737488355328) ∧ Vc (fits ((↑(List.length (PM.vs m) + 1) : Int) - 1)) ∧ Post (Rx.Ends 3 (Out.mk (layPool m = layPool m ∧ List.length (PM.vs m) < 1000000 ∧ List.length (PM.free m) < 1000000 ∧ List.length (PM.gens m) = List.length (PM.vs m) ∧ List.length (PM.live m) = List.length (PM.vs m)) (Value.int IntKind.i64 (nextIdx m)) none (layPool' (nextPM m)) [] [(0, 0)]) (Value.int IntKind.i64 ((↑(List.length (PM.vs m) + 1) : Int) - 1)) [some (Sum.inl (62, [Value.slice (some (Addr.mk 4 0 (some 3000))) (List.length (PM.vs m) + 1) 0, Value.slice (some (Addr.mk 2 0 (some 1000))) (List.length (PM.free m)) 0, Value.int IntKind.i64 (PM.held m), Value.int IntKind.i64 (PM.cap m), Value.int IntKind.i64 (PM.visits m)])), none, some (Sum.inr (Sum.inl (3, Row.mk [Value.int IntKind.i64 0] (List.length (PM.free m)) [Col.mk (PM.free m) [] []]))), some (Sum.inr (Sum.inl (65, Row.mk [Value.int IntKind.i64 0, Value.int IntKind.i64 0, Value.bool false] 1 [Col.mk [0] [] [], Col.mk [0] [] [], Col.mk [] [false] []]))), some (Sum.inr (Sum.inl (65, Row.mk [Value.int IntKind.i64 0, Value.int IntKind.i64 0, Value.bool false] (List.length (PM.vs m) + 1) [Col.mk (cut (PM.vs m) 0 (List.length (PM.vs m)) ++ cut [0] 0 1) [] [], Col.mk (cut (PM.gens m) 0 (List.length (PM.vs m)) ++ cut [0] 0 1) [] [], Col.mk [] (cut (PM.live m) 0 (List.length (PM.vs m)) ++ cut [false] 0 1) []])))])) ∧ (decide ((↑(List.length (PM.free m)) : Int) - 1 < 0) = false → Vc (0 ≤ (↑(List.length (PM.free m)) : Int) - 1 ∧ (↑(List.length (PM.free m)) : Int) - 1 < (↑(List.length (PM.free m)) : Int) ∧ 0 + List.length (PM.free m) ≤ List.length (PM.free m)) ∧ Vc (0 + Int.toNat ((↑(List.length (PM.free m)) : Int) - 1) < List.length (PM.free m)) ∧ Vc (0 ≤ (↑(List.length (PM.free m)) : Int) - 1 ∧ (↑(List.length (PM.free m)) : Int) - 1 ≤ (↑(List.length (PM.free m)) : Int) ∧ 0 + List.length (PM.free m) ≤ List.length (PM.free m)) ∧ Post (Rx.Ends 3 (Out.mk (layPool m = layPool m ∧ List.length (PM.vs m) < 1000000 ∧ List.length (PM.free m) < 1000000 ∧ List.length (PM.gens m) = List.length (PM.vs m) ∧ List.length (PM.live m) = List.length (PM.vs m)) (Value.int IntKind.i64 (nextIdx m)) none (layPool' (nextPM m)) [] [(0, 0)]) (Value.int IntKind.i64 (List.getD (PM.free m) (0 + Int.toNat ((↑(List.length (PM.free m)) : Int) - 1)) 0)) [some (Sum.inl (62, [Value.slice (some (Addr.mk 1 0 (some 3000))) (List.length (PM.vs m)) 0, Value.slice (some (Addr.mk 2 0 (some 1000))) (Int.toNat ((↑(List.length (PM.free m)) : Int) - 1)) 0, Value.int IntKind.i64 (PM.held m), Value.int IntKind.i64 (PM.cap m), Value.int IntKind.i64 (PM.visits m)])), some (Sum.inr (Sum.inl (65, Row.mk [Value.int IntKind.i64 0, Value.int IntKind.i64 0, Value.bool false] (List.length (PM.vs m)) [Col.mk (PM.vs m) [] [], Col.mk (PM.gens m) [] [], Col.mk [] (PM.live m) []]))), some (Sum.inr (Sum.inl (3, Row.mk [Value.int IntKind.i64 0] (List.length (PM.free m)) [Col.mk (PM.free m) [] []])))]))) ?_ (by kernel_rfl)
    refine ⟨⟨⟨by omega, by omega⟩⟩, fun h => ?_, fun h => ?_⟩
    · have h0 : m.free.length = 0 := by simp at h; omega
      refine ⟨⟨by omega, by omega, by omega, by omega⟩, ⟨⟨by omega, by omega⟩⟩, ⟨⟨[0, 1, 2, 4], ?_, rfl, ?_, rfl, rfl, rfl, rfl⟩⟩⟩
      · simp [dnV, mvV, nextIdx, h0]
      · simp [layPool', nextPM, h0, Pulls, pullB, nth, at2, dnL, dnV, mvL, mvV, mvA, mvQ_lt, blt_true, blt_false, RowLe, colI, colB]
        left
        rw [cut_eq hv3, cut_eq hv4]
        exact ⟨rfl, rfl, rfl⟩
    · have h0 : ¬ m.free.length = 0 := by simp at h; omega
      have e1 : (0 + Int.toNat (↑(List.length (PM.free m)) - 1)) = m.free.length - 1 := by omega
      have e2 : Int.toNat (↑(List.length (PM.free m)) - 1) = m.free.length - 1 := by omega
      refine ⟨⟨by omega, by omega, by omega⟩, ⟨by omega⟩, ⟨by omega, by omega, by omega⟩, ⟨⟨[0, 1, 2, 1], ?_, rfl, ?_, rfl, rfl, rfl, rfl⟩⟩⟩
      · simp [dnV, mvV, nextIdx, h0, e1]
      · simp [layPool', nextPM, h0, Pulls, pullB, nth, at2, dnL, dnV, mvL, mvV, mvA, mvQ_lt, blt_true, blt_false, RowLe, colI, colB, e2]
        right
        exact ⟨rfl, Nat.sub_le _ _, by simp [headCol]⟩
  · cases hx
end Go.Proofs.Ytloibbakklenbaa.Ar
