/- arena: next, by what it does to a pool of items. -/
import Derived.Test.YtloibbakklenbaaArAwake
namespace Go.Proofs.Ytloibbakklenbaa.Ar
open Go.Proofs.Ytloibbakklenbaa.Rx
set_option linter.unusedVariables false
set_option linter.unusedSimpArgs false
set_option maxRecDepth 100000
def toItems : Hp Empty → Option IM
  | [some (.inl (_, [.slice _ _ _, .slice _ _ _, .int _ hd, .int _ cp, .int _ vi])), some (.inr (.inl (_, ⟨_, _, [c0, c1, c2, c3]⟩))), some (.inr (.inl (_, ⟨_, _, [c4]⟩)))] => some ⟨c0.i, c1.i, c2.i, c3.b, c4.i, hd, cp, vi⟩
  | _ => none
theorem toItems_len {hh : Hp Empty} {m : IM} (h : toItems hh = some m) : hh.length = 3 := by
  unfold toItems at h
  split at h
  · rfl
  · cases h
/-- the cell for a value -/
def nextIdxI (m : IM) : Int := if m.free.length = 0 then (m.ks.length : Int) else m.free.getD (m.free.length - 1) 0
def nextIM (m : IM) : IM := if m.free.length = 0 then { m with ks := m.ks ++ [0], ids := m.ids ++ [0], gens := m.gens ++ [0], live := m.live ++ [false] } else { m with free := m.free.take (m.free.length - 1) }
/-- a pool whose cells lie elsewhere -/
def layItems' (m : IM) : Hp Empty :=
  [some (.inl (70, [.slice (some ⟨3, 0, some 4000⟩) m.ks.length 0, .slice (some ⟨2, 0, some 1000⟩) m.free.length 0, .int .i64 m.held, .int .i64 m.cap, .int .i64 m.visits])),
   none,
   some (.inr (.inl (3, ⟨[.int .i64 0], m.free.length, [colI m.free]⟩))),
   some (.inr (.inl (73, ⟨[.int .i64 0, .int .i64 0, .int .i64 0, .bool false], m.ks.length, [colI m.ks, colI m.ids, colI m.gens, colB m.live]⟩)))]
def inextP : Prim Empty := fun args hh => match args, toItems hh with
  | [.pointer (some ⟨0, 0, none⟩)], some m => some ⟨hh = layItems m ∧ m.ks.length < 1000000 ∧ m.free.length < 1000000 ∧ m.ids.length = m.ks.length ∧ m.gens.length = m.ks.length ∧ m.live.length = m.ks.length, .int .i64 (nextIdxI m), none, layItems' (nextIM m), [], [(0, 0)]⟩
  | _, _ => none
theorem inext_ok : ConOk NoR Try.prog 36 (con1 inextP) := by
  refine con1_ok (prim_at (fn := Try.f36) (root := codeOf Try.f36) (by kernel_rfl) (by kernel_rfl) (by kernel_rfl) fun args hh x hx => ?_)
  unfold inextP at hx
  split at hx
  · rename_i m hm
    injection hx with hx
    subst hx
    refine ⟨by rw [toItems_len hm]; exact Nat.le_succ _, (fun b hb => by cases hb), (fun hw => by cases hw), fun _ hv => ?_⟩
    obtain ⟨rfl, hv, hv2, hv5, hv3, hv4⟩ := hv
    refine rx_ok (T := []) trivial mixed 200 ?_
    refine as_text (q := Vc (fits ((↑(List.length (IM.free m)) : Int) - (1 : Int))) ∧ (decide ((↑(List.length (IM.free m)) : Int) - (1 : Int) < (0 : Int)) = true → Vc (0 + List.length (IM.ks m) ≤ List.length (IM.ks m) ∧ 1 ≤ 1 ∧ (List.length (IM.ks m) + 1) * 32 ≤ 140737488355328 ∧ List.length (IM.ks m) + 1 ≤ 140737488355328) ∧ Vc (fits ((↑(List.length (IM.ks m) + 1) : Int) - (1 : Int))) ∧ Post (Rx.Ends 3 (Out.mk (layItems m = layItems m ∧ List.length (IM.ks m) < 1000000 ∧ List.length (IM.free m) < 1000000 ∧ List.length (IM.ids m) = List.length (IM.ks m) ∧ List.length (IM.gens m) = List.length (IM.ks m) ∧ List.length (IM.live m) = List.length (IM.ks m)) (Value.int IntKind.i64 (nextIdxI m)) none (layItems' (nextIM m)) [] [(0, 0)]) (Value.int IntKind.i64 ((↑(List.length (IM.ks m) + 1) : Int) - (1 : Int))) [some (Sum.inl (70, [Value.slice (some (Addr.mk 4 0 (some 4000))) (List.length (IM.ks m) + 1) 0, Value.slice (some (Addr.mk 2 0 (some 1000))) (List.length (IM.free m)) 0, Value.int IntKind.i64 (IM.held m), Value.int IntKind.i64 (IM.cap m), Value.int IntKind.i64 (IM.visits m)])), none, some (Sum.inr (Sum.inl (3, Row.mk [Value.int IntKind.i64 0] (List.length (IM.free m)) [Col.mk (IM.free m) [] []]))), some (Sum.inr (Sum.inl (73, Row.mk [Value.int IntKind.i64 0, Value.int IntKind.i64 0, Value.int IntKind.i64 0, Value.bool false] 1 [Col.mk [(0 : Int)] [] [], Col.mk [(0 : Int)] [] [], Col.mk [(0 : Int)] [] [], Col.mk [] [false] []]))), some (Sum.inr (Sum.inl (73, Row.mk [Value.int IntKind.i64 0, Value.int IntKind.i64 0, Value.int IntKind.i64 0, Value.bool false] (List.length (IM.ks m) + 1) [Col.mk (cut (IM.ks m) 0 (List.length (IM.ks m)) ++ [(0 : Int)]) [] [], Col.mk (cut (IM.ids m) 0 (List.length (IM.ks m)) ++ [(0 : Int)]) [] [], Col.mk (cut (IM.gens m) 0 (List.length (IM.ks m)) ++ [(0 : Int)]) [] [], Col.mk [] (cut (IM.live m) 0 (List.length (IM.ks m)) ++ [false]) []])))])) ∧ (decide ((↑(List.length (IM.free m)) : Int) - (1 : Int) < (0 : Int)) = false → Vc ((0 : Int) ≤ (↑(List.length (IM.free m)) : Int) - (1 : Int) ∧ (↑(List.length (IM.free m)) : Int) - (1 : Int) < (↑(List.length (IM.free m)) : Int) ∧ 0 + List.length (IM.free m) ≤ List.length (IM.free m)) ∧ Vc (0 + Int.toNat ((↑(List.length (IM.free m)) : Int) - (1 : Int)) < List.length (IM.free m)) ∧ Vc ((0 : Int) ≤ (↑(List.length (IM.free m)) : Int) - (1 : Int) ∧ (↑(List.length (IM.free m)) : Int) - (1 : Int) ≤ (↑(List.length (IM.free m)) : Int) ∧ 0 + List.length (IM.free m) ≤ List.length (IM.free m)) ∧ Post (Rx.Ends 3 (Out.mk (layItems m = layItems m ∧ List.length (IM.ks m) < 1000000 ∧ List.length (IM.free m) < 1000000 ∧ List.length (IM.ids m) = List.length (IM.ks m) ∧ List.length (IM.gens m) = List.length (IM.ks m) ∧ List.length (IM.live m) = List.length (IM.ks m)) (Value.int IntKind.i64 (nextIdxI m)) none (layItems' (nextIM m)) [] [(0, 0)]) (Value.int IntKind.i64 (List.getD (IM.free m) (0 + Int.toNat ((↑(List.length (IM.free m)) : Int) - (1 : Int))) (0 : Int))) [some (Sum.inl (70, [Value.slice (some (Addr.mk 1 0 (some 4000))) (List.length (IM.ks m)) 0, Value.slice (some (Addr.mk 2 0 (some 1000))) (Int.toNat ((↑(List.length (IM.free m)) : Int) - (1 : Int))) 0, Value.int IntKind.i64 (IM.held m), Value.int IntKind.i64 (IM.cap m), Value.int IntKind.i64 (IM.visits m)])), some (Sum.inr (Sum.inl (73, Row.mk [Value.int IntKind.i64 0, Value.int IntKind.i64 0, Value.int IntKind.i64 0, Value.bool false] (List.length (IM.ks m)) [Col.mk (IM.ks m) [] [], Col.mk (IM.ids m) [] [], Col.mk (IM.gens m) [] [], Col.mk [] (IM.live m) []]))), some (Sum.inr (Sum.inl (3, Row.mk [Value.int IntKind.i64 0] (List.length (IM.free m)) [Col.mk (IM.free m) [] []])))]))) ?_ (by kernel_rfl)
    refine ⟨⟨⟨by omega, by omega⟩⟩, fun h => ?_, fun h => ?_⟩
    · have h0 : m.free.length = 0 := by simp at h; omega
      refine ⟨⟨by omega, by omega, by omega, by omega⟩, ⟨⟨by omega, by omega⟩⟩, ⟨⟨[0, 1, 2, 4], ?_, rfl, ?_, rfl, rfl, rfl, rfl⟩⟩⟩
      · simp [dnV, mvV, nextIdxI, h0]
      · simp [layItems', nextIM, h0, Pulls, pullB, nth, at2, dnL, dnV, mvL, mvV, mvA, mvQ_lt, blt_true, blt_false, RowLe, colI, colB]
        left
        rw [cut_eq hv3, cut_eq hv4, cut_eq hv5]
        exact ⟨rfl, rfl, rfl⟩
    · have h0 : ¬ m.free.length = 0 := by simp at h; omega
      have e1 : (0 + Int.toNat (↑(List.length (IM.free m)) - 1)) = m.free.length - 1 := by omega
      have e2 : Int.toNat (↑(List.length (IM.free m)) - 1) = m.free.length - 1 := by omega
      refine ⟨⟨by omega, by omega, by omega⟩, ⟨by omega⟩, ⟨by omega, by omega, by omega⟩, ⟨⟨[0, 1, 2, 1], ?_, rfl, ?_, rfl, rfl, rfl, rfl⟩⟩⟩
      · simp [dnV, mvV, nextIdxI, h0, e1]
      · simp [layItems', nextIM, h0, Pulls, pullB, nth, at2, dnL, dnV, mvL, mvV, mvA, mvQ_lt, blt_true, blt_false, RowLe, colI, colB, e2]
        right
        exact ⟨rfl, Nat.sub_le _ _, by simp [headCol]⟩
  · cases hx
end Go.Proofs.Ytloibbakklenbaa.Ar
