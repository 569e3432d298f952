/- arena: visit, by what it does to a pool's lists. -/
import Derived.Test.YtloibbakklenbaaArNext
namespace Go.Proofs.Ytloibbakklenbaa.Ar
open Go.Proofs.Ytloibbakklenbaa.Rx
set_option linter.unusedVariables false
set_option linter.unusedSimpArgs false
set_option maxRecDepth 100000
/-- does a handle live? -/
def hasPM (m : PM) (i g : Int) : Bool := decide (0 ≤ i) && decide (i < m.vs.length) && m.live.getD i.toNat false && decide (m.gens.getD i.toNat 0 = g)
def visitW (args : List Value) (hh : Hp Empty) : Option Bool :=
  match args, toPool hh with
  | [.pointer (some ⟨0, 0, none⟩), .agg ⟨[.int .i64 i, .int .i64 g]⟩], some m => some (hasPM m i g)
  | _, _ => none
def visitY : Prim Empty := fun args hh => match args, toPool hh with
  | [.pointer (some ⟨0, 0, none⟩), .agg ⟨[.int .i64 i, .int .i64 g]⟩], some m => some ⟨hh = layPool m ∧ m.vs.length < 1000000 ∧ m.gens.length = m.vs.length ∧ m.live.length = m.vs.length ∧ fits (m.visits + 1), .pointer (some ⟨1, i.toNat, some 3000⟩), none, layPool { m with visits := m.visits + 1 }, [], [(0, 0)]⟩
  | _, _ => none
def visitN : Prim Empty := fun args hh => match args, toPool hh with
  | [.pointer (some ⟨0, 0, none⟩), .agg ⟨[.int .i64 i, .int .i64 g]⟩], some m => some ⟨hh = layPool m ∧ m.vs.length < 1000000 ∧ m.gens.length = m.vs.length ∧ m.live.length = m.vs.length, .pointer none, none, hh, [], []⟩
  | _, _ => none
def visitC : Con Empty := ⟨visitW, visitY, visitN⟩
theorem visit_ok : ConOk NoR Try.prog 34 visitC := by
  intro b
  refine prim_at (fn := Try.f34) (root := codeOf Try.f34) (by kernel_rfl) (by kernel_rfl) (by kernel_rfl) fun args hh x hx => ?_
  cases b with
  | true =>
    unfold visitC Con.go visitY at hx
    simp only at hx
    split at hx
    · rename_i i g m hm
      injection hx with hx
      subst hx
      refine ⟨by rw [toPool_len hm]; exact Nat.le_refl _, (fun b hb => by cases hb), (fun hw => by cases hw), fun hon hv => ?_⟩
      obtain ⟨rfl, hv, hv3, hv4, hv5⟩ := hv
      have hw : hasPM m i g = true := by
        simp only [way, visitC, visitW, hm] at hon
        simpa using hon
      clear hon
      generalize hG : Rx.Ends (R := Empty) _ _ = G
      refine rx_ok (T := []) trivial mixed 200 ?_
      refine as_text (q := (decide (i < 0) = true → Vc (Value.bool (decide (i < 0)) = Value.bool true) ∧ Post (G (Value.pointer none) [some (Sum.inl (62, [Value.slice (some (Addr.mk 1 0 (some 3000))) (List.length (PM.vs m)) 0, Value.slice (some (Addr.mk 2 0 (some 1000))) (List.length (PM.free m)) 0, Value.int IntKind.i64 (PM.held m), Value.int IntKind.i64 (PM.cap m), Value.int IntKind.i64 (PM.visits m)])), some (Sum.inr (Sum.inl (65, Row.mk [Value.int IntKind.i64 0, Value.int IntKind.i64 0, Value.bool false] (List.length (PM.vs m)) [Col.mk (PM.vs m) [] [], Col.mk (PM.gens m) [] [], Col.mk [] (PM.live m) []]))), some (Sum.inr (Sum.inl (3, Row.mk [Value.int IntKind.i64 0] (List.length (PM.free m)) [Col.mk (PM.free m) [] []]))), some (Sum.inl (30, [Value.int IntKind.i64 i, Value.int IntKind.i64 g]))])) ∧ (decide (i < 0) = false → Vc (Value.bool (decide (i < 0)) = Value.bool false) ∧ (decide (i ≥ (↑(List.length (PM.vs m)) : Int)) = true → Post (G (Value.pointer none) [some (Sum.inl (62, [Value.slice (some (Addr.mk 1 0 (some 3000))) (List.length (PM.vs m)) 0, Value.slice (some (Addr.mk 2 0 (some 1000))) (List.length (PM.free m)) 0, Value.int IntKind.i64 (PM.held m), Value.int IntKind.i64 (PM.cap m), Value.int IntKind.i64 (PM.visits m)])), some (Sum.inr (Sum.inl (65, Row.mk [Value.int IntKind.i64 0, Value.int IntKind.i64 0, Value.bool false] (List.length (PM.vs m)) [Col.mk (PM.vs m) [] [], Col.mk (PM.gens m) [] [], Col.mk [] (PM.live m) []]))), some (Sum.inr (Sum.inl (3, Row.mk [Value.int IntKind.i64 0] (List.length (PM.free m)) [Col.mk (PM.free m) [] []]))), some (Sum.inl (30, [Value.int IntKind.i64 i, Value.int IntKind.i64 g]))])) ∧ (decide (i ≥ (↑(List.length (PM.vs m)) : Int)) = false → Vc (0 ≤ i ∧ i < (↑(List.length (PM.vs m)) : Int) ∧ 0 + List.length (PM.vs m) ≤ List.length (PM.vs m)) ∧ Vc (0 + Int.toNat i < List.length (PM.vs m)) ∧ ((!List.getD (PM.live m) (0 + Int.toNat i) false) = true → Vc (0 + Int.toNat i < List.length (PM.vs m)) ∧ Vc ((Value.bool !List.getD (PM.live m) (0 + Int.toNat i) false) = Value.bool true) ∧ Post (G (Value.pointer none) [some (Sum.inl (62, [Value.slice (some (Addr.mk 1 0 (some 3000))) (List.length (PM.vs m)) 0, Value.slice (some (Addr.mk 2 0 (some 1000))) (List.length (PM.free m)) 0, Value.int IntKind.i64 (PM.held m), Value.int IntKind.i64 (PM.cap m), Value.int IntKind.i64 (PM.visits m)])), some (Sum.inr (Sum.inl (65, Row.mk [Value.int IntKind.i64 0, Value.int IntKind.i64 0, Value.bool false] (List.length (PM.vs m)) [Col.mk (PM.vs m) [] [], Col.mk (PM.gens m) [] [], Col.mk [] (PM.live m) []]))), some (Sum.inr (Sum.inl (3, Row.mk [Value.int IntKind.i64 0] (List.length (PM.free m)) [Col.mk (PM.free m) [] []]))), some (Sum.inl (30, [Value.int IntKind.i64 i, Value.int IntKind.i64 g]))])) ∧ ((!List.getD (PM.live m) (0 + Int.toNat i) false) = false → Vc (0 + Int.toNat i < List.length (PM.vs m)) ∧ Vc ((Value.bool !List.getD (PM.live m) (0 + Int.toNat i) false) = Value.bool false) ∧ Vc (0 + Int.toNat i < List.length (PM.vs m)) ∧ ((List.getD (PM.gens m) (0 + Int.toNat i) 0 != g) = true → Post (G (Value.pointer none) [some (Sum.inl (62, [Value.slice (some (Addr.mk 1 0 (some 3000))) (List.length (PM.vs m)) 0, Value.slice (some (Addr.mk 2 0 (some 1000))) (List.length (PM.free m)) 0, Value.int IntKind.i64 (PM.held m), Value.int IntKind.i64 (PM.cap m), Value.int IntKind.i64 (PM.visits m)])), some (Sum.inr (Sum.inl (65, Row.mk [Value.int IntKind.i64 0, Value.int IntKind.i64 0, Value.bool false] (List.length (PM.vs m)) [Col.mk (PM.vs m) [] [], Col.mk (PM.gens m) [] [], Col.mk [] (PM.live m) []]))), some (Sum.inr (Sum.inl (3, Row.mk [Value.int IntKind.i64 0] (List.length (PM.free m)) [Col.mk (PM.free m) [] []]))), some (Sum.inl (30, [Value.int IntKind.i64 i, Value.int IntKind.i64 g]))])) ∧ ((List.getD (PM.gens m) (0 + Int.toNat i) 0 != g) = false → Vc (fits (PM.visits m + 1)) ∧ Post (G (Value.pointer (some (Addr.mk 1 (0 + Int.toNat i) (some 3000)))) [some (Sum.inl (62, [Value.slice (some (Addr.mk 1 0 (some 3000))) (List.length (PM.vs m)) 0, Value.slice (some (Addr.mk 2 0 (some 1000))) (List.length (PM.free m)) 0, Value.int IntKind.i64 (PM.held m), Value.int IntKind.i64 (PM.cap m), Value.int IntKind.i64 (PM.visits m + 1)])), some (Sum.inr (Sum.inl (65, Row.mk [Value.int IntKind.i64 0, Value.int IntKind.i64 0, Value.bool false] (List.length (PM.vs m)) [Col.mk (PM.vs m) [] [], Col.mk (PM.gens m) [] [], Col.mk [] (PM.live m) []]))), some (Sum.inr (Sum.inl (3, Row.mk [Value.int IntKind.i64 0] (List.length (PM.free m)) [Col.mk (PM.free m) [] []]))), some (Sum.inl (30, [Value.int IntKind.i64 i, Value.int IntKind.i64 g]))])))))) ?_ (by kernel_rfl)
      subst hG
      simp only [hasPM, Bool.and_eq_true, decide_eq_true_eq] at hw
      obtain ⟨⟨⟨w1, w2⟩, w3⟩, w4⟩ := hw
      have e0 : 0 + i.toNat = i.toNat := Nat.zero_add _
      rw [e0]
      refine ⟨fun h => ?_, fun h => ⟨⟨by rw [h]⟩, fun h2 => ?_, fun h2 => ⟨⟨w1, w2, by omega⟩, ⟨by omega⟩, fun h3 => ?_, fun h3 => ⟨⟨by omega⟩, ⟨by rw [h3]⟩, ⟨by omega⟩, fun h4 => ?_, fun h4 => ⟨⟨hv5⟩, ⟨⟨[0, 1, 2], rfl, rfl, ?_, rfl, rfl, rfl, rfl⟩⟩⟩⟩⟩⟩⟩
      · simp at h; omega
      · simp at h2; omega
      · rw [w3] at h3; cases h3
      · rw [w4] at h4; simp at h4
      · simp [layPool, Pulls, pullB, nth, at2, dnL, dnV, mvL, mvV, mvA, mvQ_lt, blt_true, blt_false, RowLe, colI, colB]
    · cases hx
  | false =>
    unfold visitC Con.go visitN at hx
    simp only at hx
    split at hx
    · rename_i i g m hm
      injection hx with hx
      subst hx
      refine ⟨Nat.le_refl _, (fun b hb => by cases hb), (fun hw => rfl), fun hon hv => ?_⟩
      obtain ⟨rfl, hv, hv3, hv4⟩ := hv
      have hw : hasPM m i g = false := by
        simp only [way, visitC, visitW, hm] at hon
        simpa using hon
      clear hon
      generalize hG : Rx.Ends (R := Empty) _ _ = G
      refine rx_ok (T := []) trivial mixed 200 ?_
      refine as_text (q := (decide (i < 0) = true → Vc (Value.bool (decide (i < 0)) = Value.bool true) ∧ Post (G (Value.pointer none) [some (Sum.inl (62, [Value.slice (some (Addr.mk 1 0 (some 3000))) (List.length (PM.vs m)) 0, Value.slice (some (Addr.mk 2 0 (some 1000))) (List.length (PM.free m)) 0, Value.int IntKind.i64 (PM.held m), Value.int IntKind.i64 (PM.cap m), Value.int IntKind.i64 (PM.visits m)])), some (Sum.inr (Sum.inl (65, Row.mk [Value.int IntKind.i64 0, Value.int IntKind.i64 0, Value.bool false] (List.length (PM.vs m)) [Col.mk (PM.vs m) [] [], Col.mk (PM.gens m) [] [], Col.mk [] (PM.live m) []]))), some (Sum.inr (Sum.inl (3, Row.mk [Value.int IntKind.i64 0] (List.length (PM.free m)) [Col.mk (PM.free m) [] []]))), some (Sum.inl (30, [Value.int IntKind.i64 i, Value.int IntKind.i64 g]))])) ∧ (decide (i < 0) = false → Vc (Value.bool (decide (i < 0)) = Value.bool false) ∧ (decide (i ≥ (↑(List.length (PM.vs m)) : Int)) = true → Post (G (Value.pointer none) [some (Sum.inl (62, [Value.slice (some (Addr.mk 1 0 (some 3000))) (List.length (PM.vs m)) 0, Value.slice (some (Addr.mk 2 0 (some 1000))) (List.length (PM.free m)) 0, Value.int IntKind.i64 (PM.held m), Value.int IntKind.i64 (PM.cap m), Value.int IntKind.i64 (PM.visits m)])), some (Sum.inr (Sum.inl (65, Row.mk [Value.int IntKind.i64 0, Value.int IntKind.i64 0, Value.bool false] (List.length (PM.vs m)) [Col.mk (PM.vs m) [] [], Col.mk (PM.gens m) [] [], Col.mk [] (PM.live m) []]))), some (Sum.inr (Sum.inl (3, Row.mk [Value.int IntKind.i64 0] (List.length (PM.free m)) [Col.mk (PM.free m) [] []]))), some (Sum.inl (30, [Value.int IntKind.i64 i, Value.int IntKind.i64 g]))])) ∧ (decide (i ≥ (↑(List.length (PM.vs m)) : Int)) = false → Vc (0 ≤ i ∧ i < (↑(List.length (PM.vs m)) : Int) ∧ 0 + List.length (PM.vs m) ≤ List.length (PM.vs m)) ∧ Vc (0 + Int.toNat i < List.length (PM.vs m)) ∧ ((!List.getD (PM.live m) (0 + Int.toNat i) false) = true → Vc (0 + Int.toNat i < List.length (PM.vs m)) ∧ Vc ((Value.bool !List.getD (PM.live m) (0 + Int.toNat i) false) = Value.bool true) ∧ Post (G (Value.pointer none) [some (Sum.inl (62, [Value.slice (some (Addr.mk 1 0 (some 3000))) (List.length (PM.vs m)) 0, Value.slice (some (Addr.mk 2 0 (some 1000))) (List.length (PM.free m)) 0, Value.int IntKind.i64 (PM.held m), Value.int IntKind.i64 (PM.cap m), Value.int IntKind.i64 (PM.visits m)])), some (Sum.inr (Sum.inl (65, Row.mk [Value.int IntKind.i64 0, Value.int IntKind.i64 0, Value.bool false] (List.length (PM.vs m)) [Col.mk (PM.vs m) [] [], Col.mk (PM.gens m) [] [], Col.mk [] (PM.live m) []]))), some (Sum.inr (Sum.inl (3, Row.mk [Value.int IntKind.i64 0] (List.length (PM.free m)) [Col.mk (PM.free m) [] []]))), some (Sum.inl (30, [Value.int IntKind.i64 i, Value.int IntKind.i64 g]))])) ∧ ((!List.getD (PM.live m) (0 + Int.toNat i) false) = false → Vc (0 + Int.toNat i < List.length (PM.vs m)) ∧ Vc ((Value.bool !List.getD (PM.live m) (0 + Int.toNat i) false) = Value.bool false) ∧ Vc (0 + Int.toNat i < List.length (PM.vs m)) ∧ ((List.getD (PM.gens m) (0 + Int.toNat i) 0 != g) = true → Post (G (Value.pointer none) [some (Sum.inl (62, [Value.slice (some (Addr.mk 1 0 (some 3000))) (List.length (PM.vs m)) 0, Value.slice (some (Addr.mk 2 0 (some 1000))) (List.length (PM.free m)) 0, Value.int IntKind.i64 (PM.held m), Value.int IntKind.i64 (PM.cap m), Value.int IntKind.i64 (PM.visits m)])), some (Sum.inr (Sum.inl (65, Row.mk [Value.int IntKind.i64 0, Value.int IntKind.i64 0, Value.bool false] (List.length (PM.vs m)) [Col.mk (PM.vs m) [] [], Col.mk (PM.gens m) [] [], Col.mk [] (PM.live m) []]))), some (Sum.inr (Sum.inl (3, Row.mk [Value.int IntKind.i64 0] (List.length (PM.free m)) [Col.mk (PM.free m) [] []]))), some (Sum.inl (30, [Value.int IntKind.i64 i, Value.int IntKind.i64 g]))])) ∧ ((List.getD (PM.gens m) (0 + Int.toNat i) 0 != g) = false → Vc (fits (PM.visits m + 1)) ∧ Post (G (Value.pointer (some (Addr.mk 1 (0 + Int.toNat i) (some 3000)))) [some (Sum.inl (62, [Value.slice (some (Addr.mk 1 0 (some 3000))) (List.length (PM.vs m)) 0, Value.slice (some (Addr.mk 2 0 (some 1000))) (List.length (PM.free m)) 0, Value.int IntKind.i64 (PM.held m), Value.int IntKind.i64 (PM.cap m), Value.int IntKind.i64 (PM.visits m + 1)])), some (Sum.inr (Sum.inl (65, Row.mk [Value.int IntKind.i64 0, Value.int IntKind.i64 0, Value.bool false] (List.length (PM.vs m)) [Col.mk (PM.vs m) [] [], Col.mk (PM.gens m) [] [], Col.mk [] (PM.live m) []]))), some (Sum.inr (Sum.inl (3, Row.mk [Value.int IntKind.i64 0] (List.length (PM.free m)) [Col.mk (PM.free m) [] []]))), some (Sum.inl (30, [Value.int IntKind.i64 i, Value.int IntKind.i64 g]))])))))) ?_ (by kernel_rfl)
      subst hG
      have e0 : 0 + i.toNat = i.toNat := Nat.zero_add _
      rw [e0]
      have done : Rx.Ends (R := Empty) 3 ⟨layPool m = layPool m ∧ m.vs.length < 1000000 ∧ m.gens.length = m.vs.length ∧ m.live.length = m.vs.length, .pointer none, none, layPool m, [], []⟩ (Value.pointer none) (layPool m ++ [some (Sum.inl (30, [Value.int IntKind.i64 i, Value.int IntKind.i64 g]))]) := by
        refine ⟨⟨[0, 1, 2], rfl, rfl, ?_, rfl, rfl, rfl, rfl⟩⟩
        simp [layPool, Pulls, pullB, nth, at2, dnL, dnV, mvL, mvV, mvA, mvQ_lt, blt_true, blt_false, RowLe, colI, colB]
      refine ⟨fun h => ⟨⟨by rw [h]⟩, ⟨done⟩⟩, fun h => ⟨⟨by rw [h]⟩, fun h2 => ⟨done⟩, fun h2 => ?_⟩⟩
      have w1 : 0 ≤ i := by simp at h; omega
      have w2 : i < m.vs.length := by simp at h2; omega
      refine ⟨⟨w1, w2, by omega⟩, ⟨by omega⟩, fun h3 => ⟨⟨by omega⟩, ⟨by rw [h3]⟩, ⟨done⟩⟩, fun h3 => ⟨⟨by omega⟩, ⟨by rw [h3]⟩, ⟨by omega⟩, fun h4 => ⟨done⟩, fun h4 => ?_⟩⟩
      simp at h3 h4
      simp [hasPM, w1, w2, h3, h4] at hw
    · cases hx
end Go.Proofs.Ytloibbakklenbaa.Ar
