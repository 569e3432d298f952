/- arena: visit, by what it does to a pool of items. -/
import Derived.Test.YtloibbakklenbaaArINext
namespace Go.Proofs.Ytloibbakklenbaa.Ar
open Go.Proofs.Ytloibbakklenbaa.Rx
set_option linter.unusedVariables false
set_option linter.unusedSimpArgs false
set_option maxRecDepth 100000
/-- does a handle live? -/
def hasIM (m : IM) (i g : Int) : Bool := decide (0 ≤ i) && decide (i < m.ks.length) && m.live.getD i.toNat false && decide (m.gens.getD i.toNat 0 = g)
def ivisitW (args : List Value) (hh : Hp Empty) : Option Bool :=
  match args, toItems hh with
  | [.pointer (some ⟨0, 0, none⟩), .agg ⟨[.int .i64 i, .int .i64 g]⟩], some m => some (hasIM m i g)
  | _, _ => none
def ivisitY : Prim Empty := fun args hh => match args, toItems hh with
  | [.pointer (some ⟨0, 0, none⟩), .agg ⟨[.int .i64 i, .int .i64 g]⟩], some m => some ⟨hh = layItems m ∧ m.ks.length < 1000000 ∧ m.ids.length = m.ks.length ∧ m.gens.length = m.ks.length ∧ m.live.length = m.ks.length ∧ fits (m.visits + 1), .pointer (some ⟨1, i.toNat, some 4000⟩), none, layItems { m with visits := m.visits + 1 }, [], [(0, 0)]⟩
  | _, _ => none
def ivisitN : Prim Empty := fun args hh => match args, toItems hh with
  | [.pointer (some ⟨0, 0, none⟩), .agg ⟨[.int .i64 i, .int .i64 g]⟩], some m => some ⟨hh = layItems m ∧ m.ks.length < 1000000 ∧ m.ids.length = m.ks.length ∧ m.gens.length = m.ks.length ∧ m.live.length = m.ks.length, .pointer none, none, hh, [], []⟩
  | _, _ => none
def ivisitC : Con Empty := ⟨ivisitW, ivisitY, ivisitN⟩
theorem ivisit_ok : ConOk NoR Try.prog 37 ivisitC := by
  intro b
  refine prim_at (fn := Try.f37) (root := codeOf Try.f37) (by kernel_rfl) (by kernel_rfl) (by kernel_rfl) fun args hh x hx => ?_
  cases b with
  | true =>
    unfold ivisitC Con.go ivisitY at hx
    simp only at hx
    split at hx
    · rename_i i g m hm
      injection hx with hx
      subst hx
      refine ⟨by rw [toItems_len hm]; exact Nat.le_refl _, (fun b hb => by cases hb), (fun hw => by cases hw), fun hon hv => ?_⟩
      obtain ⟨rfl, hv, hv6, hv3, hv4, hv5⟩ := hv
      have hw : hasIM m i g = true := by
        simp only [way, ivisitC, ivisitW, hm] at hon
        simpa using hon
      clear hon
      generalize hG : Rx.Ends (R := Empty) _ _ = G
      refine rx_ok (T := []) trivial mixed 200 ?_
      refine as_text (q := (decide (i < (0 : Int)) = true → Vc (Value.bool (decide (i < (0 : Int))) = Value.bool true) ∧ Post (G (Value.pointer none) [some (Sum.inl (70, [Value.slice (some (Addr.mk 1 0 (some 4000))) (List.length (IM.ks m)) 0, Value.slice (some (Addr.mk 2 0 (some 1000))) (List.length (IM.free m)) 0, Value.int IntKind.i64 (IM.held m), Value.int IntKind.i64 (IM.cap m), Value.int IntKind.i64 (IM.visits m)])), some (Sum.inr (Sum.inl (73, Row.mk [Value.int IntKind.i64 0, Value.int IntKind.i64 0, Value.int IntKind.i64 0, Value.bool false] (List.length (IM.ks m)) [Col.mk (IM.ks m) [] [], Col.mk (IM.ids m) [] [], Col.mk (IM.gens m) [] [], Col.mk [] (IM.live m) []]))), some (Sum.inr (Sum.inl (3, Row.mk [Value.int IntKind.i64 0] (List.length (IM.free m)) [Col.mk (IM.free m) [] []]))), some (Sum.inl (30, [Value.int IntKind.i64 i, Value.int IntKind.i64 g]))])) ∧ (decide (i < (0 : Int)) = false → Vc (Value.bool (decide (i < (0 : Int))) = Value.bool false) ∧ (decide (i ≥ (↑(List.length (IM.ks m)) : Int)) = true → Post (G (Value.pointer none) [some (Sum.inl (70, [Value.slice (some (Addr.mk 1 0 (some 4000))) (List.length (IM.ks m)) 0, Value.slice (some (Addr.mk 2 0 (some 1000))) (List.length (IM.free m)) 0, Value.int IntKind.i64 (IM.held m), Value.int IntKind.i64 (IM.cap m), Value.int IntKind.i64 (IM.visits m)])), some (Sum.inr (Sum.inl (73, Row.mk [Value.int IntKind.i64 0, Value.int IntKind.i64 0, Value.int IntKind.i64 0, Value.bool false] (List.length (IM.ks m)) [Col.mk (IM.ks m) [] [], Col.mk (IM.ids m) [] [], Col.mk (IM.gens m) [] [], Col.mk [] (IM.live m) []]))), some (Sum.inr (Sum.inl (3, Row.mk [Value.int IntKind.i64 0] (List.length (IM.free m)) [Col.mk (IM.free m) [] []]))), some (Sum.inl (30, [Value.int IntKind.i64 i, Value.int IntKind.i64 g]))])) ∧ (decide (i ≥ (↑(List.length (IM.ks m)) : Int)) = false → Vc ((0 : Int) ≤ i ∧ i < (↑(List.length (IM.ks m)) : Int) ∧ 0 + List.length (IM.ks m) ≤ List.length (IM.ks m)) ∧ Vc (0 + Int.toNat i < List.length (IM.ks m)) ∧ ((!List.getD (IM.live m) (0 + Int.toNat i) false) = true → Vc (0 + Int.toNat i < List.length (IM.ks m)) ∧ Vc ((Value.bool !List.getD (IM.live m) (0 + Int.toNat i) false) = Value.bool true) ∧ Post (G (Value.pointer none) [some (Sum.inl (70, [Value.slice (some (Addr.mk 1 0 (some 4000))) (List.length (IM.ks m)) 0, Value.slice (some (Addr.mk 2 0 (some 1000))) (List.length (IM.free m)) 0, Value.int IntKind.i64 (IM.held m), Value.int IntKind.i64 (IM.cap m), Value.int IntKind.i64 (IM.visits m)])), some (Sum.inr (Sum.inl (73, Row.mk [Value.int IntKind.i64 0, Value.int IntKind.i64 0, Value.int IntKind.i64 0, Value.bool false] (List.length (IM.ks m)) [Col.mk (IM.ks m) [] [], Col.mk (IM.ids m) [] [], Col.mk (IM.gens m) [] [], Col.mk [] (IM.live m) []]))), some (Sum.inr (Sum.inl (3, Row.mk [Value.int IntKind.i64 0] (List.length (IM.free m)) [Col.mk (IM.free m) [] []]))), some (Sum.inl (30, [Value.int IntKind.i64 i, Value.int IntKind.i64 g]))])) ∧ ((!List.getD (IM.live m) (0 + Int.toNat i) false) = false → Vc (0 + Int.toNat i < List.length (IM.ks m)) ∧ Vc ((Value.bool !List.getD (IM.live m) (0 + Int.toNat i) false) = Value.bool false) ∧ Vc (0 + Int.toNat i < List.length (IM.ks m)) ∧ ((List.getD (IM.gens m) (0 + Int.toNat i) (0 : Int) != g) = true → Post (G (Value.pointer none) [some (Sum.inl (70, [Value.slice (some (Addr.mk 1 0 (some 4000))) (List.length (IM.ks m)) 0, Value.slice (some (Addr.mk 2 0 (some 1000))) (List.length (IM.free m)) 0, Value.int IntKind.i64 (IM.held m), Value.int IntKind.i64 (IM.cap m), Value.int IntKind.i64 (IM.visits m)])), some (Sum.inr (Sum.inl (73, Row.mk [Value.int IntKind.i64 0, Value.int IntKind.i64 0, Value.int IntKind.i64 0, Value.bool false] (List.length (IM.ks m)) [Col.mk (IM.ks m) [] [], Col.mk (IM.ids m) [] [], Col.mk (IM.gens m) [] [], Col.mk [] (IM.live m) []]))), some (Sum.inr (Sum.inl (3, Row.mk [Value.int IntKind.i64 0] (List.length (IM.free m)) [Col.mk (IM.free m) [] []]))), some (Sum.inl (30, [Value.int IntKind.i64 i, Value.int IntKind.i64 g]))])) ∧ ((List.getD (IM.gens m) (0 + Int.toNat i) (0 : Int) != g) = false → Vc (fits (IM.visits m + (1 : Int))) ∧ Post (G (Value.pointer (some (Addr.mk 1 (0 + Int.toNat i) (some 4000)))) [some (Sum.inl (70, [Value.slice (some (Addr.mk 1 0 (some 4000))) (List.length (IM.ks m)) 0, Value.slice (some (Addr.mk 2 0 (some 1000))) (List.length (IM.free m)) 0, Value.int IntKind.i64 (IM.held m), Value.int IntKind.i64 (IM.cap m), Value.int IntKind.i64 (IM.visits m + (1 : Int))])), some (Sum.inr (Sum.inl (73, Row.mk [Value.int IntKind.i64 0, Value.int IntKind.i64 0, Value.int IntKind.i64 0, Value.bool false] (List.length (IM.ks m)) [Col.mk (IM.ks m) [] [], Col.mk (IM.ids m) [] [], Col.mk (IM.gens m) [] [], Col.mk [] (IM.live m) []]))), some (Sum.inr (Sum.inl (3, Row.mk [Value.int IntKind.i64 0] (List.length (IM.free m)) [Col.mk (IM.free m) [] []]))), some (Sum.inl (30, [Value.int IntKind.i64 i, Value.int IntKind.i64 g]))])))))) ?_ (by kernel_rfl)
      subst hG
      simp only [hasIM, Bool.and_eq_true, decide_eq_true_eq] at hw
      obtain ⟨⟨⟨w1, w2⟩, w3⟩, w4⟩ := hw
      have e0 : 0 + i.toNat = i.toNat := Nat.zero_add _
      rw [e0]
      refine ⟨fun h => ?_, fun h => ⟨⟨by rw [h]⟩, fun h2 => ?_, fun h2 => ⟨⟨w1, w2, by omega⟩, ⟨by omega⟩, fun h3 => ?_, fun h3 => ⟨⟨by omega⟩, ⟨by rw [h3]⟩, ⟨by omega⟩, fun h4 => ?_, fun h4 => ⟨⟨hv5⟩, ⟨⟨[0, 1, 2], rfl, rfl, ?_, rfl, rfl, rfl, rfl⟩⟩⟩⟩⟩⟩⟩
      · simp at h; omega
      · simp at h2; omega
      · rw [w3] at h3; cases h3
      · rw [w4] at h4; simp at h4
      · simp [layItems, Pulls, pullB, nth, at2, dnL, dnV, mvL, mvV, mvA, mvQ_lt, blt_true, blt_false, RowLe, colI, colB]
    · cases hx
  | false =>
    unfold ivisitC Con.go ivisitN at hx
    simp only at hx
    split at hx
    · rename_i i g m hm
      injection hx with hx
      subst hx
      refine ⟨Nat.le_refl _, (fun b hb => by cases hb), (fun hw => rfl), fun hon hv => ?_⟩
      obtain ⟨rfl, hv, hv6, hv3, hv4⟩ := hv
      have hw : hasIM m i g = false := by
        simp only [way, ivisitC, ivisitW, hm] at hon
        simpa using hon
      clear hon
      generalize hG : Rx.Ends (R := Empty) _ _ = G
      refine rx_ok (T := []) trivial mixed 200 ?_
      refine as_text (q := (decide (i < (0 : Int)) = true → Vc (Value.bool (decide (i < (0 : Int))) = Value.bool true) ∧ Post (G (Value.pointer none) [some (Sum.inl (70, [Value.slice (some (Addr.mk 1 0 (some 4000))) (List.length (IM.ks m)) 0, Value.slice (some (Addr.mk 2 0 (some 1000))) (List.length (IM.free m)) 0, Value.int IntKind.i64 (IM.held m), Value.int IntKind.i64 (IM.cap m), Value.int IntKind.i64 (IM.visits m)])), some (Sum.inr (Sum.inl (73, Row.mk [Value.int IntKind.i64 0, Value.int IntKind.i64 0, Value.int IntKind.i64 0, Value.bool false] (List.length (IM.ks m)) [Col.mk (IM.ks m) [] [], Col.mk (IM.ids m) [] [], Col.mk (IM.gens m) [] [], Col.mk [] (IM.live m) []]))), some (Sum.inr (Sum.inl (3, Row.mk [Value.int IntKind.i64 0] (List.length (IM.free m)) [Col.mk (IM.free m) [] []]))), some (Sum.inl (30, [Value.int IntKind.i64 i, Value.int IntKind.i64 g]))])) ∧ (decide (i < (0 : Int)) = false → Vc (Value.bool (decide (i < (0 : Int))) = Value.bool false) ∧ (decide (i ≥ (↑(List.length (IM.ks m)) : Int)) = true → Post (G (Value.pointer none) [some (Sum.inl (70, [Value.slice (some (Addr.mk 1 0 (some 4000))) (List.length (IM.ks m)) 0, Value.slice (some (Addr.mk 2 0 (some 1000))) (List.length (IM.free m)) 0, Value.int IntKind.i64 (IM.held m), Value.int IntKind.i64 (IM.cap m), Value.int IntKind.i64 (IM.visits m)])), some (Sum.inr (Sum.inl (73, Row.mk [Value.int IntKind.i64 0, Value.int IntKind.i64 0, Value.int IntKind.i64 0, Value.bool false] (List.length (IM.ks m)) [Col.mk (IM.ks m) [] [], Col.mk (IM.ids m) [] [], Col.mk (IM.gens m) [] [], Col.mk [] (IM.live m) []]))), some (Sum.inr (Sum.inl (3, Row.mk [Value.int IntKind.i64 0] (List.length (IM.free m)) [Col.mk (IM.free m) [] []]))), some (Sum.inl (30, [Value.int IntKind.i64 i, Value.int IntKind.i64 g]))])) ∧ (decide (i ≥ (↑(List.length (IM.ks m)) : Int)) = false → Vc ((0 : Int) ≤ i ∧ i < (↑(List.length (IM.ks m)) : Int) ∧ 0 + List.length (IM.ks m) ≤ List.length (IM.ks m)) ∧ Vc (0 + Int.toNat i < List.length (IM.ks m)) ∧ ((!List.getD (IM.live m) (0 + Int.toNat i) false) = true → Vc (0 + Int.toNat i < List.length (IM.ks m)) ∧ Vc ((Value.bool !List.getD (IM.live m) (0 + Int.toNat i) false) = Value.bool true) ∧ Post (G (Value.pointer none) [some (Sum.inl (70, [Value.slice (some (Addr.mk 1 0 (some 4000))) (List.length (IM.ks m)) 0, Value.slice (some (Addr.mk 2 0 (some 1000))) (List.length (IM.free m)) 0, Value.int IntKind.i64 (IM.held m), Value.int IntKind.i64 (IM.cap m), Value.int IntKind.i64 (IM.visits m)])), some (Sum.inr (Sum.inl (73, Row.mk [Value.int IntKind.i64 0, Value.int IntKind.i64 0, Value.int IntKind.i64 0, Value.bool false] (List.length (IM.ks m)) [Col.mk (IM.ks m) [] [], Col.mk (IM.ids m) [] [], Col.mk (IM.gens m) [] [], Col.mk [] (IM.live m) []]))), some (Sum.inr (Sum.inl (3, Row.mk [Value.int IntKind.i64 0] (List.length (IM.free m)) [Col.mk (IM.free m) [] []]))), some (Sum.inl (30, [Value.int IntKind.i64 i, Value.int IntKind.i64 g]))])) ∧ ((!List.getD (IM.live m) (0 + Int.toNat i) false) = false → Vc (0 + Int.toNat i < List.length (IM.ks m)) ∧ Vc ((Value.bool !List.getD (IM.live m) (0 + Int.toNat i) false) = Value.bool false) ∧ Vc (0 + Int.toNat i < List.length (IM.ks m)) ∧ ((List.getD (IM.gens m) (0 + Int.toNat i) (0 : Int) != g) = true → Post (G (Value.pointer none) [some (Sum.inl (70, [Value.slice (some (Addr.mk 1 0 (some 4000))) (List.length (IM.ks m)) 0, Value.slice (some (Addr.mk 2 0 (some 1000))) (List.length (IM.free m)) 0, Value.int IntKind.i64 (IM.held m), Value.int IntKind.i64 (IM.cap m), Value.int IntKind.i64 (IM.visits m)])), some (Sum.inr (Sum.inl (73, Row.mk [Value.int IntKind.i64 0, Value.int IntKind.i64 0, Value.int IntKind.i64 0, Value.bool false] (List.length (IM.ks m)) [Col.mk (IM.ks m) [] [], Col.mk (IM.ids m) [] [], Col.mk (IM.gens m) [] [], Col.mk [] (IM.live m) []]))), some (Sum.inr (Sum.inl (3, Row.mk [Value.int IntKind.i64 0] (List.length (IM.free m)) [Col.mk (IM.free m) [] []]))), some (Sum.inl (30, [Value.int IntKind.i64 i, Value.int IntKind.i64 g]))])) ∧ ((List.getD (IM.gens m) (0 + Int.toNat i) (0 : Int) != g) = false → Vc (fits (IM.visits m + (1 : Int))) ∧ Post (G (Value.pointer (some (Addr.mk 1 (0 + Int.toNat i) (some 4000)))) [some (Sum.inl (70, [Value.slice (some (Addr.mk 1 0 (some 4000))) (List.length (IM.ks m)) 0, Value.slice (some (Addr.mk 2 0 (some 1000))) (List.length (IM.free m)) 0, Value.int IntKind.i64 (IM.held m), Value.int IntKind.i64 (IM.cap m), Value.int IntKind.i64 (IM.visits m + (1 : Int))])), some (Sum.inr (Sum.inl (73, Row.mk [Value.int IntKind.i64 0, Value.int IntKind.i64 0, Value.int IntKind.i64 0, Value.bool false] (List.length (IM.ks m)) [Col.mk (IM.ks m) [] [], Col.mk (IM.ids m) [] [], Col.mk (IM.gens m) [] [], Col.mk [] (IM.live m) []]))), some (Sum.inr (Sum.inl (3, Row.mk [Value.int IntKind.i64 0] (List.length (IM.free m)) [Col.mk (IM.free m) [] []]))), some (Sum.inl (30, [Value.int IntKind.i64 i, Value.int IntKind.i64 g]))])))))) ?_ (by kernel_rfl)
      subst hG
      have e0 : 0 + i.toNat = i.toNat := Nat.zero_add _
      rw [e0]
      have done : Rx.Ends (R := Empty) 3 ⟨layItems m = layItems m ∧ m.ks.length < 1000000 ∧ m.ids.length = m.ks.length ∧ m.gens.length = m.ks.length ∧ m.live.length = m.ks.length, .pointer none, none, layItems m, [], []⟩ (Value.pointer none) (layItems m ++ [some (Sum.inl (30, [Value.int IntKind.i64 i, Value.int IntKind.i64 g]))]) := by
        refine ⟨⟨[0, 1, 2], rfl, rfl, ?_, rfl, rfl, rfl, rfl⟩⟩
        simp [layItems, Pulls, pullB, nth, at2, dnL, dnV, mvL, mvV, mvA, mvQ_lt, blt_true, blt_false, RowLe, colI, colB]
      refine ⟨fun h => ⟨⟨by rw [h]⟩, ⟨done⟩⟩, fun h => ⟨⟨by rw [h]⟩, fun h2 => ⟨done⟩, fun h2 => ?_⟩⟩
      have w1 : 0 ≤ i := by simp at h; omega
      have w2 : i < m.ks.length := by simp at h2; omega
      refine ⟨⟨w1, w2, by omega⟩, ⟨by omega⟩, fun h3 => ⟨⟨by omega⟩, ⟨by rw [h3]⟩, ⟨done⟩⟩, fun h3 => ⟨⟨by omega⟩, ⟨by rw [h3]⟩, ⟨by omega⟩, fun h4 => ⟨done⟩, fun h4 => ?_⟩⟩
      simp at h3 h4
      simp [hasIM, w1, w2, h3, h4] at hw
    · cases hx
end Go.Proofs.Ytloibbakklenbaa.Ar
