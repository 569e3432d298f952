/- arena: the document's pool: Has, Get, by what they do to its lists. -/
import Derived.Test.YtloibbakklenbaaArQLen
namespace Go.Proofs.Ytloibbakklenbaa.Ar
open Go.Proofs.Ytloibbakklenbaa.Rx
set_option linter.unusedVariables false
set_option linter.unusedSimpArgs false
set_option maxRecDepth 100000
def hasQ (m : QM) (i g : Int) : Bool := decide (0 ≤ i) && decide (i < m.vs.length) && m.live.getD i.toNat false && (m.gens.getD i.toNat 0 == g)
theorem has_run {G : Value → Hp Empty → Prop} {m : QM} {i g : Int} (h1 : m.gens.length = m.vs.length) (h2 : m.live.length = m.vs.length) (h3 : m.vs.length < 1000000)
    (hG : G (.bool (hasQ m i g)) (layRef m ++ [some (.inl (30, [.int .i64 i, .int .i64 g]))])) :
    At NoR Try.prog (codeOf Try.f35) 5 (retK Try.prog Try.f35.results.toList G) [.inl []] ⟨someL [.pointer (some ⟨0, 0, none⟩), .agg ⟨[.int .i64 i, .int .i64 g]⟩] ++ List.replicate (Try.f35.ntmps - 2) none, [], layRef m⟩ := by
  refine rx_ok (T := []) trivial mixed 200 ?_
  refine as_text (q := (decide (i ≥ 0) = true → Vc (Value.bool (decide (i ≥ 0)) = Value.bool true) ∧ (decide (i < (↑(List.length (QM.vs m)) : Int)) = true → Vc (Value.bool (decide (i ≥ 0)) = Value.bool true) ∧ Vc (Value.bool (decide (i < (↑(List.length (QM.vs m)) : Int))) = Value.bool true) ∧ Vc (0 ≤ i ∧ i < (↑(List.length (QM.live m)) : Int) ∧ 0 + List.length (QM.live m) ≤ List.length (QM.live m)) ∧ Vc (0 + Int.toNat i < List.length (QM.live m)) ∧ (List.getD (QM.live m) (0 + Int.toNat i) false = true → Vc (Value.bool (decide (i ≥ 0)) = Value.bool true) ∧ Vc (Value.bool (decide (i < (↑(List.length (QM.vs m)) : Int))) = Value.bool true) ∧ Vc (0 ≤ i ∧ i < (↑(List.length (QM.live m)) : Int) ∧ 0 + List.length (QM.live m) ≤ List.length (QM.live m)) ∧ Vc (0 + Int.toNat i < List.length (QM.live m)) ∧ Vc (Value.bool (List.getD (QM.live m) (0 + Int.toNat i) false) = Value.bool true) ∧ Vc (0 ≤ i ∧ i < (↑(List.length (QM.gens m)) : Int) ∧ 0 + List.length (QM.gens m) ≤ List.length (QM.gens m)) ∧ Vc (0 + Int.toNat i < List.length (QM.gens m)) ∧ Post (G (Value.bool (List.getD (QM.gens m) (0 + Int.toNat i) 0 == g)) [some (Sum.inl (44, [Value.slice (some (Addr.mk 1 0 (some 1000))) (List.length (QM.vs m)) 0, Value.slice (some (Addr.mk 2 0 (some 1000))) (List.length (QM.gens m)) 0, Value.slice (some (Addr.mk 3 0 (some 1000))) (List.length (QM.live m)) 0, Value.slice (some (Addr.mk 4 0 (some 1000))) (List.length (QM.free m)) 0, Value.int IntKind.i64 (QM.cap m), Value.int IntKind.i64 (QM.visits m)])), some (Sum.inr (Sum.inl (3, Row.mk [Value.int IntKind.i64 0] (List.length (QM.vs m)) [Col.mk (QM.vs m) [] []]))), some (Sum.inr (Sum.inl (3, Row.mk [Value.int IntKind.i64 0] (List.length (QM.gens m)) [Col.mk (QM.gens m) [] []]))), some (Sum.inr (Sum.inl (4, Row.mk [Value.bool false] (List.length (QM.live m)) [Col.mk [] (QM.live m) []]))), some (Sum.inr (Sum.inl (3, Row.mk [Value.int IntKind.i64 0] (List.length (QM.free m)) [Col.mk (QM.free m) [] []]))), some (Sum.inl (30, [Value.int IntKind.i64 i, Value.int IntKind.i64 g]))])) ∧ (List.getD (QM.live m) (0 + Int.toNat i) false = false → Vc (Value.bool (decide (i ≥ 0)) = Value.bool true) ∧ Vc (Value.bool (decide (i < (↑(List.length (QM.vs m)) : Int))) = Value.bool true) ∧ Vc (0 ≤ i ∧ i < (↑(List.length (QM.live m)) : Int) ∧ 0 + List.length (QM.live m) ≤ List.length (QM.live m)) ∧ Vc (0 + Int.toNat i < List.length (QM.live m)) ∧ Vc (Value.bool (List.getD (QM.live m) (0 + Int.toNat i) false) = Value.bool false) ∧ Post (G (Value.bool false) [some (Sum.inl (44, [Value.slice (some (Addr.mk 1 0 (some 1000))) (List.length (QM.vs m)) 0, Value.slice (some (Addr.mk 2 0 (some 1000))) (List.length (QM.gens m)) 0, Value.slice (some (Addr.mk 3 0 (some 1000))) (List.length (QM.live m)) 0, Value.slice (some (Addr.mk 4 0 (some 1000))) (List.length (QM.free m)) 0, Value.int IntKind.i64 (QM.cap m), Value.int IntKind.i64 (QM.visits m)])), some (Sum.inr (Sum.inl (3, Row.mk [Value.int IntKind.i64 0] (List.length (QM.vs m)) [Col.mk (QM.vs m) [] []]))), some (Sum.inr (Sum.inl (3, Row.mk [Value.int IntKind.i64 0] (List.length (QM.gens m)) [Col.mk (QM.gens m) [] []]))), some (Sum.inr (Sum.inl (4, Row.mk [Value.bool false] (List.length (QM.live m)) [Col.mk [] (QM.live m) []]))), some (Sum.inr (Sum.inl (3, Row.mk [Value.int IntKind.i64 0] (List.length (QM.free m)) [Col.mk (QM.free m) [] []]))), some (Sum.inl (30, [Value.int IntKind.i64 i, Value.int IntKind.i64 g]))]))) ∧ (decide (i < (↑(List.length (QM.vs m)) : Int)) = false → Vc (Value.bool (decide (i ≥ 0)) = Value.bool true) ∧ Vc (Value.bool (decide (i < (↑(List.length (QM.vs m)) : Int))) = Value.bool false) ∧ Post (G (Value.bool false) [some (Sum.inl (44, [Value.slice (some (Addr.mk 1 0 (some 1000))) (List.length (QM.vs m)) 0, Value.slice (some (Addr.mk 2 0 (some 1000))) (List.length (QM.gens m)) 0, Value.slice (some (Addr.mk 3 0 (some 1000))) (List.length (QM.live m)) 0, Value.slice (some (Addr.mk 4 0 (some 1000))) (List.length (QM.free m)) 0, Value.int IntKind.i64 (QM.cap m), Value.int IntKind.i64 (QM.visits m)])), some (Sum.inr (Sum.inl (3, Row.mk [Value.int IntKind.i64 0] (List.length (QM.vs m)) [Col.mk (QM.vs m) [] []]))), some (Sum.inr (Sum.inl (3, Row.mk [Value.int IntKind.i64 0] (List.length (QM.gens m)) [Col.mk (QM.gens m) [] []]))), some (Sum.inr (Sum.inl (4, Row.mk [Value.bool false] (List.length (QM.live m)) [Col.mk [] (QM.live m) []]))), some (Sum.inr (Sum.inl (3, Row.mk [Value.int IntKind.i64 0] (List.length (QM.free m)) [Col.mk (QM.free m) [] []]))), some (Sum.inl (30, [Value.int IntKind.i64 i, Value.int IntKind.i64 g]))]))) ∧ (decide (i ≥ 0) = false → Vc (Value.bool (decide (i ≥ 0)) = Value.bool false) ∧ Post (G (Value.bool false) [some (Sum.inl (44, [Value.slice (some (Addr.mk 1 0 (some 1000))) (List.length (QM.vs m)) 0, Value.slice (some (Addr.mk 2 0 (some 1000))) (List.length (QM.gens m)) 0, Value.slice (some (Addr.mk 3 0 (some 1000))) (List.length (QM.live m)) 0, Value.slice (some (Addr.mk 4 0 (some 1000))) (List.length (QM.free m)) 0, Value.int IntKind.i64 (QM.cap m), Value.int IntKind.i64 (QM.visits m)])), some (Sum.inr (Sum.inl (3, Row.mk [Value.int IntKind.i64 0] (List.length (QM.vs m)) [Col.mk (QM.vs m) [] []]))), some (Sum.inr (Sum.inl (3, Row.mk [Value.int IntKind.i64 0] (List.length (QM.gens m)) [Col.mk (QM.gens m) [] []]))), some (Sum.inr (Sum.inl (4, Row.mk [Value.bool false] (List.length (QM.live m)) [Col.mk [] (QM.live m) []]))), some (Sum.inr (Sum.inl (3, Row.mk [Value.int IntKind.i64 0] (List.length (QM.free m)) [Col.mk (QM.free m) [] []]))), some (Sum.inl (30, [Value.int IntKind.i64 i, Value.int IntKind.i64 g]))]))) ?_ (by kernel_rfl)
  have fin : ∀ b, hasQ m i g = b → G (.bool b) (layRef m ++ [some (.inl (30, [.int .i64 i, .int .i64 g]))]) := fun b e => e ▸ hG
  repeat' (first | apply And.intro | apply Vc.mk | apply fits.mk | intro h | apply Post.mk)
  all_goals (try simp only [decide_eq_true_eq, decide_eq_false_iff_not, Nat.zero_add, ge_iff_le, Int.not_le, Int.not_lt, Int.toNat_natCast, beq_iff_eq, beq_eq_false_iff_ne, Bool.not_eq_true', Bool.not_eq_false'] at *)
  all_goals first | omega | (apply congrArg Value.bool; assumption) | exact ⟨rfl, by omega⟩ | exact rfl | (simp [*, -List.getD_eq_getElem?_getD]; done) | skip
  all_goals (refine fin _ ?_; unfold hasQ)
  · simp [*, -List.getD_eq_getElem?_getD]
  · simp [*, -List.getD_eq_getElem?_getD]
  · simp [*, -List.getD_eq_getElem?_getD]; omega
  · simp [*, -List.getD_eq_getElem?_getD]; omega
def toRef : Hp Empty → Option QM
  | [some (.inl (_, [.slice _ _ _, .slice _ _ _, .slice _ _ _, .slice _ _ _, .int _ cp, .int _ vi])), some (.inr (.inl (_, ⟨_, _, [c1]⟩))), some (.inr (.inl (_, ⟨_, _, [c2]⟩))), some (.inr (.inl (_, ⟨_, _, [c3]⟩))), some (.inr (.inl (_, ⟨_, _, [c4]⟩)))] => some ⟨c1.i, c2.i, c3.b, c4.i, cp, vi⟩
  | _ => none
theorem toRef_len {hh : Hp Empty} {m : QM} (h : toRef hh = some m) : hh.length = 5 := by
  unfold toRef at h
  split at h
  · rfl
  · cases h
theorem same_ref {m : QM} : Pulls 5 (nth [0, 1, 2, 3, 4]) (layRef m) 0 (layRef m) := by simp [layRef, Pulls, pullB, nth, at2, dnL, dnV, mvL, mvV, mvA, mvQ_lt, blt_true, blt_false, RowLe, colI, colB]
def qlenP : Prim Empty := fun args hh => match args, toRef hh with
  | [.pointer (some ⟨0, 0, none⟩)], some m => some ⟨hh = layRef m ∧ m.live.length < 1000000, .int .i64 m.len, none, hh, [], []⟩
  | _, _ => none
theorem qlen_ok : ConOk NoR Try.prog 21 (con1 qlenP) := by
  refine con1_ok (prim_at (fn := Try.f21) (root := codeOf Try.f21) (by kernel_rfl) (by kernel_rfl) (by kernel_rfl) fun args hh x hx => ?_)
  unfold qlenP at hx
  split at hx
  · rename_i m hm
    injection hx with hx
    subst hx
    refine ⟨by rw [toRef_len hm]; exact Nat.le_refl _, (fun b hb => by cases hb), (fun hw => by first | rfl | cases hw), fun _ hv => ?_⟩
    obtain ⟨rfl, hv⟩ := hv
    exact qlen_run hv ⟨⟨[0, 1, 2, 3, 4], rfl, rfl, same_ref, rfl, rfl, rfl, rfl⟩⟩
  · cases hx
def hasqP : Prim Empty := fun args hh => match args, toRef hh with
  | [.pointer (some ⟨0, 0, none⟩), .agg ⟨[.int .i64 i, .int .i64 g]⟩], some m => some ⟨hh = layRef m ∧ m.gens.length = m.vs.length ∧ m.live.length = m.vs.length ∧ m.vs.length < 1000000, .bool (hasQ m i g), none, hh, [], []⟩
  | _, _ => none
theorem hasq_ok : ConOk NoR Try.prog 35 (con1 hasqP) := by
  refine con1_ok (prim_at (fn := Try.f35) (root := codeOf Try.f35) (by kernel_rfl) (by kernel_rfl) (by kernel_rfl) fun args hh x hx => ?_)
  unfold hasqP at hx
  split at hx
  · rename_i i g m hm
    injection hx with hx
    subst hx
    refine ⟨by rw [toRef_len hm]; exact Nat.le_refl _, (fun b hb => by cases hb), (fun hw => by first | rfl | cases hw), fun _ hv => ?_⟩
    obtain ⟨rfl, hv⟩ := hv
    exact has_run hv.1 hv.2.1 hv.2.2 ⟨⟨[0, 1, 2, 3, 4], rfl, rfl, by simp [layRef, Pulls, pullB, nth, at2, dnL, dnV, mvL, mvV, mvA, mvQ_lt, blt_true, blt_false, RowLe, colI, colB], rfl, rfl, rfl, rfl⟩⟩
  · cases hx
def TQ0 : Tab Empty := [(21, liftC (fun _ => false) 2 (con1 qlenP)), (35, liftC (fun _ => false) 2 (con1 hasqP))]
theorem TQ0_ok : TabOk NoR Try.prog TQ0 := ⟨liftC_ok _ _ qlen_ok, liftC_ok _ _ hasq_ok, trivial⟩
def QM.getV (m : QM) (i g : Int) : Int := if hasQ m i g then m.vs.getD i.toNat 0 else 0
def QM.get (m : QM) (i g : Int) : QM := { m with visits := if hasQ m i g then m.visits + 1 else m.visits }
theorem hasQ_spec {m : QM} {i g : Int} (h : hasQ m i g = true) : 0 ≤ i ∧ i < m.vs.length ∧ m.live.getD i.toNat false = true ∧ m.gens.getD i.toNat 0 = g := by
  simp only [hasQ, Bool.and_eq_true, decide_eq_true_eq, beq_iff_eq] at h
  obtain ⟨⟨⟨w1, w2⟩, w3⟩, w4⟩ := h
  exact ⟨w1, w2, w3, w4⟩
def qgetP : Prim Empty := fun args hh => match args, toRef hh with
  | [.pointer (some ⟨0, 0, none⟩), .agg ⟨[.int .i64 i, .int .i64 g]⟩], some m => some ⟨hh = layRef m ∧ m.gens.length = m.vs.length ∧ m.live.length = m.vs.length ∧ m.vs.length < 1000000 ∧ 0 ≤ m.visits ∧ m.visits < 1000000, .tuple ⟨[.int .i64 (m.getV i g), .bool (hasQ m i g)]⟩, none, layRef (m.get i g), [], [(0, 0)]⟩
  | _, _ => none
theorem qget_ok : ConOk NoR Try.prog 15 (con1 qgetP) := by
  refine con1_ok (prim_at (fn := Try.f15) (root := codeOf Try.f15) (by kernel_rfl) (by kernel_rfl) (by kernel_rfl) fun args hh x hx => ?_)
  unfold qgetP at hx
  split at hx
  · rename_i i g m hm
    injection hx with hx
    subst hx
    refine ⟨by rw [toRef_len hm]; exact Nat.le_refl _, (fun b hb => by cases hb), (fun hw => by first | rfl | cases hw), fun _ hv => ?_⟩
    obtain ⟨rfl, hv⟩ := hv
    generalize hG : Rx.Ends (R := Empty) _ _ = G
    refine rx_ok (T := TQ0) TQ0_ok mixed 200 ?_
    refine as_text (q := Vc ([some (Sum.inl (44, [Value.slice (some (Addr.mk 1 0 (some 1000))) (List.length (QM.vs m)) 0, Value.slice (some (Addr.mk 2 0 (some 1000))) (List.length (QM.gens m)) 0, Value.slice (some (Addr.mk 3 0 (some 1000))) (List.length (QM.live m)) 0, Value.slice (some (Addr.mk 4 0 (some 1000))) (List.length (QM.free m)) 0, Value.int IntKind.i64 (QM.cap m), Value.int IntKind.i64 (QM.visits m)])), some (Sum.inr (Sum.inl (3, Row.mk [Value.int IntKind.i64 0] (List.length (QM.vs m)) [Col.mk (QM.vs m) [] []]))), some (Sum.inr (Sum.inl (3, Row.mk [Value.int IntKind.i64 0] (List.length (QM.gens m)) [Col.mk (QM.gens m) [] []]))), some (Sum.inr (Sum.inl (4, Row.mk [Value.bool false] (List.length (QM.live m)) [Col.mk [] (QM.live m) []]))), some (Sum.inr (Sum.inl (3, Row.mk [Value.int IntKind.i64 0] (List.length (QM.free m)) [Col.mk (QM.free m) [] []])))] = layRef m ∧ List.length (QM.gens m) = List.length (QM.vs m) ∧ List.length (QM.live m) = List.length (QM.vs m) ∧ List.length (QM.vs m) < 1000000) ∧ ((!hasQ m i g) = true → Post (G (Value.tuple (Array.mk [Value.int IntKind.i64 0, Value.bool false])) [some (Sum.inl (44, [Value.slice (some (Addr.mk 1 0 (some 1000))) (List.length (QM.vs m)) 0, Value.slice (some (Addr.mk 2 0 (some 1000))) (List.length (QM.gens m)) 0, Value.slice (some (Addr.mk 3 0 (some 1000))) (List.length (QM.live m)) 0, Value.slice (some (Addr.mk 4 0 (some 1000))) (List.length (QM.free m)) 0, Value.int IntKind.i64 (QM.cap m), Value.int IntKind.i64 (QM.visits m)])), some (Sum.inr (Sum.inl (3, Row.mk [Value.int IntKind.i64 0] (List.length (QM.vs m)) [Col.mk (QM.vs m) [] []]))), some (Sum.inr (Sum.inl (3, Row.mk [Value.int IntKind.i64 0] (List.length (QM.gens m)) [Col.mk (QM.gens m) [] []]))), some (Sum.inr (Sum.inl (4, Row.mk [Value.bool false] (List.length (QM.live m)) [Col.mk [] (QM.live m) []]))), some (Sum.inr (Sum.inl (3, Row.mk [Value.int IntKind.i64 0] (List.length (QM.free m)) [Col.mk (QM.free m) [] []]))), some (Sum.inl (30, [Value.int IntKind.i64 i, Value.int IntKind.i64 g]))])) ∧ ((!hasQ m i g) = false → Vc (fits (QM.visits m + 1)) ∧ Vc (0 ≤ i ∧ i < (↑(List.length (QM.vs m)) : Int) ∧ 0 + List.length (QM.vs m) ≤ List.length (QM.vs m)) ∧ Vc (0 + Int.toNat i < List.length (QM.vs m)) ∧ Post (G (Value.tuple (Array.mk [Value.int IntKind.i64 (List.getD (QM.vs m) (0 + Int.toNat i) 0), Value.bool true])) [some (Sum.inl (44, [Value.slice (some (Addr.mk 1 0 (some 1000))) (List.length (QM.vs m)) 0, Value.slice (some (Addr.mk 2 0 (some 1000))) (List.length (QM.gens m)) 0, Value.slice (some (Addr.mk 3 0 (some 1000))) (List.length (QM.live m)) 0, Value.slice (some (Addr.mk 4 0 (some 1000))) (List.length (QM.free m)) 0, Value.int IntKind.i64 (QM.cap m), Value.int IntKind.i64 (QM.visits m + 1)])), some (Sum.inr (Sum.inl (3, Row.mk [Value.int IntKind.i64 0] (List.length (QM.vs m)) [Col.mk (QM.vs m) [] []]))), some (Sum.inr (Sum.inl (3, Row.mk [Value.int IntKind.i64 0] (List.length (QM.gens m)) [Col.mk (QM.gens m) [] []]))), some (Sum.inr (Sum.inl (4, Row.mk [Value.bool false] (List.length (QM.live m)) [Col.mk [] (QM.live m) []]))), some (Sum.inr (Sum.inl (3, Row.mk [Value.int IntKind.i64 0] (List.length (QM.free m)) [Col.mk (QM.free m) [] []]))), some (Sum.inl (30, [Value.int IntKind.i64 i, Value.int IntKind.i64 g]))]))) ?_ (by kernel_rfl)
    subst hG
    obtain ⟨v1, v2, v3, v4⟩ := hv
    refine ⟨⟨rfl, v1, v2, v3⟩, fun h => ?_, fun h => ?_⟩
    · simp only [Bool.not_eq_true'] at h
      refine ⟨⟨[0, 1, 2, 3, 4], by simp [dnV, dnL, mvV, mvL, QM.getV, h], rfl, by simp [layRef, QM.get, h, Pulls, pullB, nth, at2, dnL, dnV, mvL, mvV, mvA, mvQ_lt, blt_true, blt_false, RowLe, colI, colB], rfl, rfl, rfl, rfl⟩⟩
    · simp only [Bool.not_eq_false'] at h
      obtain ⟨w1, w2, w3, w4⟩ := hasQ_spec h
      refine ⟨⟨⟨by omega, by omega⟩⟩, ⟨by omega, by omega, by omega⟩, ⟨by omega⟩, ⟨⟨[0, 1, 2, 3, 4], by simp [dnV, dnL, mvV, mvL, QM.getV, h], rfl, by simp [layRef, QM.get, h, Pulls, pullB, nth, at2, dnL, dnV, mvL, mvV, mvA, mvQ_lt, blt_true, blt_false, RowLe, colI, colB], rfl, rfl, rfl, rfl⟩⟩⟩
  · cases hx
end Go.Proofs.Ytloibbakklenbaa.Ar
