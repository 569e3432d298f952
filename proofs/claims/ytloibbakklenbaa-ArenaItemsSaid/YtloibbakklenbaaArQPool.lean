/- arena: the document's pool, by what its functions do to its lists. -/
import Derived.Test.YtloibbakklenbaaArQHas
import Derived.Test.YtloibbakklenbaaArPool
namespace Go.Proofs.Ytloibbakklenbaa.Ar
open Go.Proofs.Ytloibbakklenbaa.Rx
set_option linter.unusedVariables false
set_option linter.unusedSimpArgs false
set_option maxRecDepth 100000
/-- the document's pool, sound, all of whose numbers are at most n -/
structure QM.Ok (m : QM) (n : Nat) : Prop where
  gens : m.gens.length = m.vs.length
  live : m.live.length = m.vs.length
  inn : ∀ f ∈ m.free, 0 ≤ f ∧ f < m.vs.length
  cells : m.vs.length ≤ n
  frees : m.free.length ≤ n
  gen : ∀ g ∈ m.gens, 0 ≤ g ∧ g ≤ n
  vis : 0 ≤ m.visits ∧ m.visits ≤ n
def nextQI (m : QM) : Int := if m.free.length = 0 then (m.vs.length : Int) else m.free.getD 0 0
def nextQM (m : QM) : QM := if m.free.length = 0 then { m with vs := m.vs ++ [0], gens := m.gens ++ [0], live := m.live ++ [false] } else { m with free := m.free.drop 1 }
def QM.put (m : QM) (v : Int) : QM :=
  if (m.len : Int) = m.cap then m else
    { nextQM m with vs := (nextQM m).vs.set (nextQI m).toNat v, live := (nextQM m).live.set (nextQI m).toNat true, gens := (nextQM m).gens.set (nextQI m).toNat ((nextQM m).gens.getD (nextQI m).toNat 0 + 1) }
def QM.putI (m : QM) : Int := if (m.len : Int) = m.cap then 0 else nextQI m
def QM.putG (m : QM) : Int := if (m.len : Int) = m.cap then 0 else (nextQM m).gens.getD (nextQI m).toNat 0 + 1
def QM.set (m : QM) (i g v : Int) : QM := if hasQ m i g then { m with visits := m.visits + 1, vs := m.vs.set i.toNat v } else m
def QM.drop (m : QM) (i g : Int) : QM :=
  if hasQ m i g then { m with visits := m.visits + 1, live := m.live.set i.toNat false, free := if g < 4294967295 then i :: m.free else m.free } else m
def TQ : Tab Empty := [(21, liftC zN 2 (con1 qlenP)), (35, liftC zN 2 (con1 hasqP)), (15, liftC zN 2 (con1 qgetP))]
theorem TQ_ok : TabOk NoR Try.prog TQ := ⟨liftC_ok _ _ qlen_ok, liftC_ok _ _ hasq_ok, liftC_ok _ _ qget_ok, trivial⟩
def rnewP : Prim Rs := fun args hh => match args, hh with
  | [.int .i64 c], [] => some ⟨True, .pointer (some ⟨0, 0, none⟩), none, [some (.inr (.inr (.inr (.ref ⟨[], [], [], [], min (max c 0) 16777216, 0⟩))))], [], [(0, 0)]⟩
  | _, _ => none
theorem rnew_ok : ConOk D Try.prog 9 (con1 rnewP) := by
  refine con1_ok (res_prim (L := L) (D0 := NoR) (fn := Try.f9) (root := codeOf Try.f9) (by kernel_rfl) (by kernel_rfl) (by kernel_rfl) fun args hh x hx => ?_)
  unfold rnewP at hx
  split at hx
  · rename_i c
    injection hx with hx
    subst hx
    refine ⟨by first | exact Nat.le_refl _ | exact Nat.zero_le _, noLit rfl, (fun hw => by first | rfl | cases hw), fun _ hv => ?_⟩
    generalize hG : EndsU (R := Rs) (R0 := Empty) _ _ _ = G
    refine rx_ok (T := TQ) TQ_ok mixed 200 ?_
    refine as_text (q := (decide (c < (0 : Int)) = true → (decide ((0 : Int) > (16777216 : Int)) = true → Post (G (Value.pointer (some (Addr.mk 0 0 none))) [some (Sum.inl (44, [Value.slice none 0 0, Value.slice none 0 0, Value.slice none 0 0, Value.slice none 0 0, Value.int IntKind.i64 16777216, Value.int IntKind.i64 0]))])) ∧ (decide ((0 : Int) > (16777216 : Int)) = false → Post (G (Value.pointer (some (Addr.mk 0 0 none))) [some (Sum.inl (44, [Value.slice none 0 0, Value.slice none 0 0, Value.slice none 0 0, Value.slice none 0 0, Value.int IntKind.i64 0, Value.int IntKind.i64 0]))]))) ∧ (decide (c < (0 : Int)) = false → (decide (c > (16777216 : Int)) = true → Post (G (Value.pointer (some (Addr.mk 0 0 none))) [some (Sum.inl (44, [Value.slice none 0 0, Value.slice none 0 0, Value.slice none 0 0, Value.slice none 0 0, Value.int IntKind.i64 16777216, Value.int IntKind.i64 0]))])) ∧ (decide (c > (16777216 : Int)) = false → Post (G (Value.pointer (some (Addr.mk 0 0 none))) [some (Sum.inl (44, [Value.slice none 0 0, Value.slice none 0 0, Value.slice none 0 0, Value.slice none 0 0, Value.int IntKind.i64 c, Value.int IntKind.i64 0]))])))) ?_ (by kernel_rfl)
    subst hG
    have e : ∀ z, z = min (max c 0) 16777216 → EndsU L ([] : Hp Rs) (Out.mk True (Value.pointer (some (Addr.mk 0 0 none))) none [some (Sum.inr (Sum.inr (Sum.inr (Rs.ref (QM.mk [] [] [] [] (min (max c 0) 16777216) 0)))))] [] [(0, 0)]) (Value.pointer (some (Addr.mk 0 0 none)))
        [some (Sum.inl (44, [Value.slice none 0 0, Value.slice none 0 0, Value.slice none 0 0, Value.slice none 0 0, Value.int IntKind.i64 z, Value.int IntKind.i64 0]))] := by
      intro z hz
      subst hz
      refine ⟨⟨[0, 1, 1, 1, 1], rfl, rfl, ?_, rfl, rfl, rfl, rfl, rfl⟩⟩
      simp [layRef, unf, unfGo, unfB, off, width, L, lay, newHp, mvO, mvSB, Pulls, pullB, nth, at2, dnL, dnV, mvL, mvV, mvA, mvQ_lt, blt_true, blt_false, RowLe, colI, colB]
      refine ⟨?_, ?_, ?_⟩ <;> exact ⟨rfl, Nat.succ_pos _, rfl⟩
    repeat' (first | apply And.intro | apply Vc.mk | apply fits.mk | intro h | apply Post.mk)
    all_goals (try simp only [decide_eq_true_eq, decide_eq_false_iff_not, Nat.zero_add, ge_iff_le, Int.not_le, Int.not_lt, Int.toNat_natCast, beq_iff_eq, beq_eq_false_iff_ne, Bool.not_eq_true', Bool.not_eq_false'] at *)
    all_goals first | omega | (apply congrArg Value.bool; assumption) | exact ⟨rfl, by omega⟩ | exact rfl | (simp [*, -List.getD_eq_getElem?_getD]; done) | skip
    all_goals exact e _ (by omega)
  · cases hx
def rputP : Prim Rs := fun args hh => match args, hh with
  | [.pointer (some ⟨0, 0, none⟩), .int .i64 v], [some (.inr (.inr (.inr (.ref m))))] => some ⟨m.Ok 10000, .tuple #[.agg #[.int .i64 m.putI, .int .i64 m.putG], .bool (!decide ((m.len : Int) = m.cap))], none, [some (.inr (.inr (.inr (.ref (m.put v)))))], [], [(0, 0)]⟩
  | _, _ => none
theorem rput_ok : ConOk D Try.prog 13 (con1 rputP) := by
  refine con1_ok (res_prim (L := L) (D0 := NoR) (fn := Try.f13) (root := codeOf Try.f13) (by kernel_rfl) (by kernel_rfl) (by kernel_rfl) fun args hh x hx => ?_)
  unfold rputP at hx
  split at hx
  · rename_i v m
    injection hx with hx
    subst hx
    refine ⟨by first | exact Nat.le_refl _ | exact Nat.zero_le _, noLit rfl, (fun hw => by first | rfl | cases hw), fun _ hv => ?_⟩
    generalize hG : EndsU (R := Rs) (R0 := Empty) _ _ _ = G
    refine rx_ok (T := TQ) TQ_ok mixed 200 ?_
    refine as_text (q := Vc ([some (Sum.inl (44, [Value.slice (some (Addr.mk 1 0 (some 1000))) (List.length (QM.vs m)) 0, Value.slice (some (Addr.mk 2 0 (some 1000))) (List.length (QM.gens m)) 0, Value.slice (some (Addr.mk 3 0 (some 1000))) (List.length (QM.live m)) 0, Value.slice (some (Addr.mk 4 0 (some 1000))) (List.length (QM.free m)) 0, Value.int IntKind.i64 (QM.cap m), Value.int IntKind.i64 (QM.visits m)])), some (Sum.inr (Sum.inl (3, Row.mk [Value.int IntKind.i64 0] (List.length (QM.vs m)) [Col.mk (QM.vs m) [] []]))), some (Sum.inr (Sum.inl (3, Row.mk [Value.int IntKind.i64 0] (List.length (QM.gens m)) [Col.mk (QM.gens m) [] []]))), some (Sum.inr (Sum.inl (4, Row.mk [Value.bool false] (List.length (QM.live m)) [Col.mk [] (QM.live m) []]))), some (Sum.inr (Sum.inl (3, Row.mk [Value.int IntKind.i64 0] (List.length (QM.free m)) [Col.mk (QM.free m) [] []])))] = layRef m ∧ List.length (QM.live m) < 1000000) ∧ (((↑(QM.len m) : Int) == QM.cap m) = true → Post (G (Value.tuple (Array.mk [Value.agg (Array.mk [Value.int IntKind.i64 0, Value.int IntKind.i64 0]), Value.bool false])) [some (Sum.inl (44, [Value.slice (some (Addr.mk 1 0 (some 1000))) (List.length (QM.vs m)) 0, Value.slice (some (Addr.mk 2 0 (some 1000))) (List.length (QM.gens m)) 0, Value.slice (some (Addr.mk 3 0 (some 1000))) (List.length (QM.live m)) 0, Value.slice (some (Addr.mk 4 0 (some 1000))) (List.length (QM.free m)) 0, Value.int IntKind.i64 (QM.cap m), Value.int IntKind.i64 (QM.visits m)])), some (Sum.inr (Sum.inl (3, Row.mk [Value.int IntKind.i64 0] (List.length (QM.vs m)) [Col.mk (QM.vs m) [] []]))), some (Sum.inr (Sum.inl (3, Row.mk [Value.int IntKind.i64 0] (List.length (QM.gens m)) [Col.mk (QM.gens m) [] []]))), some (Sum.inr (Sum.inl (4, Row.mk [Value.bool false] (List.length (QM.live m)) [Col.mk [] (QM.live m) []]))), some (Sum.inr (Sum.inl (3, Row.mk [Value.int IntKind.i64 0] (List.length (QM.free m)) [Col.mk (QM.free m) [] []]))), some (Sum.inl (30, [Value.int IntKind.i64 0, Value.int IntKind.i64 0]))])) ∧ (((↑(QM.len m) : Int) == QM.cap m) = false → (decide ((↑(List.length (QM.free m)) : Int) > (0 : Int)) = true → Vc ((0 : Int) ≤ (0 : Int) ∧ (0 : Int) < (↑(List.length (QM.free m)) : Int) ∧ 0 + List.length (QM.free m) ≤ List.length (QM.free m)) ∧ Vc (0 < List.length (QM.free m)) ∧ Vc ((0 : Int) ≤ (1 : Int) ∧ (1 : Int) ≤ (↑(List.length (QM.free m)) : Int) ∧ (↑(List.length (QM.free m)) : Int) ≤ (↑(List.length (QM.free m)) : Int) ∧ 0 + List.length (QM.free m) ≤ List.length (QM.free m)) ∧ Vc (0 ≤ 0 ∧ 1 + Int.toNat ((↑(List.length (QM.free m)) : Int) - (1 : Int)) ≤ List.length (QM.free m) ∧ (0 + Int.toNat ((↑(List.length (QM.free m)) : Int) - (1 : Int))) * 8 ≤ 140737488355328 ∧ 0 + Int.toNat ((↑(List.length (QM.free m)) : Int) - (1 : Int)) ≤ 140737488355328) ∧ Vc ((0 : Int) ≤ List.getD (QM.free m) 0 (0 : Int) ∧ List.getD (QM.free m) 0 (0 : Int) < (↑(List.length (QM.vs m)) : Int) ∧ 0 + List.length (QM.vs m) ≤ List.length (QM.vs m)) ∧ Vc (0 + Int.toNat (List.getD (QM.free m) 0 (0 : Int)) < List.length (QM.vs m)) ∧ Vc ((0 : Int) ≤ List.getD (QM.free m) 0 (0 : Int) ∧ List.getD (QM.free m) 0 (0 : Int) < (↑(List.length (QM.gens m)) : Int) ∧ 0 + List.length (QM.gens m) ≤ List.length (QM.gens m)) ∧ Vc (0 + Int.toNat (List.getD (QM.free m) 0 (0 : Int)) < List.length (QM.gens m)) ∧ Vc (fits (List.getD (QM.gens m) (0 + Int.toNat (List.getD (QM.free m) 0 (0 : Int))) (0 : Int) + (1 : Int))) ∧ Vc ((0 : Int) ≤ List.getD (QM.free m) 0 (0 : Int) ∧ List.getD (QM.free m) 0 (0 : Int) < (↑(List.length (QM.gens m)) : Int) ∧ 0 + List.length (QM.gens m) ≤ List.length (QM.gens m)) ∧ Vc (0 + Int.toNat (List.getD (QM.free m) 0 (0 : Int)) < List.length (QM.gens m)) ∧ Vc ((0 : Int) ≤ List.getD (QM.free m) 0 (0 : Int) ∧ List.getD (QM.free m) 0 (0 : Int) < (↑(List.length (QM.live m)) : Int) ∧ 0 + List.length (QM.live m) ≤ List.length (QM.live m)) ∧ Vc (0 + Int.toNat (List.getD (QM.free m) 0 (0 : Int)) < List.length (QM.live m)) ∧ Vc ((0 : Int) ≤ List.getD (QM.free m) 0 (0 : Int) ∧ List.getD (QM.free m) 0 (0 : Int) < (↑(List.length (QM.gens m)) : Int) ∧ 0 + List.length (QM.gens m) ≤ List.length (QM.gens m)) ∧ Vc (0 + Int.toNat (List.getD (QM.free m) 0 (0 : Int)) < List.length (QM.gens m)) ∧ Post (G (Value.tuple (Array.mk [Value.agg (Array.mk [Value.int IntKind.i64 (List.getD (QM.free m) 0 (0 : Int)), Value.int IntKind.i64 (List.getD (List.set (QM.gens m) (0 + Int.toNat (List.getD (QM.free m) 0 (0 : Int))) (List.getD (QM.gens m) (0 + Int.toNat (List.getD (QM.free m) 0 (0 : Int))) (0 : Int) + (1 : Int))) (0 + Int.toNat (List.getD (QM.free m) 0 (0 : Int))) (0 : Int))]), Value.bool true])) [some (Sum.inl (44, [Value.slice (some (Addr.mk 1 0 (some 1000))) (List.length (QM.vs m)) 0, Value.slice (some (Addr.mk 2 0 (some 1000))) (List.length (QM.gens m)) 0, Value.slice (some (Addr.mk 3 0 (some 1000))) (List.length (QM.live m)) 0, Value.slice (some (Addr.mk 8 0 (some 1000))) (0 + Int.toNat ((↑(List.length (QM.free m)) : Int) - (1 : Int))) 0, Value.int IntKind.i64 (QM.cap m), Value.int IntKind.i64 (QM.visits m)])), some (Sum.inr (Sum.inl (3, Row.mk [Value.int IntKind.i64 0] (List.length (QM.vs m)) [Col.mk (List.set (QM.vs m) (0 + Int.toNat (List.getD (QM.free m) 0 (0 : Int))) v) [] []]))), some (Sum.inr (Sum.inl (3, Row.mk [Value.int IntKind.i64 0] (List.length (QM.gens m)) [Col.mk (List.set (QM.gens m) (0 + Int.toNat (List.getD (QM.free m) 0 (0 : Int))) (List.getD (QM.gens m) (0 + Int.toNat (List.getD (QM.free m) 0 (0 : Int))) (0 : Int) + (1 : Int))) [] []]))), some (Sum.inr (Sum.inl (4, Row.mk [Value.bool false] (List.length (QM.live m)) [Col.mk [] (List.set (QM.live m) (0 + Int.toNat (List.getD (QM.free m) 0 (0 : Int))) true) []]))), some (Sum.inr (Sum.inl (3, Row.mk [Value.int IntKind.i64 0] (List.length (QM.free m)) [Col.mk (QM.free m) [] []]))), some (Sum.inl (30, [Value.int IntKind.i64 (List.getD (QM.free m) 0 (0 : Int)), Value.int IntKind.i64 (List.getD (List.set (QM.gens m) (0 + Int.toNat (List.getD (QM.free m) 0 (0 : Int))) (List.getD (QM.gens m) (0 + Int.toNat (List.getD (QM.free m) 0 (0 : Int))) (0 : Int) + (1 : Int))) (0 + Int.toNat (List.getD (QM.free m) 0 (0 : Int))) (0 : Int))])), none, none, some (Sum.inr (Sum.inl (3, Row.mk [Value.int IntKind.i64 0] (0 + Int.toNat ((↑(List.length (QM.free m)) : Int) - (1 : Int))) [Col.mk (cut [] 0 0 ++ cut (QM.free m) 1 (Int.toNat ((↑(List.length (QM.free m)) : Int) - (1 : Int)))) [] []])))])) ∧ (decide ((↑(List.length (QM.free m)) : Int) > (0 : Int)) = false → Vc (0 + List.length (QM.vs m) ≤ List.length (QM.vs m) ∧ 1 ≤ 1 ∧ (List.length (QM.vs m) + 1) * 8 ≤ 140737488355328 ∧ List.length (QM.vs m) + 1 ≤ 140737488355328) ∧ Vc (0 + List.length (QM.gens m) ≤ List.length (QM.gens m) ∧ 1 ≤ 1 ∧ (List.length (QM.gens m) + 1) * 8 ≤ 140737488355328 ∧ List.length (QM.gens m) + 1 ≤ 140737488355328) ∧ Vc (0 + List.length (QM.live m) ≤ List.length (QM.live m) ∧ 1 ≤ 1 ∧ (List.length (QM.live m) + 1) * 1 ≤ 140737488355328 ∧ List.length (QM.live m) + 1 ≤ 140737488355328) ∧ Vc ((0 : Int) ≤ (↑(List.length (QM.vs m)) : Int) ∧ (↑(List.length (QM.vs m)) : Int) < (↑(List.length (QM.vs m) + 1) : Int) ∧ 0 + (List.length (QM.vs m) + 1) ≤ List.length (QM.vs m) + 1) ∧ Vc (0 + Int.toNat (↑(List.length (QM.vs m)) : Int) < List.length (QM.vs m) + 1) ∧ Vc ((0 : Int) ≤ (↑(List.length (QM.vs m)) : Int) ∧ (↑(List.length (QM.vs m)) : Int) < (↑(List.length (QM.gens m) + 1) : Int) ∧ 0 + (List.length (QM.gens m) + 1) ≤ List.length (QM.gens m) + 1) ∧ Vc (0 + Int.toNat (↑(List.length (QM.vs m)) : Int) < List.length (QM.gens m) + 1) ∧ Vc (fits (List.getD (cut (QM.gens m) 0 (List.length (QM.gens m)) ++ cut [(0 : Int)] 0 1) (0 + Int.toNat (↑(List.length (QM.vs m)) : Int)) (0 : Int) + (1 : Int))) ∧ Vc ((0 : Int) ≤ (↑(List.length (QM.vs m)) : Int) ∧ (↑(List.length (QM.vs m)) : Int) < (↑(List.length (QM.gens m) + 1) : Int) ∧ 0 + (List.length (QM.gens m) + 1) ≤ List.length (QM.gens m) + 1) ∧ Vc (0 + Int.toNat (↑(List.length (QM.vs m)) : Int) < List.length (QM.gens m) + 1) ∧ Vc ((0 : Int) ≤ (↑(List.length (QM.vs m)) : Int) ∧ (↑(List.length (QM.vs m)) : Int) < (↑(List.length (QM.live m) + 1) : Int) ∧ 0 + (List.length (QM.live m) + 1) ≤ List.length (QM.live m) + 1) ∧ Vc (0 + Int.toNat (↑(List.length (QM.vs m)) : Int) < List.length (QM.live m) + 1) ∧ Vc ((0 : Int) ≤ (↑(List.length (QM.vs m)) : Int) ∧ (↑(List.length (QM.vs m)) : Int) < (↑(List.length (QM.gens m) + 1) : Int) ∧ 0 + (List.length (QM.gens m) + 1) ≤ List.length (QM.gens m) + 1) ∧ Vc (0 + Int.toNat (↑(List.length (QM.vs m)) : Int) < List.length (QM.gens m) + 1) ∧ Post (G (Value.tuple (Array.mk [Value.agg (Array.mk [Value.int IntKind.i64 (↑(List.length (QM.vs m)) : Int), Value.int IntKind.i64 (List.getD (List.set (cut (QM.gens m) 0 (List.length (QM.gens m)) ++ cut [(0 : Int)] 0 1) (0 + Int.toNat (↑(List.length (QM.vs m)) : Int)) (List.getD (cut (QM.gens m) 0 (List.length (QM.gens m)) ++ cut [(0 : Int)] 0 1) (0 + Int.toNat (↑(List.length (QM.vs m)) : Int)) (0 : Int) + (1 : Int))) (0 + Int.toNat (↑(List.length (QM.vs m)) : Int)) (0 : Int))]), Value.bool true])) [some (Sum.inl (44, [Value.slice (some (Addr.mk 7 0 (some 1000))) (List.length (QM.vs m) + 1) 0, Value.slice (some (Addr.mk 9 0 (some 1000))) (List.length (QM.gens m) + 1) 0, Value.slice (some (Addr.mk 11 0 (some 1000))) (List.length (QM.live m) + 1) 0, Value.slice (some (Addr.mk 4 0 (some 1000))) (List.length (QM.free m)) 0, Value.int IntKind.i64 (QM.cap m), Value.int IntKind.i64 (QM.visits m)])), none, none, none, some (Sum.inr (Sum.inl (3, Row.mk [Value.int IntKind.i64 0] (List.length (QM.free m)) [Col.mk (QM.free m) [] []]))), some (Sum.inl (30, [Value.int IntKind.i64 (↑(List.length (QM.vs m)) : Int), Value.int IntKind.i64 (List.getD (List.set (cut (QM.gens m) 0 (List.length (QM.gens m)) ++ cut [(0 : Int)] 0 1) (0 + Int.toNat (↑(List.length (QM.vs m)) : Int)) (List.getD (cut (QM.gens m) 0 (List.length (QM.gens m)) ++ cut [(0 : Int)] 0 1) (0 + Int.toNat (↑(List.length (QM.vs m)) : Int)) (0 : Int) + (1 : Int))) (0 + Int.toNat (↑(List.length (QM.vs m)) : Int)) (0 : Int))])), some (Sum.inr (Sum.inl (3, Row.mk [Value.int IntKind.i64 0] 1 [Col.mk [(0 : Int)] [] []]))), some (Sum.inr (Sum.inl (3, Row.mk [Value.int IntKind.i64 0] (List.length (QM.vs m) + 1) [Col.mk (List.set (cut (QM.vs m) 0 (List.length (QM.vs m)) ++ cut [(0 : Int)] 0 1) (0 + Int.toNat (↑(List.length (QM.vs m)) : Int)) v) [] []]))), some (Sum.inr (Sum.inl (3, Row.mk [Value.int IntKind.i64 0] 1 [Col.mk [(0 : Int)] [] []]))), some (Sum.inr (Sum.inl (3, Row.mk [Value.int IntKind.i64 0] (List.length (QM.gens m) + 1) [Col.mk (List.set (cut (QM.gens m) 0 (List.length (QM.gens m)) ++ cut [(0 : Int)] 0 1) (0 + Int.toNat (↑(List.length (QM.vs m)) : Int)) (List.getD (cut (QM.gens m) 0 (List.length (QM.gens m)) ++ cut [(0 : Int)] 0 1) (0 + Int.toNat (↑(List.length (QM.vs m)) : Int)) (0 : Int) + (1 : Int))) [] []]))), some (Sum.inr (Sum.inl (4, Row.mk [Value.bool false] 1 [Col.mk [] [false] []]))), some (Sum.inr (Sum.inl (4, Row.mk [Value.bool false] (List.length (QM.live m) + 1) [Col.mk [] (List.set (cut (QM.live m) 0 (List.length (QM.live m)) ++ cut [false] 0 1) (0 + Int.toNat (↑(List.length (QM.vs m)) : Int)) true) []])))])))) ?_ (by kernel_rfl)
    subst hG
    have v1 := hv.gens
    have v2 := hv.live
    have v3 := hv.cells
    have v4 := hv.vis
    have v5 := hv.frees
    have hb := fun j => getD_bound (i := j) hv.gen
    have hb0 := hb (m.free.getD 0 0).toNat
    have hf : 0 < m.free.length → 0 ≤ m.free.getD 0 0 ∧ m.free.getD 0 0 < m.vs.length := fun h => hv.inn _ (getD_mem h)
    have c1 : ∀ x : Int, cut [x] 0 1 = [x] := fun x => rfl
    have c2 : cut [false] 0 1 = [false] := rfl
    have c3 : (m.gens ++ [0]).getD m.vs.length 0 = 0 := by rw [← v1]; simp
    have c4 : Int.toNat ((m.free.length : Int) - 1) = m.free.length - 1 := by omega
    have c5 : cut m.free 1 (m.free.length - 1) = m.free.drop 1 := by simp [cut, List.take_of_length_le]
    simp only [cut_all, c1, c2, Nat.zero_add, Int.toNat_natCast, c3, c4, c5]
    repeat' (first | apply And.intro | apply Vc.mk | apply fits.mk | intro h | apply Post.mk)
    all_goals (try simp only [decide_eq_true_eq, decide_eq_false_iff_not, Nat.zero_add, ge_iff_le, Int.not_le, Int.not_lt, Int.toNat_natCast, beq_iff_eq, beq_eq_false_iff_ne, Bool.not_eq_true', Bool.not_eq_false'] at *)
    all_goals first | omega | (apply congrArg Value.bool; assumption) | exact ⟨rfl, by omega⟩ | exact rfl | (simp [*, -List.getD_eq_getElem?_getD]; done) | skip
    · rename_i h
      refine ⟨⟨[0, 1, 2, 3, 4], ?_, rfl, ?_, rfl, rfl, rfl, rfl, rfl⟩⟩
      · simp [mvV, mvL, dnV, dnL, QM.putI, QM.putG, h]
      · simp [layRef, QM.put, h, unf, unfGo, unfB, off, width, L, lay, newHp, mvO, mvSB, Pulls, pullB, nth, at2, dnL, dnV, mvL, mvV, mvA, mvQ_lt, blt_true, blt_false, RowLe, colI, colB]
    · have h : ¬ (m.len : Int) = m.cap := by assumption
      have hz : ¬ m.free.length = 0 := by omega
      have hi : (m.free.getD 0 0).toNat < m.gens.length := by have := hf (by omega); omega
      have hs : ∀ z : Int, (m.gens.set (m.free.getD 0 0).toNat z).getD (m.free.getD 0 0).toNat 0 = z := fun z => by rw [List.getD_eq_getElem?_getD, List.getElem?_set_self hi]; rfl
      simp only [hs]
      refine ⟨⟨[0, 1, 2, 3, 8], ?_, rfl, ?_, rfl, rfl, rfl, rfl, rfl⟩⟩
      · simp only [mvV, mvL, dnV, dnL, QM.putI, QM.putG, h, hz, nextQI, nextQM, if_false]; simp [h, mvV, mvL, dnV, dnL]
      · simp [layRef, QM.put, h, hz, nextQM, nextQI, unf, unfGo, unfB, off, width, L, lay, newHp, mvO, mvSB, Pulls, pullB, nth, at2, dnL, dnV, mvL, mvV, mvA, mvQ_lt, blt_true, blt_false, RowLe, colI, colB, -List.getD_eq_getElem?_getD, cut]
    · have h : ¬ (m.len : Int) = m.cap := by assumption
      have hz : m.free.length = 0 := by omega
      have hs : ∀ z : Int, ((m.gens ++ [0]).set m.vs.length z).getD m.vs.length 0 = z := fun z => by rw [List.getD_eq_getElem?_getD, List.getElem?_set_self (by simp; omega)]; rfl
      simp only [hs]
      refine ⟨⟨[0, 7, 9, 11, 4], ?_, rfl, ?_, rfl, rfl, rfl, rfl, rfl⟩⟩
      · simp only [mvV, mvL, dnV, dnL, QM.putI, QM.putG, h, hz, nextQI, nextQM, if_true, if_false, Int.toNat_natCast, c3]; simp [h, mvV, mvL, dnV, dnL]
      · simp only [QM.put, h, hz, nextQM, nextQI, if_true, if_false, Int.toNat_natCast, c3]; simp [layRef, unf, unfGo, unfB, off, width, L, lay, newHp, mvO, mvSB, Pulls, pullB, nth, at2, dnL, dnV, mvL, mvV, mvA, mvQ_lt, blt_true, blt_false, RowLe, colI, colB]; exact ⟨hz.symm, Or.inl (List.eq_nil_of_length_eq_zero hz)⟩
  · cases hx
def rgetP : Prim Rs := fun args hh => match args, hh with
  | [.pointer (some ⟨0, 0, none⟩), .agg ⟨[.int .i64 i, .int .i64 g]⟩], [some (.inr (.inr (.inr (.ref m))))] => some ⟨m.Ok 10000, .tuple #[.int .i64 (m.getV i g), .bool (hasQ m i g)], none, [some (.inr (.inr (.inr (.ref (m.get i g)))))], [], [(0, 0)]⟩
  | _, _ => none
theorem rget_ok : ConOk D Try.prog 15 (con1 rgetP) := by
  refine con1_ok (res_prim (L := L) (D0 := NoR) (fn := Try.f15) (root := codeOf Try.f15) (by kernel_rfl) (by kernel_rfl) (by kernel_rfl) fun args hh x hx => ?_)
  unfold rgetP at hx
  split at hx
  · rename_i i g m
    injection hx with hx
    subst hx
    refine ⟨by first | exact Nat.le_refl _ | exact Nat.zero_le _, noLit rfl, (fun hw => by first | rfl | cases hw), fun _ hv => ?_⟩
    generalize hG : EndsU (R := Rs) (R0 := Empty) _ _ _ = G
    refine rx_ok (T := TQ) TQ_ok mixed 200 ?_
    refine as_text (q := Vc ([some (Sum.inl (44, [Value.slice (some (Addr.mk 1 0 (some 1000))) (List.length (QM.vs m)) 0, Value.slice (some (Addr.mk 2 0 (some 1000))) (List.length (QM.gens m)) 0, Value.slice (some (Addr.mk 3 0 (some 1000))) (List.length (QM.live m)) 0, Value.slice (some (Addr.mk 4 0 (some 1000))) (List.length (QM.free m)) 0, Value.int IntKind.i64 (QM.cap m), Value.int IntKind.i64 (QM.visits m)])), some (Sum.inr (Sum.inl (3, Row.mk [Value.int IntKind.i64 0] (List.length (QM.vs m)) [Col.mk (QM.vs m) [] []]))), some (Sum.inr (Sum.inl (3, Row.mk [Value.int IntKind.i64 0] (List.length (QM.gens m)) [Col.mk (QM.gens m) [] []]))), some (Sum.inr (Sum.inl (4, Row.mk [Value.bool false] (List.length (QM.live m)) [Col.mk [] (QM.live m) []]))), some (Sum.inr (Sum.inl (3, Row.mk [Value.int IntKind.i64 0] (List.length (QM.free m)) [Col.mk (QM.free m) [] []])))] = layRef m ∧ List.length (QM.gens m) = List.length (QM.vs m) ∧ List.length (QM.live m) = List.length (QM.vs m) ∧ List.length (QM.vs m) < 1000000) ∧ ((!hasQ m i g) = true → Post (G (Value.tuple (Array.mk [Value.int IntKind.i64 0, Value.bool false])) [some (Sum.inl (44, [Value.slice (some (Addr.mk 1 0 (some 1000))) (List.length (QM.vs m)) 0, Value.slice (some (Addr.mk 2 0 (some 1000))) (List.length (QM.gens m)) 0, Value.slice (some (Addr.mk 3 0 (some 1000))) (List.length (QM.live m)) 0, Value.slice (some (Addr.mk 4 0 (some 1000))) (List.length (QM.free m)) 0, Value.int IntKind.i64 (QM.cap m), Value.int IntKind.i64 (QM.visits m)])), some (Sum.inr (Sum.inl (3, Row.mk [Value.int IntKind.i64 0] (List.length (QM.vs m)) [Col.mk (QM.vs m) [] []]))), some (Sum.inr (Sum.inl (3, Row.mk [Value.int IntKind.i64 0] (List.length (QM.gens m)) [Col.mk (QM.gens m) [] []]))), some (Sum.inr (Sum.inl (4, Row.mk [Value.bool false] (List.length (QM.live m)) [Col.mk [] (QM.live m) []]))), some (Sum.inr (Sum.inl (3, Row.mk [Value.int IntKind.i64 0] (List.length (QM.free m)) [Col.mk (QM.free m) [] []]))), some (Sum.inl (30, [Value.int IntKind.i64 i, Value.int IntKind.i64 g]))])) ∧ ((!hasQ m i g) = false → Vc (fits (QM.visits m + (1 : Int))) ∧ Vc ((0 : Int) ≤ i ∧ i < (↑(List.length (QM.vs m)) : Int) ∧ 0 + List.length (QM.vs m) ≤ List.length (QM.vs m)) ∧ Vc (0 + Int.toNat i < List.length (QM.vs m)) ∧ Post (G (Value.tuple (Array.mk [Value.int IntKind.i64 (List.getD (QM.vs m) (0 + Int.toNat i) (0 : Int)), Value.bool true])) [some (Sum.inl (44, [Value.slice (some (Addr.mk 1 0 (some 1000))) (List.length (QM.vs m)) 0, Value.slice (some (Addr.mk 2 0 (some 1000))) (List.length (QM.gens m)) 0, Value.slice (some (Addr.mk 3 0 (some 1000))) (List.length (QM.live m)) 0, Value.slice (some (Addr.mk 4 0 (some 1000))) (List.length (QM.free m)) 0, Value.int IntKind.i64 (QM.cap m), Value.int IntKind.i64 (QM.visits m + (1 : Int))])), some (Sum.inr (Sum.inl (3, Row.mk [Value.int IntKind.i64 0] (List.length (QM.vs m)) [Col.mk (QM.vs m) [] []]))), some (Sum.inr (Sum.inl (3, Row.mk [Value.int IntKind.i64 0] (List.length (QM.gens m)) [Col.mk (QM.gens m) [] []]))), some (Sum.inr (Sum.inl (4, Row.mk [Value.bool false] (List.length (QM.live m)) [Col.mk [] (QM.live m) []]))), some (Sum.inr (Sum.inl (3, Row.mk [Value.int IntKind.i64 0] (List.length (QM.free m)) [Col.mk (QM.free m) [] []]))), some (Sum.inl (30, [Value.int IntKind.i64 i, Value.int IntKind.i64 g]))]))) ?_ (by kernel_rfl)
    subst hG
    have v1 := hv.gens
    have v2 := hv.live
    have v3 := hv.cells
    have v4 := hv.vis
    refine ⟨⟨rfl, v1, v2, by omega⟩, fun h => ?_, fun h => ?_⟩
    · simp only [Bool.not_eq_true'] at h
      refine ⟨⟨[0, 1, 2, 3, 4], by simp [dnV, dnL, mvV, mvL, QM.getV, h], rfl, by simp [layRef, QM.get, h, unf, unfGo, unfB, off, width, L, lay, newHp, mvO, mvSB, Pulls, pullB, nth, at2, dnL, dnV, mvL, mvV, mvA, mvQ_lt, blt_true, blt_false, RowLe, colI, colB], rfl, rfl, rfl, rfl, rfl⟩⟩
    · simp only [Bool.not_eq_false'] at h
      obtain ⟨w1, w2, w3, w4⟩ := hasQ_spec h
      refine ⟨⟨⟨by omega, by omega⟩⟩, ⟨by omega, by omega, by omega⟩, ⟨by omega⟩, ⟨⟨[0, 1, 2, 3, 4], by simp [dnV, dnL, mvV, mvL, QM.getV, h], rfl, by simp [layRef, QM.get, h, unf, unfGo, unfB, off, width, L, lay, newHp, mvO, mvSB, Pulls, pullB, nth, at2, dnL, dnV, mvL, mvV, mvA, mvQ_lt, blt_true, blt_false, RowLe, colI, colB], rfl, rfl, rfl, rfl, rfl⟩⟩⟩
  · cases hx
def rsetP : Prim Rs := fun args hh => match args, hh with
  | [.pointer (some ⟨0, 0, none⟩), .agg ⟨[.int .i64 i, .int .i64 g]⟩, .int .i64 v], [some (.inr (.inr (.inr (.ref m))))] => some ⟨m.Ok 10000, .bool (hasQ m i g), none, [some (.inr (.inr (.inr (.ref (m.set i g v)))))], [], [(0, 0)]⟩
  | _, _ => none
theorem rset_ok : ConOk D Try.prog 17 (con1 rsetP) := by
  refine con1_ok (res_prim (L := L) (D0 := NoR) (fn := Try.f17) (root := codeOf Try.f17) (by kernel_rfl) (by kernel_rfl) (by kernel_rfl) fun args hh x hx => ?_)
  unfold rsetP at hx
  split at hx
  · rename_i i g v m
    injection hx with hx
    subst hx
    refine ⟨by first | exact Nat.le_refl _ | exact Nat.zero_le _, noLit rfl, (fun hw => by first | rfl | cases hw), fun _ hv => ?_⟩
    generalize hG : EndsU (R := Rs) (R0 := Empty) _ _ _ = G
    refine rx_ok (T := TQ) TQ_ok mixed 200 ?_
    refine as_text (q := Vc ([some (Sum.inl (44, [Value.slice (some (Addr.mk 1 0 (some 1000))) (List.length (QM.vs m)) 0, Value.slice (some (Addr.mk 2 0 (some 1000))) (List.length (QM.gens m)) 0, Value.slice (some (Addr.mk 3 0 (some 1000))) (List.length (QM.live m)) 0, Value.slice (some (Addr.mk 4 0 (some 1000))) (List.length (QM.free m)) 0, Value.int IntKind.i64 (QM.cap m), Value.int IntKind.i64 (QM.visits m)])), some (Sum.inr (Sum.inl (3, Row.mk [Value.int IntKind.i64 0] (List.length (QM.vs m)) [Col.mk (QM.vs m) [] []]))), some (Sum.inr (Sum.inl (3, Row.mk [Value.int IntKind.i64 0] (List.length (QM.gens m)) [Col.mk (QM.gens m) [] []]))), some (Sum.inr (Sum.inl (4, Row.mk [Value.bool false] (List.length (QM.live m)) [Col.mk [] (QM.live m) []]))), some (Sum.inr (Sum.inl (3, Row.mk [Value.int IntKind.i64 0] (List.length (QM.free m)) [Col.mk (QM.free m) [] []])))] = layRef m ∧ List.length (QM.gens m) = List.length (QM.vs m) ∧ List.length (QM.live m) = List.length (QM.vs m) ∧ List.length (QM.vs m) < 1000000) ∧ ((!hasQ m i g) = true → Post (G (Value.bool false) [some (Sum.inl (44, [Value.slice (some (Addr.mk 1 0 (some 1000))) (List.length (QM.vs m)) 0, Value.slice (some (Addr.mk 2 0 (some 1000))) (List.length (QM.gens m)) 0, Value.slice (some (Addr.mk 3 0 (some 1000))) (List.length (QM.live m)) 0, Value.slice (some (Addr.mk 4 0 (some 1000))) (List.length (QM.free m)) 0, Value.int IntKind.i64 (QM.cap m), Value.int IntKind.i64 (QM.visits m)])), some (Sum.inr (Sum.inl (3, Row.mk [Value.int IntKind.i64 0] (List.length (QM.vs m)) [Col.mk (QM.vs m) [] []]))), some (Sum.inr (Sum.inl (3, Row.mk [Value.int IntKind.i64 0] (List.length (QM.gens m)) [Col.mk (QM.gens m) [] []]))), some (Sum.inr (Sum.inl (4, Row.mk [Value.bool false] (List.length (QM.live m)) [Col.mk [] (QM.live m) []]))), some (Sum.inr (Sum.inl (3, Row.mk [Value.int IntKind.i64 0] (List.length (QM.free m)) [Col.mk (QM.free m) [] []]))), some (Sum.inl (30, [Value.int IntKind.i64 i, Value.int IntKind.i64 g]))])) ∧ ((!hasQ m i g) = false → Vc (fits (QM.visits m + (1 : Int))) ∧ Vc ((0 : Int) ≤ i ∧ i < (↑(List.length (QM.vs m)) : Int) ∧ 0 + List.length (QM.vs m) ≤ List.length (QM.vs m)) ∧ Vc (0 + Int.toNat i < List.length (QM.vs m)) ∧ Post (G (Value.bool true) [some (Sum.inl (44, [Value.slice (some (Addr.mk 1 0 (some 1000))) (List.length (QM.vs m)) 0, Value.slice (some (Addr.mk 2 0 (some 1000))) (List.length (QM.gens m)) 0, Value.slice (some (Addr.mk 3 0 (some 1000))) (List.length (QM.live m)) 0, Value.slice (some (Addr.mk 4 0 (some 1000))) (List.length (QM.free m)) 0, Value.int IntKind.i64 (QM.cap m), Value.int IntKind.i64 (QM.visits m + (1 : Int))])), some (Sum.inr (Sum.inl (3, Row.mk [Value.int IntKind.i64 0] (List.length (QM.vs m)) [Col.mk (List.set (QM.vs m) (0 + Int.toNat i) v) [] []]))), some (Sum.inr (Sum.inl (3, Row.mk [Value.int IntKind.i64 0] (List.length (QM.gens m)) [Col.mk (QM.gens m) [] []]))), some (Sum.inr (Sum.inl (4, Row.mk [Value.bool false] (List.length (QM.live m)) [Col.mk [] (QM.live m) []]))), some (Sum.inr (Sum.inl (3, Row.mk [Value.int IntKind.i64 0] (List.length (QM.free m)) [Col.mk (QM.free m) [] []]))), some (Sum.inl (30, [Value.int IntKind.i64 i, Value.int IntKind.i64 g]))]))) ?_ (by kernel_rfl)
    subst hG
    have v1 := hv.gens
    have v2 := hv.live
    have v3 := hv.cells
    have v4 := hv.vis
    refine ⟨⟨rfl, v1, v2, by omega⟩, fun h => ?_, fun h => ?_⟩
    · simp only [Bool.not_eq_true'] at h
      refine ⟨⟨[0, 1, 2, 3, 4], by simp [dnV, dnL, mvV, mvL, h], rfl, by simp [layRef, QM.set, h, unf, unfGo, unfB, off, width, L, lay, newHp, mvO, mvSB, Pulls, pullB, nth, at2, dnL, dnV, mvL, mvV, mvA, mvQ_lt, blt_true, blt_false, RowLe, colI, colB], rfl, rfl, rfl, rfl, rfl⟩⟩
    · simp only [Bool.not_eq_false'] at h
      obtain ⟨w1, w2, w3, w4⟩ := hasQ_spec h
      refine ⟨⟨⟨by omega, by omega⟩⟩, ⟨by omega, by omega, by omega⟩, ⟨by omega⟩, ⟨⟨[0, 1, 2, 3, 4], by simp [dnV, dnL, mvV, mvL, h], rfl, by simp [layRef, QM.set, h, unf, unfGo, unfB, off, width, L, lay, newHp, mvO, mvSB, Pulls, pullB, nth, at2, dnL, dnV, mvL, mvV, mvA, mvQ_lt, blt_true, blt_false, RowLe, colI, colB], rfl, rfl, rfl, rfl, rfl⟩⟩⟩
  · cases hx
def rdropP : Prim Rs := fun args hh => match args, hh with
  | [.pointer (some ⟨0, 0, none⟩), .agg ⟨[.int .i64 i, .int .i64 g]⟩], [some (.inr (.inr (.inr (.ref m))))] => some ⟨m.Ok 10000, .tuple #[.int .i64 (m.getV i g), .bool (hasQ m i g)], none, [some (.inr (.inr (.inr (.ref (m.drop i g)))))], [], [(0, 0)]⟩
  | _, _ => none
theorem rdrop_ok : ConOk D Try.prog 19 (con1 rdropP) := by
  refine con1_ok (res_prim (L := L) (D0 := NoR) (fn := Try.f19) (root := codeOf Try.f19) (by kernel_rfl) (by kernel_rfl) (by kernel_rfl) fun args hh x hx => ?_)
  unfold rdropP at hx
  split at hx
  · rename_i i g m
    injection hx with hx
    subst hx
    refine ⟨by first | exact Nat.le_refl _ | exact Nat.zero_le _, noLit rfl, (fun hw => by first | rfl | cases hw), fun _ hv => ?_⟩
    generalize hG : EndsU (R := Rs) (R0 := Empty) _ _ _ = G
    refine rx_ok (T := TQ) TQ_ok mixed 200 ?_
    refine as_text (q := Vc ([some (Sum.inl (44, [Value.slice (some (Addr.mk 1 0 (some 1000))) (List.length (QM.vs m)) 0, Value.slice (some (Addr.mk 2 0 (some 1000))) (List.length (QM.gens m)) 0, Value.slice (some (Addr.mk 3 0 (some 1000))) (List.length (QM.live m)) 0, Value.slice (some (Addr.mk 4 0 (some 1000))) (List.length (QM.free m)) 0, Value.int IntKind.i64 (QM.cap m), Value.int IntKind.i64 (QM.visits m)])), some (Sum.inr (Sum.inl (3, Row.mk [Value.int IntKind.i64 0] (List.length (QM.vs m)) [Col.mk (QM.vs m) [] []]))), some (Sum.inr (Sum.inl (3, Row.mk [Value.int IntKind.i64 0] (List.length (QM.gens m)) [Col.mk (QM.gens m) [] []]))), some (Sum.inr (Sum.inl (4, Row.mk [Value.bool false] (List.length (QM.live m)) [Col.mk [] (QM.live m) []]))), some (Sum.inr (Sum.inl (3, Row.mk [Value.int IntKind.i64 0] (List.length (QM.free m)) [Col.mk (QM.free m) [] []])))] = layRef m ∧ List.length (QM.gens m) = List.length (QM.vs m) ∧ List.length (QM.live m) = List.length (QM.vs m) ∧ List.length (QM.vs m) < 1000000 ∧ (0 : Int) ≤ QM.visits m ∧ QM.visits m < (1000000 : Int)) ∧ (hasQ m i g = true → Vc ((0 : Int) ≤ i ∧ i < (↑(List.length (QM.live (QM.get m i g))) : Int) ∧ 0 + List.length (QM.live (QM.get m i g)) ≤ List.length (QM.live (QM.get m i g))) ∧ Vc (0 + Int.toNat i < List.length (QM.live (QM.get m i g))) ∧ (decide (g < (4294967295 : Int)) = true → Vc (1 ≤ 1 ∧ 0 + List.length (QM.free (QM.get m i g)) ≤ List.length (QM.free (QM.get m i g)) ∧ (1 + List.length (QM.free (QM.get m i g))) * 8 ≤ 140737488355328 ∧ 1 + List.length (QM.free (QM.get m i g)) ≤ 140737488355328) ∧ Post (G (Value.tuple (Array.mk [Value.int IntKind.i64 (QM.getV m i g), Value.bool (hasQ m i g)])) [some (Sum.inl (44, [Value.slice (some (Addr.mk 1 0 (some 1000))) (List.length (QM.vs (QM.get m i g))) 0, Value.slice (some (Addr.mk 2 0 (some 1000))) (List.length (QM.gens (QM.get m i g))) 0, Value.slice (some (Addr.mk 3 0 (some 1000))) (List.length (QM.live (QM.get m i g))) 0, Value.slice (some (Addr.mk 7 0 (some 1000))) (1 + List.length (QM.free (QM.get m i g))) 0, Value.int IntKind.i64 (QM.cap (QM.get m i g)), Value.int IntKind.i64 (QM.visits (QM.get m i g))])), some (Sum.inr (Sum.inl (3, Row.mk [Value.int IntKind.i64 0] (List.length (QM.vs (QM.get m i g))) [Col.mk (QM.vs (QM.get m i g)) [] []]))), some (Sum.inr (Sum.inl (3, Row.mk [Value.int IntKind.i64 0] (List.length (QM.gens (QM.get m i g))) [Col.mk (QM.gens (QM.get m i g)) [] []]))), some (Sum.inr (Sum.inl (4, Row.mk [Value.bool false] (List.length (QM.live (QM.get m i g))) [Col.mk [] (List.set (QM.live (QM.get m i g)) (0 + Int.toNat i) false) []]))), some (Sum.inr (Sum.inl (3, Row.mk [Value.int IntKind.i64 0] (List.length (QM.free (QM.get m i g))) [Col.mk (QM.free (QM.get m i g)) [] []]))), some (Sum.inl (30, [Value.int IntKind.i64 i, Value.int IntKind.i64 g])), none, some (Sum.inr (Sum.inl (3, Row.mk [Value.int IntKind.i64 0] (1 + List.length (QM.free (QM.get m i g))) [Col.mk (cut [i] 0 1 ++ cut (QM.free (QM.get m i g)) 0 (List.length (QM.free (QM.get m i g)))) [] []])))])) ∧ (decide (g < (4294967295 : Int)) = false → Post (G (Value.tuple (Array.mk [Value.int IntKind.i64 (QM.getV m i g), Value.bool (hasQ m i g)])) [some (Sum.inl (44, [Value.slice (some (Addr.mk 1 0 (some 1000))) (List.length (QM.vs (QM.get m i g))) 0, Value.slice (some (Addr.mk 2 0 (some 1000))) (List.length (QM.gens (QM.get m i g))) 0, Value.slice (some (Addr.mk 3 0 (some 1000))) (List.length (QM.live (QM.get m i g))) 0, Value.slice (some (Addr.mk 4 0 (some 1000))) (List.length (QM.free (QM.get m i g))) 0, Value.int IntKind.i64 (QM.cap (QM.get m i g)), Value.int IntKind.i64 (QM.visits (QM.get m i g))])), some (Sum.inr (Sum.inl (3, Row.mk [Value.int IntKind.i64 0] (List.length (QM.vs (QM.get m i g))) [Col.mk (QM.vs (QM.get m i g)) [] []]))), some (Sum.inr (Sum.inl (3, Row.mk [Value.int IntKind.i64 0] (List.length (QM.gens (QM.get m i g))) [Col.mk (QM.gens (QM.get m i g)) [] []]))), some (Sum.inr (Sum.inl (4, Row.mk [Value.bool false] (List.length (QM.live (QM.get m i g))) [Col.mk [] (List.set (QM.live (QM.get m i g)) (0 + Int.toNat i) false) []]))), some (Sum.inr (Sum.inl (3, Row.mk [Value.int IntKind.i64 0] (List.length (QM.free (QM.get m i g))) [Col.mk (QM.free (QM.get m i g)) [] []]))), some (Sum.inl (30, [Value.int IntKind.i64 i, Value.int IntKind.i64 g]))]))) ∧ (hasQ m i g = false → Post (G (Value.tuple (Array.mk [Value.int IntKind.i64 (QM.getV m i g), Value.bool (hasQ m i g)])) [some (Sum.inl (44, [Value.slice (some (Addr.mk 1 0 (some 1000))) (List.length (QM.vs (QM.get m i g))) 0, Value.slice (some (Addr.mk 2 0 (some 1000))) (List.length (QM.gens (QM.get m i g))) 0, Value.slice (some (Addr.mk 3 0 (some 1000))) (List.length (QM.live (QM.get m i g))) 0, Value.slice (some (Addr.mk 4 0 (some 1000))) (List.length (QM.free (QM.get m i g))) 0, Value.int IntKind.i64 (QM.cap (QM.get m i g)), Value.int IntKind.i64 (QM.visits (QM.get m i g))])), some (Sum.inr (Sum.inl (3, Row.mk [Value.int IntKind.i64 0] (List.length (QM.vs (QM.get m i g))) [Col.mk (QM.vs (QM.get m i g)) [] []]))), some (Sum.inr (Sum.inl (3, Row.mk [Value.int IntKind.i64 0] (List.length (QM.gens (QM.get m i g))) [Col.mk (QM.gens (QM.get m i g)) [] []]))), some (Sum.inr (Sum.inl (4, Row.mk [Value.bool false] (List.length (QM.live (QM.get m i g))) [Col.mk [] (QM.live (QM.get m i g)) []]))), some (Sum.inr (Sum.inl (3, Row.mk [Value.int IntKind.i64 0] (List.length (QM.free (QM.get m i g))) [Col.mk (QM.free (QM.get m i g)) [] []]))), some (Sum.inl (30, [Value.int IntKind.i64 i, Value.int IntKind.i64 g]))]))) ?_ (by kernel_rfl)
    subst hG
    have v1 := hv.gens
    have v2 := hv.live
    have v3 := hv.cells
    have v4 := hv.vis
    have v5 := hv.frees
    have c1 : cut [i] 0 1 = [i] := rfl
    have w := hasQ_spec (m := m) (i := i) (g := g)
    simp only [cut_all, c1, Nat.zero_add]
    simp only [QM.get]
    refine ⟨⟨rfl, v1, v2, by omega, v4.1, by omega⟩, fun h => ?_, fun h => ?_⟩
    · have hh := h
      obtain ⟨w1, w2, w3, w4⟩ := w h
      repeat' (first | apply And.intro | apply Vc.mk | apply fits.mk | intro h | apply Post.mk)
      all_goals (try simp only [decide_eq_true_eq, decide_eq_false_iff_not, Nat.zero_add, ge_iff_le, Int.not_le, Int.not_lt, Int.toNat_natCast, beq_iff_eq, beq_eq_false_iff_ne, Bool.not_eq_true', Bool.not_eq_false'] at *)
      all_goals first | omega | (apply congrArg Value.bool; assumption) | exact ⟨rfl, by omega⟩ | exact rfl | (simp [*, -List.getD_eq_getElem?_getD]; done) | skip
      · refine ⟨⟨[0, 1, 2, 3, 7], ?_, rfl, ?_, rfl, rfl, rfl, rfl, rfl⟩⟩
        · simp [mvV, mvL, dnV, dnL, h]
        · simp [layRef, QM.drop, unf, unfGo, unfB, off, width, L, lay, newHp, mvO, mvSB, Pulls, pullB, nth, at2, dnL, dnV, mvL, mvV, mvA, mvQ_lt, blt_true, blt_false, RowLe, colI, colB, *, -List.getD_eq_getElem?_getD]; omega
      · have h3 : ¬ g < 4294967295 := by omega
        refine ⟨⟨[0, 1, 2, 3, 4], ?_, rfl, ?_, rfl, rfl, rfl, rfl, rfl⟩⟩
        · simp [mvV, mvL, dnV, dnL, h]
        · simp [layRef, QM.drop, hh, h3, unf, unfGo, unfB, off, width, L, lay, newHp, mvO, mvSB, Pulls, pullB, nth, at2, dnL, dnV, mvL, mvV, mvA, mvQ_lt, blt_true, blt_false, RowLe, colI, colB]
    · refine ⟨⟨⟨[0, 1, 2, 3, 4], ?_, rfl, ?_, rfl, rfl, rfl, rfl, rfl⟩⟩⟩
      · simp [mvV, mvL, dnV, dnL, h]
      · simp [layRef, QM.drop, h, unf, unfGo, unfB, off, width, L, lay, newHp, mvO, mvSB, Pulls, pullB, nth, at2, dnL, dnV, mvL, mvV, mvA, mvQ_lt, blt_true, blt_false, RowLe, colI, colB]
  · cases hx
def rlenP : Prim Rs := fun args hh => match args, hh with
  | [.pointer (some ⟨0, 0, none⟩)], [some (.inr (.inr (.inr (.ref m))))] => some ⟨m.Ok 10000, .int .i64 m.len, none, hh, [], []⟩
  | _, _ => none
theorem rlen_ok : ConOk D Try.prog 21 (con1 rlenP) := by
  refine con1_ok (res_prim (L := L) (D0 := NoR) (fn := Try.f21) (root := codeOf Try.f21) (by kernel_rfl) (by kernel_rfl) (by kernel_rfl) fun args hh x hx => ?_)
  unfold rlenP at hx
  split at hx
  · rename_i m
    injection hx with hx
    subst hx
    refine ⟨by first | exact Nat.le_refl _ | exact Nat.zero_le _, noLit rfl, (fun hw => by first | rfl | cases hw), fun _ hv => ?_⟩
    have v3 := hv.cells
    have v2 := hv.live
    exact qlen_run (by omega) ⟨⟨[0, 1, 2, 3, 4], rfl, rfl, by simp [layRef, unf, unfGo, unfB, off, width, L, lay, newHp, mvO, mvSB, Pulls, pullB, nth, at2, dnL, dnV, mvL, mvV, mvA, mvQ_lt, blt_true, blt_false, RowLe, colI, colB], rfl, rfl, rfl, rfl, rfl⟩⟩
  · cases hx
end Go.Proofs.Ytloibbakklenbaa.Ar
