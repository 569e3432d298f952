/- grove: a pool of nodes of marks: the pool's functions. -/
import Derived.Test.YtegekenkfomlbaaG8Visit
import Derived.Test.YtegekenkfomlbaaG8Res
namespace Go.Proofs.Ytegekenkfomlbaa.G8
open Go.Proofs.Ytegekenkfomlbaa.Rx
set_option linter.unusedVariables false
set_option linter.unusedSimpArgs false
set_option maxRecDepth 100000
def TA : Tab Empty := [(43, liftC zN 2 nextC), (46, liftC zN 2 visitC)]
theorem TA_ok : TabOk NoR Try.prog TA := ⟨liftC_ok _ _ next_ok, liftC_ok _ _ visit_ok, trivial⟩
abbrev PP (m : Pl) : Prop := Gv.POk 100000 m
theorem hasC_eq (m : Pl) (i g : Int) : hasC m.vs.length m.gens m.live i g = Gv.has m ⟨i, g⟩ := rfl
theorem has_at {m : Pl} {i g : Int} (h : Gv.has m ⟨i, g⟩ = true) : 0 ≤ i ∧ i < m.vs.length ∧ m.live.getD i.toNat false = true ∧ m.gens.getD i.toNat 0 = g := Gv.has_spec h
theorem map_get {α : Type} (f : Nd → α) (m : Pl) (k : Nat) (a : α) (ha : f zd = a) : (m.vs.map f).getD k a = f (m.vs.getD k zd) := by
  subst ha
  simp only [List.getD_eq_getElem?_getD, List.getElem?_map]
  cases m.vs[k]? <;> rfl
theorem get_val (m : Pl) (k : Nat) : gM m.vs k = ndL (m.vs.getD k zd) := by
  unfold gM ndL
  simp only [map_get (fun n : Nd => n.e.t) m _ 0 rfl, map_get (fun n : Nd => n.e.ins) m _ false rfl, map_get (fun n : Nd => n.e.it.k) m _ 0 rfl, map_get (fun n : Nd => n.e.it.i) m _ 0 rfl, map_get (fun n : Nd => n.e.here) m _ false rfl, map_get (fun n : Nd => n.e.tf) m _ false rfl, map_get (fun n : Nd => n.e.tk.k) m _ 0 rfl, map_get (fun n : Nd => n.e.tk.i) m _ 0 rfl, map_get (fun n : Nd => n.l.i) m _ 0 rfl, map_get (fun n : Nd => n.l.g) m _ 0 rfl, map_get (fun n : Nd => n.r.i) m _ 0 rfl, map_get (fun n : Nd => n.r.g) m _ 0 rfl, map_get (fun n : Nd => n.all.n) m _ 0 rfl, map_get (fun n : Nd => n.all.sum.c.n) m _ 0 rfl, map_get (fun n : Nd => n.all.sum.c.s) m _ 0 rfl, map_get (fun n : Nd => n.all.sum.c.l) m _ 0 rfl, map_get (fun n : Nd => n.all.sum.w.n) m _ 0 rfl, map_get (fun n : Nd => n.all.sum.w.s) m _ 0 rfl, map_get (fun n : Nd => n.all.sum.w.l) m _ 0 rfl, map_get (fun n : Nd => n.all.sum.d) m _ 0 rfl, map_get (fun n : Nd => n.all.sum.f) m _ 0 rfl, map_get (fun n : Nd => n.all.sum.m.k) m _ 0 rfl, map_get (fun n : Nd => n.all.sum.m.i) m _ 0 rfl, map_get (fun n : Nd => n.all.sum.gf) m _ false rfl, map_get (fun n : Nd => n.all.sum.g.k) m _ 0 rfl, map_get (fun n : Nd => n.all.sum.g.i) m _ 0 rfl, map_get (fun n : Nd => n.all.sum.lf) m _ false rfl, map_get (fun n : Nd => n.all.sum.l.k) m _ 0 rfl, map_get (fun n : Nd => n.all.sum.l.i) m _ 0 rfl, map_get (fun n : Nd => n.h) m _ 0 rfl]
theorem set_row (m : Pl) (k : Nat) (x : Nd) (g : List Int) (b : List Bool) : (⟨cellTm, m.vs.length, cS m.vs k x g b⟩ : Row) = ⟨cellTm, (m.vs.set k x).length, cM (m.vs.set k x) g b⟩ := by
  unfold cS cM
  simp only [List.map_set, List.length_set]
theorem len_map {α : Type} (f : Nd → α) (m : Pl) : (m.vs.map f).length = m.vs.length := List.length_map ..
theorem cols_of {m : Pl} (hv : PP m) : ColsL m.vs.length (cM m.vs m.gens m.live) := ⟨⟨_, rfl, len_map _ m⟩, ⟨_, rfl, len_map _ m⟩, ⟨_, rfl, len_map _ m⟩, ⟨_, rfl, len_map _ m⟩, ⟨_, rfl, len_map _ m⟩, ⟨_, rfl, len_map _ m⟩, ⟨_, rfl, len_map _ m⟩, ⟨_, rfl, len_map _ m⟩, ⟨_, rfl, len_map _ m⟩, ⟨_, rfl, len_map _ m⟩, ⟨_, rfl, len_map _ m⟩, ⟨_, rfl, len_map _ m⟩, ⟨_, rfl, len_map _ m⟩, ⟨_, rfl, len_map _ m⟩, ⟨_, rfl, len_map _ m⟩, ⟨_, rfl, len_map _ m⟩, ⟨_, rfl, len_map _ m⟩, ⟨_, rfl, len_map _ m⟩, ⟨_, rfl, len_map _ m⟩, ⟨_, rfl, len_map _ m⟩, ⟨_, rfl, len_map _ m⟩, ⟨_, rfl, len_map _ m⟩, ⟨_, rfl, len_map _ m⟩, ⟨_, rfl, len_map _ m⟩, ⟨_, rfl, len_map _ m⟩, ⟨_, rfl, len_map _ m⟩, ⟨_, rfl, len_map _ m⟩, ⟨_, rfl, len_map _ m⟩, ⟨_, rfl, len_map _ m⟩, ⟨_, rfl, len_map _ m⟩, ⟨_, rfl, hv.gens⟩, ⟨_, rfl, hv.live⟩⟩
theorem vis_ok {m : Pl} (hv : PP m) : True ∧ True ∧ m.vs.length < 1000000 ∧ ColsL m.vs.length (cM m.vs m.gens m.live) := ⟨trivial, trivial, by have := hv.cells; omega, cols_of hv⟩
def newP : Prim Rs := fun args hh => match args, hh with
  | [.int .i64 c], [] => some ⟨True, .pointer (some ⟨0, 0, none⟩), none, [some (.inr (.inr (.inr (.pool ⟨[], [], [], [], 0, min (max c 0) 16777216, 0⟩))))], [], [(0, 0)]⟩
  | _, _ => none
theorem new_ok : ConOk D Try.prog 41 (con1 newP) := by
  refine con1_ok (res_prim (L := L) (D0 := NoR) (fn := Try.f41) (root := codeOf Try.f41) (by kernel_rfl) (by kernel_rfl) (by kernel_rfl) fun args hh x hx => ?_)
  unfold newP at hx
  split at hx
  · rename_i c
    injection hx with hx
    subst hx
    refine ⟨by first | exact Nat.le_refl _ | exact Nat.zero_le _ | exact Nat.le_succ _ | exact Nat.le_add_left 1 3 | exact Nat.le_add_left 2 2 | exact Nat.le_add_left 1 2, noLit rfl, (fun hw => by first | rfl | cases hw), fun _ hv => ?_⟩
    generalize hG : EndsU (R := Rs) (R0 := Empty) _ _ _ = G
    refine rx_ok (T := TA) TA_ok mixed 200 ?_
    refine as_text (q := Post (G (Value.pointer (some (Addr.mk 0 0 none))) [some (Sum.inl (89, [Value.slice none 0 0, Value.slice none 0 0, Value.int IntKind.i64 0, Value.int IntKind.i64 (if (16777216 : Int) < if (0 : Int) > c then (0 : Int) else c then (16777216 : Int) else if (0 : Int) > c then (0 : Int) else c), Value.int IntKind.i64 0]))])) ?_ (by kernel_rfl)
    subst hG
    have e : (if 16777216 < if 0 > c then 0 else c then 16777216 else if 0 > c then 0 else c) = min (max c 0) 16777216 := by
      by_cases h1 : 0 > c
      · rw [if_pos h1]; simp; omega
      · rw [if_neg h1]; split <;> omega
    rw [e]
    refine ⟨⟨[0, 1, 1], rfl, rfl, ⟨.inl rfl, ⟨rfl, Nat.succ_pos _, rfl⟩, ⟨rfl, Nat.succ_pos _, rfl⟩, trivial⟩, rfl, rfl, rfl, rfl, rfl⟩⟩
  · cases hx
def getP : Prim Rs := fun args hh => match args, hh with
  | [.pointer (some ⟨0, 0, none⟩), .agg ⟨[.int .i64 i, .int .i64 g]⟩], [some (.inr (.inr (.inr (.pool m))))] => some ⟨PP m, .tuple #[.agg ⟨ndL (Gv.look zd m ⟨i, g⟩)⟩, .bool (Gv.has m ⟨i, g⟩)], none, [some (.inr (.inr (.inr (.pool (Gv.see m ⟨i, g⟩)))))], [], [(0, 0)]⟩
  | _, _ => none
theorem get_ok : ConOk D Try.prog 40 (con1 getP) := by
  refine con1_ok (res_prim (L := L) (D0 := NoR) (fn := Try.f40) (root := codeOf Try.f40) (by kernel_rfl) (by kernel_rfl) (by kernel_rfl) fun args hh x hx => ?_)
  unfold getP at hx
  split at hx
  · rename_i i g m
    injection hx with hx
    subst hx
    refine ⟨by first | exact Nat.le_refl _ | exact Nat.zero_le _ | exact Nat.le_succ _ | exact Nat.le_add_left 1 3 | exact Nat.le_add_left 2 2 | exact Nat.le_add_left 1 2, noLit rfl, (fun hw => by first | rfl | cases hw), fun _ hv => ?_⟩
    generalize hG : EndsU (R := Rs) (R0 := Empty) _ _ _ = G
    refine rx_ok (T := TA) TA_ok mixed 200 ?_
    refine as_text (q := let zz3 := Value.int IntKind.i64; let zz1 := (List.length (Gv.PM.vs m)); let zz2 := (ndL (Gv.Node.mk (Wv.Mk.mk 0 false (Wv.It.mk 0 0) false false (Wv.It.mk 0 0)) (Gv.Ref.mk 0 0) (Gv.Ref.mk 0 0) (Gv.Part.mk 0 (Wv.Sw.mk (Ti.Td.mk 0 0 0) (Ti.Td.mk 0 0 0) 0 0 (Wv.It.mk 0 0) false (Wv.It.mk 0 0) false (Wv.It.mk 0 0))) 0)); (hasC zz1 (Gv.PM.gens m) (Gv.PM.live m) i g = true → Vc (cellTm = cellTm ∧ List.length (Gv.PM.vs m) = List.length (Gv.PM.vs m) ∧ List.length (Gv.PM.vs m) < 1000000 ∧ ColsL zz1 (cM (Gv.PM.vs m) (Gv.PM.gens m) (Gv.PM.live m))) ∧ Vc (Int.toNat i < List.length (Gv.PM.vs m)) ∧ Post (G (Value.tuple (Array.mk [Value.agg (Array.mk (gM (Gv.PM.vs m) (Int.toNat i))), Value.bool true])) [some (Sum.inl (89, [Value.slice (some (Addr.mk 1 0 (some 32000))) zz1 0, Value.slice (some (Addr.mk 2 0 (some 1000))) (List.length (Gv.PM.free m)) 0, zz3 (Gv.PM.held m), zz3 (Gv.PM.cap m), zz3 (IntKind.wrap IntKind.i64 (Gv.PM.visits m + (1 : Int)))])), some (Sum.inr (Sum.inl (92, Row.mk cellTm zz1 (cM (Gv.PM.vs m) (Gv.PM.gens m) (Gv.PM.live m))))), some (Sum.inr (Sum.inl (3, Row.mk [zz3 0] (List.length (Gv.PM.free m)) [Col.mk (Gv.PM.free m) [] []]))), some (Sum.inl (70, [zz3 i, zz3 g])), some (Sum.inl (72, (gM (Gv.PM.vs m) (Int.toNat i))))])) ∧ (hasC zz1 (Gv.PM.gens m) (Gv.PM.live m) i g = false → Vc (cellTm = cellTm ∧ List.length (Gv.PM.vs m) = List.length (Gv.PM.vs m) ∧ List.length (Gv.PM.vs m) < 1000000 ∧ ColsL zz1 (cM (Gv.PM.vs m) (Gv.PM.gens m) (Gv.PM.live m))) ∧ Post (G (Value.tuple (Array.mk [Value.agg (Array.mk zz2), Value.bool false])) [some (Sum.inl (89, [Value.slice (some (Addr.mk 1 0 (some 32000))) zz1 0, Value.slice (some (Addr.mk 2 0 (some 1000))) (List.length (Gv.PM.free m)) 0, zz3 (Gv.PM.held m), zz3 (Gv.PM.cap m), zz3 (Gv.PM.visits m)])), some (Sum.inr (Sum.inl (92, Row.mk cellTm zz1 (cM (Gv.PM.vs m) (Gv.PM.gens m) (Gv.PM.live m))))), some (Sum.inr (Sum.inl (3, Row.mk [zz3 0] (List.length (Gv.PM.free m)) [Col.mk (Gv.PM.free m) [] []]))), some (Sum.inl (70, [zz3 i, zz3 g])), some (Sum.inl (72, zz2)), some (Sum.inl (72, zz2))]))) ?_ (by kernel_rfl)
    intro zz3 zz1 zz2; subst zz2 zz1 zz3
    subst hG
    simp only [hasC_eq, Nat.zero_add]
    refine ⟨fun h => ⟨⟨vis_ok hv⟩, ⟨by have := has_at h; omega⟩, ⟨?_⟩⟩, fun h => ⟨⟨vis_ok hv⟩, ⟨?_⟩⟩⟩
    · have e1 : Gv.look zd m ⟨i, g⟩ = m.vs.getD i.toNat zd := by unfold Gv.look; rw [if_pos h]
      have e2 : Gv.see m ⟨i, g⟩ = Gv.seen m := by unfold Gv.see; rw [if_pos h]
      rw [get_val m i.toNat, e1, e2, h]
      exact ⟨[0, 1, 2], rfl, rfl, ⟨.inl rfl, ⟨_, rfl, .inl rfl⟩, ⟨_, rfl, .inl rfl⟩, trivial⟩, rfl, rfl, rfl, rfl, rfl⟩
    · have e1 : Gv.look zd m ⟨i, g⟩ = zd := by unfold Gv.look; rw [if_neg (by rw [h]; decide)]
      have e2 : Gv.see m ⟨i, g⟩ = m := by unfold Gv.see; rw [if_neg (by rw [h]; decide)]
      rw [e1, e2, h]
      exact ⟨[0, 1, 2], rfl, rfl, ⟨.inl rfl, ⟨_, rfl, .inl rfl⟩, ⟨_, rfl, .inl rfl⟩, trivial⟩, rfl, rfl, rfl, rfl, rfl⟩
  · cases hx
def setP : Prim Rs := fun args hh => match args, hh with
  | [.pointer (some ⟨0, 0, none⟩), .agg ⟨[.int .i64 i, .int .i64 g]⟩, .agg ⟨xN⟩], [some (.inr (.inr (.inr (.pool m))))] => some ⟨xN = ndL (ndOf xN) ∧ PP m, .bool (Gv.has m ⟨i, g⟩), none, [some (.inr (.inr (.inr (.pool (Gv.put1 m ⟨i, g⟩ (ndOf xN))))))], [], [(0, 0)]⟩
  | _, _ => none
theorem set_ok : ConOk D Try.prog 50 (con1 setP) := by
  refine con1_ok (res_prim (L := L) (D0 := NoR) (fn := Try.f50) (root := codeOf Try.f50) (by kernel_rfl) (by kernel_rfl) (by kernel_rfl) fun args hh x hx => ?_)
  unfold setP at hx
  split at hx
  · rename_i i g xN m
    injection hx with hx
    subst hx
    refine ⟨by first | exact Nat.le_refl _ | exact Nat.zero_le _ | exact Nat.le_succ _ | exact Nat.le_add_left 1 3 | exact Nat.le_add_left 2 2 | exact Nat.le_add_left 1 2, noLit rfl, (fun hw => by first | rfl | cases hw), fun _ hv => ?_⟩
    obtain ⟨hq, hv⟩ := hv; generalize ndOf xN = x at *; subst hq
    generalize hG : EndsU (R := Rs) (R0 := Empty) _ _ _ = G
    refine rx_ok (T := TA) TA_ok mixed 200 ?_
    refine as_text (q := let zz2 := Value.int IntKind.i64; let zz1 := (List.length (Gv.PM.vs m)); (hasC zz1 (Gv.PM.gens m) (Gv.PM.live m) i g = true → Vc (cellTm = cellTm ∧ List.length (Gv.PM.vs m) = List.length (Gv.PM.vs m) ∧ List.length (Gv.PM.vs m) < 1000000 ∧ ColsL zz1 (cM (Gv.PM.vs m) (Gv.PM.gens m) (Gv.PM.live m))) ∧ Vc (Int.toNat i < List.length (Gv.PM.vs m)) ∧ Post (G (Value.bool true) [some (Sum.inl (89, [Value.slice (some (Addr.mk 1 0 (some 32000))) zz1 0, Value.slice (some (Addr.mk 2 0 (some 1000))) (List.length (Gv.PM.free m)) 0, zz2 (Gv.PM.held m), zz2 (Gv.PM.cap m), zz2 (IntKind.wrap IntKind.i64 (Gv.PM.visits m + (1 : Int)))])), some (Sum.inr (Sum.inl (92, Row.mk cellTm zz1 (cS (Gv.PM.vs m) (Int.toNat i) x (Gv.PM.gens m) (Gv.PM.live m))))), some (Sum.inr (Sum.inl (3, Row.mk [zz2 0] (List.length (Gv.PM.free m)) [Col.mk (Gv.PM.free m) [] []]))), some (Sum.inl (70, [zz2 i, zz2 g])), some (Sum.inl (72, (ndL x)))])) ∧ (hasC zz1 (Gv.PM.gens m) (Gv.PM.live m) i g = false → Vc (cellTm = cellTm ∧ List.length (Gv.PM.vs m) = List.length (Gv.PM.vs m) ∧ List.length (Gv.PM.vs m) < 1000000 ∧ ColsL zz1 (cM (Gv.PM.vs m) (Gv.PM.gens m) (Gv.PM.live m))) ∧ Post (G (Value.bool false) [some (Sum.inl (89, [Value.slice (some (Addr.mk 1 0 (some 32000))) zz1 0, Value.slice (some (Addr.mk 2 0 (some 1000))) (List.length (Gv.PM.free m)) 0, zz2 (Gv.PM.held m), zz2 (Gv.PM.cap m), zz2 (Gv.PM.visits m)])), some (Sum.inr (Sum.inl (92, Row.mk cellTm zz1 (cM (Gv.PM.vs m) (Gv.PM.gens m) (Gv.PM.live m))))), some (Sum.inr (Sum.inl (3, Row.mk [zz2 0] (List.length (Gv.PM.free m)) [Col.mk (Gv.PM.free m) [] []]))), some (Sum.inl (70, [zz2 i, zz2 g])), some (Sum.inl (72, (ndL x)))]))) ?_ (by kernel_rfl)
    intro zz2 zz1; subst zz1 zz2
    subst hG
    simp only [hasC_eq, Nat.zero_add]
    refine ⟨fun h => ⟨⟨vis_ok hv⟩, ⟨by have := has_at h; omega⟩, ⟨?_⟩⟩, fun h => ⟨⟨vis_ok hv⟩, ⟨?_⟩⟩⟩
    · have e2 : ∀ y, Gv.put1 m ⟨i, g⟩ y = { Gv.seen m with vs := m.vs.set i.toNat y } := fun y => by unfold Gv.put1; rw [if_pos h]
      rw [e2, h]
      exact ⟨[0, 1, 2], rfl, rfl, ⟨.inl (by rw [List.length_set]; rfl), ⟨_, rfl, .inl (set_row m i.toNat x _ _).symm⟩, ⟨_, rfl, .inl rfl⟩, trivial⟩, rfl, rfl, rfl, rfl, rfl⟩
    · have e2 : ∀ y, Gv.put1 m ⟨i, g⟩ y = m := fun y => by unfold Gv.put1; rw [if_neg (by rw [h]; decide)]
      rw [e2, h]
      exact ⟨[0, 1, 2], rfl, rfl, ⟨.inl rfl, ⟨_, rfl, .inl rfl⟩, ⟨_, rfl, .inl rfl⟩, trivial⟩, rfl, rfl, rfl, rfl, rfl⟩
  · cases hx
end Go.Proofs.Ytegekenkfomlbaa.G8
