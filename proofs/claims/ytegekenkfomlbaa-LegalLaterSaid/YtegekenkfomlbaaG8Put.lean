/- grove: a pool of nodes of marks: Put. -/
import Derived.Test.YtegekenkfomlbaaG8Pool
namespace Go.Proofs.Ytegekenkfomlbaa.G8
open Go.Proofs.Ytegekenkfomlbaa.Rx
set_option linter.unusedVariables false
set_option linter.unusedSimpArgs false
set_option maxRecDepth 100000
theorem row_new (m : Pl) (k : Nat) (x : Nd) (g : List Int) (b : List Bool) : (⟨cellTm, m.vs.length + 1, cG m.vs k x g b⟩ : Row) = ⟨cellTm, ((m.vs ++ [zd]).set k x).length, cM ((m.vs ++ [zd]).set k x) g b⟩ := by
  unfold cG cM
  simp only [List.map_set, List.map_append, List.length_set, List.length_append, List.map_cons, List.map_nil, List.length_cons, List.length_nil]
  rfl
theorem put_full {m : Pl} (h0 : m.held = m.cap) (x : Nd) : Gv.put zd m x = m ∧ Gv.putR zd m = ⟨0, 0⟩ := by
  unfold Gv.put Gv.putR
  rw [if_pos h0, if_pos h0]
  exact ⟨rfl, rfl⟩
theorem put_grow {m : Pl} (h0 : ¬ m.held = m.cap) (hf : m.free.length = 0) (x : Nd) : Gv.put zd m x = ⟨(m.vs ++ [zd]).set m.vs.length x, (m.gens ++ [0]).set m.vs.length ((m.gens ++ [0]).getD m.vs.length 0 + 1), (m.live ++ [false]).set m.vs.length true, m.free, m.held + 1, m.cap, m.visits⟩ ∧ Gv.putR zd m = ⟨m.vs.length, (m.gens ++ [0]).getD m.vs.length 0 + 1⟩ := by
  have en : Gv.nextIdx m = m.vs.length := by rw [Gv.nextIdx, if_pos hf]
  unfold Gv.put Gv.putR Gv.putG Gv.nextPM
  rw [if_neg h0, if_neg h0]
  simp only [if_pos hf, en, Int.toNat_natCast]
  constructor <;> first | rfl | trivial
theorem put_free {m : Pl} (h0 : ¬ m.held = m.cap) (hf : ¬ m.free.length = 0) (x : Nd) : Gv.put zd m x = ⟨m.vs.set (m.free.getD (m.free.length - 1) 0).toNat x, m.gens.set (m.free.getD (m.free.length - 1) 0).toNat (m.gens.getD (m.free.getD (m.free.length - 1) 0).toNat 0 + 1), m.live.set (m.free.getD (m.free.length - 1) 0).toNat true, m.free.take (m.free.length - 1), m.held + 1, m.cap, m.visits⟩ ∧ Gv.putR zd m = ⟨m.free.getD (m.free.length - 1) 0, m.gens.getD (m.free.getD (m.free.length - 1) 0).toNat 0 + 1⟩ := by
  have en : Gv.nextIdx m = m.free.getD (m.free.length - 1) 0 := by rw [Gv.nextIdx, if_neg hf]
  unfold Gv.put Gv.putR Gv.putG Gv.nextPM
  rw [if_neg h0, if_neg h0]
  simp only [if_neg hf, en]
  constructor <;> first | rfl | trivial
structure Bds (m : Pl) : Prop where
  gens : m.gens.length = m.vs.length
  cells : m.vs.length < 1000000
  frees : m.free.length < 1000000
  held : -1000000 ≤ m.held ∧ m.held < 1000000
  gen : ∀ i, 0 ≤ m.gens.getD i 0 ∧ m.gens.getD i 0 ≤ 100000
  last : ¬ m.free.length = 0 → 0 ≤ m.free.getD (m.free.length - 1) 0 ∧ m.free.getD (m.free.length - 1) 0 < m.vs.length
theorem bds {m : Pl} (hv : PP m) : Bds m := by
  have v1 := hv.gens
  have v3 := hv.cells
  have v4 := hv.frees
  have v5 := hv.hld
  refine ⟨v1, by omega, by omega, by omega, fun i => ?_, fun h => ?_⟩
  · have := Gv.gens_bound (i := i) hv.gen
    omega
  · have := hv.inn _ (getD_mem (d := 0) (l := m.free) (i := m.free.length - 1) (by omega))
    exact ⟨this.1, this.2.1⟩
theorem get_same (l : List Int) (k : Nat) (x : Int) (h : k < l.length) : (l.set k x).getD k 0 = x := by
  rw [getD_set, if_pos ⟨rfl, h⟩]
def putP : Prim Rs := fun args hh => match args, hh with
  | [.pointer (some ⟨0, 0, none⟩), .agg ⟨xN⟩], [some (.inr (.inr (.inr (.pool m))))] => some ⟨xN = ndL (ndOf xN) ∧ PP m, .tuple #[.agg ⟨[.int .i64 (Gv.putR zd m).i, .int .i64 (Gv.putR zd m).g]⟩, .bool (!decide (m.held = m.cap))], none, [some (.inr (.inr (.inr (.pool (Gv.put zd m (ndOf xN))))))], [], [(0, 0)]⟩
  | _, _ => none
theorem put_ok : ConOk D Try.prog 36 (con1 putP) := by
  refine con1_ok (res_prim (L := L) (D0 := NoR) (fn := Try.f36) (root := codeOf Try.f36) (by kernel_rfl) (by kernel_rfl) (by kernel_rfl) fun args hh x hx => ?_)
  unfold putP at hx
  split at hx
  · rename_i xN m
    injection hx with hx
    subst hx
    refine ⟨by first | exact Nat.le_refl _ | exact Nat.zero_le _ | exact Nat.le_succ _ | exact Nat.le_add_left 1 3 | exact Nat.le_add_left 2 2 | exact Nat.le_add_left 1 2, noLit rfl, (fun hw => by first | rfl | cases hw), fun _ hv => ?_⟩
    obtain ⟨hq, hv⟩ := hv; generalize ndOf xN = x at *; subst hq
    generalize hG : EndsU (R := Rs) (R0 := Empty) _ _ _ = G
    refine rx_ok (T := TA) TA_ok mixed 200 ?_
    refine as_text (q := let zz11 := Value.int IntKind.i64; let zz1 := (Gv.PM.vs m); let zz2 := (List.length zz1); let zz3 := (Gv.PM.free m); let zz4 := (cM zz1 (Gv.PM.gens m) (Gv.PM.live m)); let zz5 := (List.getD (Gv.PM.gens m ++ [(0 : Int)]) (0 + Int.toNat (↑zz2 : Int)) (0 : Int) + (1 : Int)); let zz6 := (List.set (Gv.PM.gens m ++ [(0 : Int)]) (0 + Int.toNat (↑zz2 : Int)) zz5); let zz7 := (List.length zz3 - 1); let zz8 := (List.getD zz3 zz7 (0 : Int)); let zz9 := (List.getD (Gv.PM.gens m) (0 + Int.toNat zz8) (0 : Int) + (1 : Int)); let zz10 := (List.getD (List.set (Gv.PM.gens m) (0 + Int.toNat zz8) zz9) (0 + Int.toNat zz8) (0 : Int)); ((Gv.PM.held m == Gv.PM.cap m) = true → Post (G (Value.tuple (Array.mk [Value.agg (Array.mk [zz11 0, zz11 0]), Value.bool false])) [some (Sum.inl (89, [Value.slice (some (Addr.mk 1 0 (some 32000))) zz2 0, Value.slice (some (Addr.mk 2 0 (some 1000))) (List.length zz3) 0, zz11 (Gv.PM.held m), zz11 (Gv.PM.cap m), zz11 (Gv.PM.visits m)])), some (Sum.inr (Sum.inl (92, Row.mk cellTm zz2 zz4))), some (Sum.inr (Sum.inl (3, Row.mk [zz11 0] (List.length zz3) [Col.mk zz3 [] []]))), some (Sum.inl (72, (ndL x))), some (Sum.inl (70, [zz11 0, zz11 0]))])) ∧ ((Gv.PM.held m == Gv.PM.cap m) = false → (decide (List.length zz3 = 0) = true → Vc (List.length zz3 = 0 ∧ List.length zz3 = List.length zz3 ∧ 0 = 0 ∧ 0 = 0 ∧ cellTm = cellTm ∧ List.length zz1 = List.length zz1 ∧ List.length zz1 < 1000000 ∧ ColsL zz2 zz4) ∧ Vc ((0 : Int) ≤ (↑zz2 : Int) ∧ (↑zz2 : Int) < (↑(List.length zz1 + 1) : Int) ∧ 0 + (List.length zz1 + 1) ≤ List.length zz1 + 1) ∧ Vc (0 + Int.toNat (↑zz2 : Int) < List.length zz1 + 1) ∧ Vc (0 + Int.toNat (↑zz2 : Int) < List.length zz1 + 1) ∧ Vc (0 + Int.toNat (↑zz2 : Int) < List.length zz1 + 1) ∧ Vc (fits zz5) ∧ Vc (0 + Int.toNat (↑zz2 : Int) < List.length zz1 + 1) ∧ Vc (fits (Gv.PM.held m + (1 : Int))) ∧ Vc (0 + Int.toNat (↑zz2 : Int) < List.length zz1 + 1) ∧ Post (G (Value.tuple (Array.mk [Value.agg (Array.mk [zz11 (↑zz2 : Int), zz11 (List.getD zz6 (0 + Int.toNat (↑zz2 : Int)) (0 : Int))]), Value.bool true])) [some (Sum.inl (89, [Value.slice (some (Addr.mk 5 0 (some 32000))) (List.length zz1 + 1) 0, Value.slice (some (Addr.mk 2 0 (some 1000))) (List.length zz3) 0, zz11 (Gv.PM.held m + (1 : Int)), zz11 (Gv.PM.cap m), zz11 (Gv.PM.visits m)])), none, some (Sum.inr (Sum.inl (3, Row.mk [zz11 0] (List.length zz3) [Col.mk zz3 [] []]))), some (Sum.inl (72, (ndL x))), some (Sum.inl (70, [zz11 (↑zz2 : Int), zz11 (List.getD zz6 (0 + Int.toNat (↑zz2 : Int)) (0 : Int))])), some (Sum.inr (Sum.inl (92, Row.mk cellTm (List.length zz1 + 1) (cG zz1 (0 + Int.toNat (↑zz2 : Int)) x zz6 (List.set (Gv.PM.live m ++ [false]) (0 + Int.toNat (↑zz2 : Int)) true)))))])) ∧ (decide (List.length zz3 = 0) = false → Vc (List.length zz3 ≠ 0 ∧ List.length zz3 = List.length zz3 ∧ List.length zz3 = List.length zz3 ∧ 0 = 0 ∧ 0 = 0 ∧ List.length zz3 < 1000000 ∧ cellTm = cellTm ∧ List.length zz1 = List.length zz1 ∧ List.length zz1 < 1000000 ∧ ColsL zz2 zz4) ∧ Vc ((0 : Int) ≤ List.getD zz3 zz7 (0 : Int) ∧ List.getD zz3 zz7 (0 : Int) < (↑zz2 : Int) ∧ 0 + List.length zz1 ≤ List.length zz1) ∧ Vc (0 + Int.toNat zz8 < List.length zz1) ∧ Vc (0 + Int.toNat zz8 < List.length zz1) ∧ Vc (0 + Int.toNat zz8 < List.length zz1) ∧ Vc (fits zz9) ∧ Vc (0 + Int.toNat zz8 < List.length zz1) ∧ Vc (fits (Gv.PM.held m + (1 : Int))) ∧ Vc (0 + Int.toNat zz8 < List.length zz1) ∧ Post (G (Value.tuple (Array.mk [Value.agg (Array.mk [zz11 zz8, zz11 zz10]), Value.bool true])) [some (Sum.inl (89, [Value.slice (some (Addr.mk 1 0 (some 32000))) zz2 0, Value.slice (some (Addr.mk 2 0 (some 1000))) zz7 0, zz11 (Gv.PM.held m + (1 : Int)), zz11 (Gv.PM.cap m), zz11 (Gv.PM.visits m)])), some (Sum.inr (Sum.inl (92, Row.mk cellTm zz2 (cS zz1 (0 + Int.toNat zz8) x (List.set (Gv.PM.gens m) (0 + Int.toNat zz8) zz9) (List.set (Gv.PM.live m) (0 + Int.toNat zz8) true))))), some (Sum.inr (Sum.inl (3, Row.mk [zz11 0] zz7 [Col.mk (List.take zz7 zz3) [] []]))), some (Sum.inl (72, (ndL x))), some (Sum.inl (70, [zz11 zz8, zz11 zz10]))])))) ?_ (by kernel_rfl)
    intro zz11 zz1 zz2 zz3 zz4 zz5 zz6 zz7 zz8 zz9 zz10; subst zz10 zz9 zz8 zz7 zz6 zz5 zz4 zz3 zz2 zz1 zz11
    subst hG
    simp only [Nat.zero_add, Int.toNat_natCast]
    have hb := bds hv
    refine ⟨fun h => ?_, fun h => ⟨fun hf => ?_, fun hf => ?_⟩⟩
    · have h0 : m.held = m.cap := eq_of_beq h
      rw [(put_full h0 x).1, (put_full h0 x).2, decide_eq_true h0]
      exact ⟨⟨[0, 1, 2], rfl, rfl, ⟨.inl rfl, ⟨_, rfl, .inl rfl⟩, ⟨_, rfl, .inl rfl⟩, trivial⟩, rfl, rfl, rfl, rfl, rfl⟩⟩
    · have h0 : ¬ m.held = m.cap := fun c => by rw [c, beq_self_eq_true] at h; cases h
      have h1 : m.free.length = 0 := of_decide_eq_true hf
      have hk : m.vs.length < (m.gens ++ [0]).length := by rw [List.length_append, hb.gens]; exact Nat.lt_succ_self _
      have e1 : (m.gens ++ [0]).getD m.vs.length 0 = 0 := by rw [getD_append1, if_pos hb.gens.symm]
      rw [(put_grow h0 h1 x).1, (put_grow h0 h1 x).2, decide_eq_false h0, get_same _ _ _ hk]
      refine ⟨⟨h1, trivial, trivial, trivial, trivial, trivial, hb.cells, cols_of hv⟩, ⟨by omega, by omega, Nat.le_refl _⟩, ⟨Nat.lt_succ_self _⟩, ⟨Nat.lt_succ_self _⟩, ⟨Nat.lt_succ_self _⟩, ⟨by rw [e1]; exact ⟨by omega, by omega⟩⟩, ⟨Nat.lt_succ_self _⟩, ⟨by have := hb.held; exact ⟨by omega, by omega⟩⟩, ⟨Nat.lt_succ_self _⟩, ⟨[0, 5, 2], rfl, rfl, ?_, rfl, rfl, rfl, rfl, rfl⟩⟩
      exact ⟨.inl (by rw [List.length_set, List.length_append]; rfl), ⟨_, rfl, .inl (row_new m m.vs.length x _ _).symm⟩, ⟨_, rfl, .inl rfl⟩, trivial⟩
    · have h0 : ¬ m.held = m.cap := fun c => by rw [c, beq_self_eq_true] at h; cases h
      have h1 : ¬ m.free.length = 0 := of_decide_eq_false hf
      have hl := hb.last h1
      have hk : (m.free.getD (m.free.length - 1) 0).toNat < m.vs.length := by omega
      rw [(put_free h0 h1 x).1, (put_free h0 h1 x).2, decide_eq_false h0, get_same _ _ _ (by rw [hb.gens]; exact hk)]
      refine ⟨⟨h1, trivial, trivial, trivial, trivial, hb.frees, trivial, trivial, hb.cells, cols_of hv⟩, ⟨hl.1, hl.2, Nat.le_refl _⟩, ⟨hk⟩, ⟨hk⟩, ⟨hk⟩, ⟨by have := hb.gen (m.free.getD (m.free.length - 1) 0).toNat; exact ⟨by omega, by omega⟩⟩, ⟨hk⟩, ⟨by have := hb.held; exact ⟨by omega, by omega⟩⟩, ⟨hk⟩, ⟨[0, 1, 2], rfl, rfl, ?_, rfl, rfl, rfl, rfl, rfl⟩⟩
      exact ⟨.inl (by rw [List.length_set, List.length_take, Nat.min_eq_left (Nat.sub_le _ _)]; rfl), ⟨_, rfl, .inl (set_row m _ x _ _).symm⟩, ⟨_, rfl, .inl (by rw [List.length_take, Nat.min_eq_left (Nat.sub_le _ _)])⟩, trivial⟩
  · cases hx
end Go.Proofs.Ytegekenkfomlbaa.G8
