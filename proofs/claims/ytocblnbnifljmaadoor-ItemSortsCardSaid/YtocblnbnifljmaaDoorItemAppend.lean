/- append of a slice of items onto a row of the call's own, the source nil, empty or not. -/
import Derived.Test.YtocblnbnifljmaaDoorItemMin
import Derived.Maps.AppendAt
import Derived.Deep.AppendLies
import Derived.Laws.OwnMore
namespace Go.Proofs.YtocblnbnifljmaaDoor.Item
open Go.Sort Go.RowKit Go.Lib
set_option linter.unusedVariables false

/-- the slice v owns the items xs, in a block from base on (or is nil and has none) -/
def Own (w : World) (base : Nat) (v : Value) (xs : List It) : Prop := w.ownsRow base 23 2 v xs.length (flatI xs)
theorem itemInfo : (Tryd.prog.info? 23).map (fun i => (i.zero, i.size, i.bytes)) = some (some (.agg #[.int .i64 0, .int .i64 0]), 2, 16) := by kernel_rfl
theorem plus_at (b o j : Nat) : (⟨b, o, none⟩ : Addr).add j = ⟨b, o + j, none⟩ := by
  unfold Addr.add; split
  · rename_i h; subst h; rfl
  · rfl
set_option maxRecDepth 100000 in
theorem append_it (w : World) (ty : TypeId) (base : Nat) (v : Value) (xs : List It) (hown : Own w base v xs) (B : Nat) (A : Option Addr) (ys : List It) (c : Nat) (hr : Rd w B A ys)
    (hroom : xs.length + ys.length ≤ 4000) (hbase : base ≤ w.heap.size) :
    ∃ v' w', (Builtin.append_ #[28, 28] ty #[v, .slice A ys.length c]).run Tryd.prog w = .ok v' w' ∧ Own w' base v' (xs ++ ys) ∧ w.grownBy w' v.ownBlock ∧
      (v'.ownBlock = v.ownBlock ∨ v'.ownBlock = some w.heap.size) := by
  obtain ⟨i, hi, hz, hsize, hby⟩ := info_parts itemInfo
  cases A with
  | none =>
    have hy : ys = [] := by
      cases ys with
      | nil => rfl
      | cons y t => obtain ⟨b, o, e, _⟩ := hr (by simp); cases e
    subst hy
    refine ⟨v, w, ?_, by simpa using hown, World.grownBy.refl w _, Or.inl rfl⟩
    rcases hown.2 with ⟨rfl, hn⟩ | ⟨g, cap, cur, rfl, _, _, hnc, _⟩
    · simp [Builtin.append_, run_underlying Tryd.underlying28, sizeOf, typeInfo, hi, Builtin.lenOf, Builtin.firstCells]
    · simp [Builtin.append_, run_underlying Tryd.underlying28, sizeOf, typeInfo, hi, Builtin.lenOf, Builtin.firstCells, hnc, storeCells]
  | some ad =>
    have hnews : ∀ j u, (flatI ys)[j]? = some u → w.cell? (ad.add j) = some u := by
      intro j u hu
      cases ys with
      | nil => simp [flatI] at hu
      | cons y t =>
        obtain ⟨b, o, e, _, hc⟩ := hr (by simp)
        replace e := Option.some.inj e
        subst e
        rw [plus_at]
        exact hc j u hu
    obtain ⟨v', w', h1, h2, h3, _, h5⟩ := run_append_own_at (P := Tryd.prog) w base 28 ty 23 i _ 2 16 Tryd.underlying28 hi hz hsize hby rfl (by omega) v xs.length (flatI xs) hown ad ys.length c (flatI ys)
      (flatI_length ys) hnews (flatI_one ys) (by unfold maxLen; omega) (by omega) hbase
    refine ⟨v', w', h1, ?_, h3, h5⟩
    unfold Own
    rw [List.length_append, flatI_append]
    exact h2

/-- the same, where the walk stands at the operation -/
theorem wpList_append_it {ops : Array Oper} {rest : List Oper} {o : Oper} {a : Act} {Q : Exit → Act → World → Prop} {w : World} (hgd : o.guard = none) (s x : Operand)
    (ho : o.op = .call { callee := .builtin .append, args := #[s, x], argTypes := #[28, 28] })
    (base : Nat) (v : Value) (xs : List It) (hs : a.eval s = v) (hown : Own w base v xs) (B : Nat) (A : Option Addr) (ys : List It) (n c : Nat) (hx : a.eval x = .slice A n c) (hn : n = ys.length) (hr : Rd w B A ys)
    (hroom : xs.length + ys.length ≤ 4000) (hbase : base ≤ w.heap.size)
    (h : ∀ v' w', Own w' base v' (xs ++ ys) → w.grownBy w' v.ownBlock → (v'.ownBlock = v.ownBlock ∨ v'.ownBlock = some w.heap.size) → wpList Tryd.prog ops Q rest (a.put o.dst v') w') : wpList Tryd.prog ops Q (o :: rest) a w := by
  subst hn
  refine wpList_plain hgd fun K hK => ?_
  obtain ⟨v', w', hrun, h2, h3, h4⟩ := append_it w o.type base v xs hown B A ys c hr hroom hbase
  unfold Oper.wp execOp
  simp only [ho, resolve, invoke, builtin, Sem.run_bind, Sem.run_pure, Result.andThen_ok, List.map_toArray, List.map_cons, List.map_nil, hs, hx, hrun]
  exact hK _ _ (h v' w' h2 h3 h4)

/-- a nil slice owns no item -/
theorem Own.nil (w : World) (base : Nat) : Own w base (.slice none 0 0) [] := World.ownsRow_nil _ _ _ _
/-- an owned slice, taken apart -/
theorem Own.form {w : World} {base : Nat} {v : Value} {xs : List It} (h : Own w base v xs) : ∃ A c, v = .slice A xs.length c ∧ Rd w w.heap.size A xs ∧ xs.length ≤ c ∧ c ≤ 9223372036854775807 := by
  rcases h.2 with ⟨rfl, hn⟩ | ⟨g, cap, cur, rfl, hb, hh, hnc, hcm, hsz, htake⟩
  · refine ⟨none, 0, by rw [hn], fun hl => by omega, by omega, by omega⟩
  · refine ⟨_, cap, rfl, ?_, hnc, by unfold maxLen at hcm; exact hcm⟩
    refine (fun hl => ⟨g, 0, rfl, ?_, fun j u hu => ?_⟩)
    · rcases Nat.lt_or_ge g w.heap.size with h | h
      · exact h
      · rw [Array.getElem?_eq_none h] at hh; cases hh
    · rw [cell_of_row w g (0 + j) cur 23 (0, 0) hh, Nat.zero_add, ← Array.getElem?_toList]
      rw [← htake, List.getElem?_take] at hu
      split at hu
      · exact hu
      · cases hu
theorem Own.form' {w : World} {base : Nat} {v : Value} {xs : List It} (h : Own w base v xs) (hl : 0 < xs.length) : ∃ g c, v = .slice (some ⟨g, 0, none⟩) xs.length c ∧ xs.length ≤ c ∧ base ≤ g := by
  rcases h.2 with ⟨rfl, hn⟩ | ⟨g, cap, cur, rfl, hb, hh, hnc, _⟩
  · omega
  · exact ⟨g, cap, rfl, hnc, hb⟩
theorem Own.down {w : World} {base base' : Nat} {v : Value} {xs : List It} (h : Own w base v xs) (hb : base' ≤ base) : Own w base' v xs := by
  refine ⟨h.1, ?_⟩
  rcases h.2 with h' | ⟨g, cap, cur, hv, hba, hr⟩
  · exact Or.inl h'
  · exact Or.inr ⟨g, cap, cur, hv, Nat.le_trans hb hba, hr⟩
theorem flatI_take (xs : List It) (k : Nat) : flatI (xs.take k) = (flatI xs).take (k * 2) := by
  induction xs generalizing k with
  | nil => simp [flatI]
  | cons x t ih =>
    cases k with
    | zero => simp [flatI]
    | succ k => rw [List.take_succ_cons, flatI_cons, flatI_cons, ih, show (k + 1) * 2 = k * 2 + 1 + 1 by omega]; rfl
theorem flatI_drop (xs : List It) (k : Nat) : flatI (xs.drop k) = (flatI xs).drop (k * 2) := by
  induction xs generalizing k with
  | nil => simp [flatI]
  | cons x t ih =>
    cases k with
    | zero => simp [flatI]
    | succ k => rw [List.drop_succ_cons, flatI_cons, ih, show (k + 1) * 2 = k * 2 + 1 + 1 by omega]; rfl
/-- the first k of a slice -/
theorem Rd.take {w : World} {B : Nat} {A : Option Addr} {xs : List It} (h : Rd w B A xs) (k : Nat) : Rd w B A (xs.take k) := fun hl => by
  obtain ⟨b, o, e, hlt, hc⟩ := h (by simp at hl; omega)
  refine ⟨b, o, e, hlt, fun j u hu => hc j u ?_⟩
  rw [flatI_take, List.getElem?_take] at hu
  split at hu
  · exact hu
  · cases hu
/-- those from k on, as the program's cut has them -/
theorem Rd.drop {w : World} {B : Nat} {A : Option Addr} {xs : List It} (h : Rd w B A xs) (k c : Nat) (hc : xs.length ≤ c) : Rd w B (if c = k then A else A.map (·.add (k * 2))) (xs.drop k) := fun hl => by
  rw [List.length_drop] at hl
  obtain ⟨b, o, rfl, hlt, hcell⟩ := h (by omega)
  rw [if_neg (by omega)]
  refine ⟨b, o + k * 2, by rw [Option.map_some, plus_at], hlt, fun j u hu => ?_⟩
  rw [flatI_drop, List.getElem?_drop] at hu
  rw [Nat.add_assoc]
  exact hcell _ u hu
/-- one item in a block of its own -/
theorem Rd.one (w : World) (x : It) (B : Nat) (hB : w.heap.size < B) : Rd (w.alloc (.cells #[.int .i64 x.1, .int .i64 x.2] 23)) B (some ⟨w.heap.size, 0, none⟩) [x] := fun _ => by
  refine ⟨_, 0, rfl, hB, fun j u hu => ?_⟩
  rw [cell_of_row _ w.heap.size (0 + j) _ _ (0, 0) (heap_alloc_new w _), Nat.zero_add, ← Array.getElem?_toList]
  exact hu
theorem Own.below {w w' : World} {base B : Nat} {v : Value} {xs : List It} (h : Own w base v xs) (hb : Below B w w') (hB : w.heap.size ≤ B) : Own w' base v xs := by
  refine ⟨h.1, ?_⟩
  rcases h.2 with h' | ⟨g, cap, cur, hv, hba, hh, hr⟩
  · exact Or.inl h'
  · refine Or.inr ⟨g, cap, cur, hv, hba, ?_, hr⟩
    have hlt : g < w.heap.size := by
      rcases Nat.lt_or_ge g w.heap.size with h | h
      · exact h
      · rw [Array.getElem?_eq_none h] at hh; cases hh
    rw [hb.block g (by omega)]
    exact hh
theorem Own.block_ge {w : World} {base : Nat} {v : Value} {xs : List It} (h : Own w base v xs) : ∀ k, v.ownBlock = some k → base ≤ k := by
  intro k hk
  rcases h.2 with ⟨rfl, _⟩ | ⟨g, cap, cur, rfl, hb, _⟩
  · simp [Value.ownBlock] at hk
  · simp [Value.ownBlock] at hk; omega
end Go.Proofs.YtocblnbnifljmaaDoor.Item
