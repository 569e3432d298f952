/- tag: the law TagMakes, called. -/
import Derived.Test.YtobdpddamdkabaaDoorTgMakes
import Derived.Test.YtobdpddamdkabaaDoorRxC
namespace Go.Proofs.YtobdpddamdkabaaDoor.Tg
open Go.RowKit Go.Proofs.YtobdpddamdkabaaDoor.Rx
set_option linter.unusedVariables false
set_option linter.unusedSimpArgs false
set_option maxRecDepth 100000
theorem fitsL {l : List Int} (h : ∀ x ∈ l, (Lit.int .i64 x).wf = true) (i : Nat) : fits (l.getD i 0) := by
  rcases Nat.lt_or_ge i l.length with hi | hi
  · have := bounds_i64 (h _ (getD_mem (d := 0) hi))
    exact ⟨by omega, by omega⟩
  · rw [List.getD_eq_getElem?_getD, List.getElem?_eq_none hi]; exact ⟨by decide, by decide⟩
theorem range_getD {α : Type} (l : List α) (d : α) {n : Nat} (h : l.length = n) : (List.range n).map (fun i => l.getD i d) = l := by
  subst h
  refine List.ext_getElem (by simp) fun i h1 h2 => ?_
  rw [List.getElem_map, List.getElem_range, List.getD_eq_getElem?_getD, List.getElem?_eq_getElem h2]; rfl
/-- a row of operations, by its columns -/
theorem list_of {r : Row} (hr : r.tm = tmL) (hw : wfCols tmL r.cols r.n) : ∃ l : List Ls, r = rowL l ∧ ∀ y ∈ l, LsOk y := by
  obtain ⟨tm, n, cols⟩ := r
  simp only at hr
  subst hr
  match cols, hw with
  | [c1, c2, c3, c4, c5, c6], hw =>
    obtain ⟨⟨h1, l1, g1⟩, ⟨h2, l2, g2⟩, ⟨h3, l3, g3⟩, ⟨h4, l4⟩, ⟨h5, l5, g5⟩, ⟨h6, l6, g6⟩, _⟩ := hw
    simp only at l1 l2 l3 l4 l5 l6
    have e : uL ⟨tmL, n, [c1, c2, c3, c4, c5, c6]⟩ = (List.range n).map fun i => ⟨c1.i.getD i 0, c2.i.getD i 0, c3.i.getD i 0, c4.b.getD i false, c5.i.getD i 0, c6.i.getD i 0⟩ := rfl
    refine ⟨uL ⟨tmL, n, [c1, c2, c3, c4, c5, c6]⟩, ?_, fun y hy => ?_⟩
    · rw [e]
      unfold rowL colsL
      rw [List.length_map, List.length_range]
      simp only [List.map_map]
      have r1 := range_getD c1.i 0 l1
      have r2 := range_getD c2.i 0 l2
      have r3 := range_getD c3.i 0 l3
      have r4 := range_getD c4.b false l4
      have r5 := range_getD c5.i 0 l5
      have r6 := range_getD c6.i 0 l6
      show (⟨tmL, n, [c1, c2, c3, c4, c5, c6]⟩ : Row) = ⟨tmL, n, [colI ((List.range n).map fun i => c1.i.getD i 0), colI ((List.range n).map fun i => c2.i.getD i 0), colI ((List.range n).map fun i => c3.i.getD i 0), colB ((List.range n).map fun i => c4.b.getD i false), colI ((List.range n).map fun i => c5.i.getD i 0), colI ((List.range n).map fun i => c6.i.getD i 0)]⟩
      rw [r1, r2, r3, r4, r5, r6, ← h1, ← h2, ← h3, ← h4, ← h5, ← h6]
    · rw [e] at hy
      obtain ⟨i, _, rfl⟩ := List.mem_map.1 hy
      exact ⟨fitsL g1 i, fitsL g3 i, fitsL g6 i⟩
theorem ints_of {r : Row} (hr : r.tm = [.int .i64 0]) (hw : wfCols [.int .i64 0] r.cols r.n) : ∃ la : List Int, r = ⟨[.int .i64 0], la.length, [⟨la, [], []⟩]⟩ := by
  obtain ⟨tm, n, cols⟩ := r
  simp only at hr
  subst hr
  match cols, hw with
  | [c1], hw =>
    obtain ⟨⟨h1, l1, g1⟩, _⟩ := hw
    simp only at l1
    refine ⟨c1.i, ?_⟩
    rw [l1]
    show (⟨_, n, [c1]⟩ : Row) = ⟨_, n, [colI c1.i]⟩
    rw [← h1]
theorem makes_law {c cap ser : Int} {p2 p3 : Rx.Place} {r2 r3 : Row} {W : World} (hg : Glob W fun _ => False) (hr2 : r2.tm = [.int .i64 0]) (hw2 : wfCols [.int .i64 0] r2.cols r2.n) (hv2 : ViewOk W p2 r2) (hr3 : r3.tm = tmL) (hw3 : wfCols tmL r3.cols r3.n) (hv3 : ViewOk W p3 r3) :
    Calls Tryd.prog 5 #[.int .i64 c, ren (viewsE [(p2, r2), (p3, r3)]) (.agg ⟨[.int .i64 cap, .int .i64 ser, .slice (some ⟨0, 0, some 1000⟩) r2.n 0, .slice (some ⟨1, 0, some 6000⟩) r3.n 0]⟩)] W fun e W' => e = .returned (.bool true) ∧ Below W.heap.size W W' := by
  obtain ⟨la, rfl⟩ := ints_of hr2 hw2
  obtain ⟨l, rfl, hf⟩ := list_of hr3 hw3
  exact law_calls (D := D) (fn := Tryd.f5) (root := codeOf Tryd.f5) (args := [.int .i64 c, .agg ⟨[.int .i64 cap, .int .i64 ser, .slice (some ⟨0, 0, some 1000⟩) la.length 0, .slice (some ⟨1, 0, some 6000⟩) l.length 0]⟩]) [(p2, ⟨[.int .i64 0], la.length, [⟨la, [], []⟩]⟩), (p3, rowL l)] Tryd.func5 (by kernel_rfl) (fun x hx => (List.mem_cons.1 hx).elim (fun e => e ▸ hv2) fun hx => List.mem_singleton.1 hx ▸ hv3) hg rfl
      (makes_run (c := c) (cap := cap) (ser := ser) (la := la) (l := l) hf fun _ => rfl)
end Go.Proofs.YtobdpddamdkabaaDoor.Tg
