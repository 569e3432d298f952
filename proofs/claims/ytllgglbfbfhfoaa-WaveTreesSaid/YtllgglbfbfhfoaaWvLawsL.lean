/- wave: the laws, called. -/
import Derived.Test.YtllgglbfbfhfoaaWvLaws
import Derived.Test.YtllgglbfbfhfoaaRxC
namespace Go.Proofs.Ytllgglbfbfhfoaa.Wv
open Go.RowKit Go.Proofs.Ytllgglbfbfhfoaa.Rx
set_option linter.unusedVariables false
set_option linter.unusedSimpArgs false
set_option maxRecDepth 100000
abbrev tmM : List Value := [.int .i64 0, .bool false, .int .i64 0, .int .i64 0, .bool false, .bool false, .int .i64 0, .int .i64 0]
theorem col_i {c : Col} {n : Nat} (h : c = colI c.i) (l : c.i.length = n) : c = ⟨(List.range n).map fun i => c.i.getD i 0, [], []⟩ := by
  have e : (List.range n).map (fun i => c.i.getD i 0) = c.i := by
    subst l
    exact range_get fun i hi => by rw [List.getD_eq_getElem?_getD, List.getElem?_eq_getElem hi]; rfl
  rw [e]
  exact h
theorem col_b {c : Col} {n : Nat} (h : c = colB c.b) (l : c.b.length = n) : c = ⟨[], (List.range n).map fun i => c.b.getD i false, []⟩ := by
  have e : (List.range n).map (fun i => c.b.getD i false) = c.b := by
    subst l
    exact range_get fun i hi => by rw [List.getD_eq_getElem?_getD, List.getElem?_eq_getElem hi]; rfl
  rw [e]
  exact h
theorem rowM_of {r : Row} (hr : r.tm = tmM) (hw : wfCols tmM r.cols r.n) : ∃ l, r = mR l := by
  obtain ⟨tm, n, cols⟩ := r
  simp only at hr hw
  subst hr
  match cols, hw with
  | [a, b, c, d, e, f, g, h], hw =>
    obtain ⟨⟨a1, a2, _⟩, ⟨b1, b2⟩, ⟨c1, c2, _⟩, ⟨d1, d2, _⟩, ⟨e1, e2⟩, ⟨f1, f2⟩, ⟨g1, g2, _⟩, ⟨h1, h2, _⟩, _⟩ := hw
    refine ⟨uM ⟨tmM, n, [a, b, c, d, e, f, g, h]⟩, ?_⟩
    unfold uM mR
    simp only [List.map_map, List.length_map, List.length_range]
    refine congrArg (Row.mk tmM n) ?_
    rw [List.cons.injEq, List.cons.injEq, List.cons.injEq, List.cons.injEq, List.cons.injEq, List.cons.injEq, List.cons.injEq, List.cons.injEq]
    exact ⟨col_i a1 a2, col_b b1 b2, col_i c1 c2, col_i d1 d2, col_b e1 e2, col_b f1 f2, col_i g1 g2, col_i h1 h2, rfl⟩
end Go.Proofs.Ytllgglbfbfhfoaa.Wv
