/- wave: the laws, called. -/
import Derived.Test.YtllgglbfbfhfoaaWvLaws
import Derived.Test.YtllgglbfbfhfoaaRxC
namespace Go.Proofs.Ytllgglbfbfhfoaa.Wv
open Go.RowKit Go.Proofs.Ytllgglbfbfhfoaa.Rx
set_option linter.unusedVariables false
set_option linter.unusedSimpArgs false
set_option maxRecDepth 100000
abbrev tmM : List Value := [.int .i64 0, .bool false, .int .i64 0, .int .i64 0, .bool false, .bool false, .int .i64 0, .int .i64 0]
theorem col_i {c : Col} {n : Nat} (h : c = colI c.i) (l : c.i.length = n) : c = ⟨(List.range n).map fun i => c.i.getD i 0, [], []⟩ := by
  have e : (List.range n).map (fun i => c.i.getD i 0) = c.i := by
    subst l
    exact range_get fun i hi => by rw [List.getD_eq_getElem?_getD, List.getElem?_eq_getElem hi]; rfl
  rw [e]
  exact h
theorem col_b {c : Col} {n : Nat} (h : c = colB c.b) (l : c.b.length = n) : c = ⟨[], (List.range n).map fun i => c.b.getD i false, []⟩ := by
  have e : (List.range n).map (fun i => c.b.getD i false) = c.b := by
    subst l
    exact range_get fun i hi => by rw [List.getD_eq_getElem?_getD, List.getElem?_eq_getElem hi]; rfl
  rw [e]
  exact h
theorem rowM_of {r : Row} (hr : r.tm = tmM) (hw : wfCols tmM r.cols r.n) : ∃ l, r = mR l := by
  obtain ⟨tm, n, cols⟩ := r
  simp only at hr hw
  subst hr
  match cols, hw with
  | [a, b, c, d, e, f, g, h], hw =>
    obtain ⟨⟨a1, a2, _⟩, ⟨b1, b2⟩, ⟨c1, c2, _⟩, ⟨d1, d2, _⟩, ⟨e1, e2⟩, ⟨f1, f2⟩, ⟨g1, g2, _⟩, ⟨h1, h2, _⟩, _⟩ := hw
    refine ⟨uM ⟨tmM, n, [a, b, c, d, e, f, g, h]⟩, ?_⟩
    unfold uM mR
    simp only [List.map_map, List.length_map, List.length_range]
    refine congrArg (Row.mk tmM n) ?_
    rw [List.cons.injEq, List.cons.injEq, List.cons.injEq, List.cons.injEq, List.cons.injEq, List.cons.injEq, List.cons.injEq, List.cons.injEq]
    exact ⟨col_i a1 a2, col_b b1 b2, col_i c1 c2, col_i d1 d2, col_b e1 e2, col_b f1 f2, col_i g1 g2, col_i h1 h2, rfl⟩
theorem sums_law {p : Rx.Place} {r : Row} {W : World} (hr : r.tm = tmM) (hw : wfCols tmM r.cols r.n) (hv : ViewOk W p r) :
    Calls Try.prog 3 #[ren (viewsE [(p, r)]) (.slice (some ⟨0, 0, some 8000⟩) r.n 0)] W fun e W' => e = .returned (.bool true) ∧ Below W.heap.size W W' := by
  obtain ⟨l, rfl⟩ := rowM_of hr hw
  have := law_calls (D := NoR) (W := W) (fn := Try.f3) (root := codeOf Try.f3) (args := [.slice (some ⟨0, 0, some 8000⟩) l.length 0]) [(p, mR l)] Try.func3 (by kernel_rfl) (by simpa using hv) rfl
    (sums_run fun _ => rfl)
  simpa [mR] using this
theorem above_law {a b : Int} {p : Rx.Place} {r : Row} {W : World} (hr : r.tm = tmM) (hw : wfCols tmM r.cols r.n) (hv : ViewOk W p r) :
    Calls Try.prog 5 #[ren (viewsE [(p, r)]) (.slice (some ⟨0, 0, some 8000⟩) r.n 0), .agg #[.int .i64 a, .int .i64 b]] W fun e W' => e = .returned (.bool true) ∧ Below W.heap.size W W' := by
  obtain ⟨l, rfl⟩ := rowM_of hr hw
  have := law_calls (D := NoR) (W := W) (fn := Try.f5) (root := codeOf Try.f5) (args := [.slice (some ⟨0, 0, some 8000⟩) l.length 0, .agg ⟨[.int .i64 a, .int .i64 b]⟩]) [(p, mR l)] Try.func5 (by kernel_rfl) (by simpa using hv) rfl
    (above_run fun _ => rfl)
  simpa [mR, ren, renL] using this
theorem parts_law {i k : Int} {p : Rx.Place} {r : Row} {W : World} (hr : r.tm = tmM) (hw : wfCols tmM r.cols r.n) (hv : ViewOk W p r) :
    Calls Try.prog 4 #[ren (viewsE [(p, r)]) (.slice (some ⟨0, 0, some 8000⟩) r.n 0), .int .i64 i, .int .i64 k] W fun e W' => e = .returned (.bool true) ∧ Below W.heap.size W W' := by
  obtain ⟨l, rfl⟩ := rowM_of hr hw
  have := law_calls (D := NoR) (W := W) (fn := Try.f4) (root := codeOf Try.f4) (args := [.slice (some ⟨0, 0, some 8000⟩) l.length 0, .int .i64 i, .int .i64 k]) [(p, mR l)] Try.func4 (by kernel_rfl) (by simpa using hv) rfl
    (parts_run fun _ => rfl)
  simpa [mR] using this
end Go.Proofs.Ytllgglbfbfhfoaa.Wv
