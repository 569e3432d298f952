/- shelf: the laws, called. -/
import Derived.Test.YtljdcboijegllaaG9Tim
import Derived.Test.YtljdcboijegllaaRxC
namespace Go.Proofs.Ytljdcboijegllaa.G9
open Go.RowKit Go.Proofs.Ytljdcboijegllaa.Rx Go.Proofs.Ytljdcboijegllaa.Wv Go.Proofs.Ytljdcboijegllaa.Sh
set_option linter.unusedVariables false
set_option linter.unusedSimpArgs false
set_option maxRecDepth 100000
abbrev tmA : List Value := [.bool false, .int .i64 0, .int .i64 0]
def uA (n : Nat) (a b c : Col) : List Ac := (List.range n).map fun i => ⟨a.b.getD i false, ⟨b.i.getD i 0, c.i.getD i 0⟩⟩
theorem colA_i {c : Col} {n : Nat} (h : c = colI c.i) (l : c.i.length = n) : c = ⟨(List.range n).map fun i => c.i.getD i 0, [], []⟩ := by
  have e : (List.range n).map (fun i => c.i.getD i 0) = c.i := by
    subst l
    exact range_get fun i hi => by rw [List.getD_eq_getElem?_getD, List.getElem?_eq_getElem hi]; rfl
  rw [e]
  exact h
theorem colA_b {c : Col} {n : Nat} (h : c = colB c.b) (l : c.b.length = n) : c = ⟨[], (List.range n).map fun i => c.b.getD i false, []⟩ := by
  have e : (List.range n).map (fun i => c.b.getD i false) = c.b := by
    subst l
    exact range_get fun i hi => by rw [List.getD_eq_getElem?_getD, List.getElem?_eq_getElem hi]; rfl
  rw [e]
  exact h
theorem rowA_of {r : Row} (hr : r.tm = tmA) (hw : wfCols tmA r.cols r.n) : ∃ l, r = aR l := by
  obtain ⟨tm, n, cols⟩ := r
  simp only at hr hw
  subst hr
  match cols, hw with
  | [a, b, c], hw =>
    obtain ⟨⟨a1, a2⟩, ⟨b1, b2, _⟩, ⟨c1, c2, _⟩, _⟩ := hw
    refine ⟨uA n a b c, ?_⟩
    unfold uA aR
    simp only [List.map_map, List.length_map, List.length_range]
    refine congrArg (Row.mk tmA n) ?_
    rw [List.cons.injEq, List.cons.injEq, List.cons.injEq]
    exact ⟨colA_b a1 a2, colA_i b1 b2, colA_i c1 c2, rfl⟩
theorem acts_law {a b : Int} {p : Rx.Place} {r : Row} {W : World} (hr : r.tm = tmA) (hw : wfCols tmA r.cols r.n) (hv : ViewOk W p r) :
    Calls Try.prog 3 #[ren (viewsE [(p, r)]) (.slice (some ⟨0, 0, some 3000⟩) r.n 0), .agg #[.int .i64 a, .int .i64 b]] W fun e W' => e = .returned (.bool true) ∧ Below W.heap.size W W' := by
  obtain ⟨l, rfl⟩ := rowA_of hr hw
  have := law_calls (D := D2) (W := W) (fn := Try.f3) (root := codeOf Try.f3) (args := [.slice (some ⟨0, 0, some 3000⟩) l.length 0, .agg ⟨[.int .i64 a, .int .i64 b]⟩]) [(p, aR l)] Try.func3 (by kernel_rfl) (by simpa using hv) rfl
    (acts_run fun _ => rfl)
  simpa [aR, ren, renL] using this
theorem four {l : List Int} (h : l.length = 2 * 2) : ∃ a b c d, l = [a, b, c, d] := by
  match l, h with
  | [a, b, c, d], _ => exact ⟨a, b, c, d, rfl⟩
theorem two_ {l : List Int} (h : l.length = 2) : ∃ a b, l = [a, b] := by
  match l, h with
  | [a, b], _ => exact ⟨a, b, rfl⟩
theorem times_law {xs ats ns : List Int} {W : World} (h1 : xs.length = 2 * 2) (h2 : ats.length = 2) (w2 : ∀ x ∈ ats, (Lit.int .i64 x).wf = true) (h3 : ns.length = 2) (w3 : ∀ x ∈ ns, (Lit.int .i64 x).wf = true) :
    Calls Try.prog 4 #[.agg ⟨xs.map (.int .i64)⟩, .agg ⟨ats.map (.int .i64)⟩, .agg ⟨ns.map (.int .i64)⟩] W fun e W' => e = .returned (.bool true) ∧ Below W.heap.size W W' := by
  obtain ⟨a, b, c, d, rfl⟩ := four h1
  obtain ⟨p, q, rfl⟩ := two_ h2
  obtain ⟨n, m, rfl⟩ := two_ h3
  have := law_calls (D := D2) (W := W) (fn := Try.f4) (root := codeOf Try.f4) (args := [.agg ⟨[.int .i64 a, .int .i64 b, .int .i64 c, .int .i64 d]⟩, .agg ⟨[.int .i64 p, .int .i64 q]⟩, .agg ⟨[.int .i64 n, .int .i64 m]⟩]) [] Try.func4 (by kernel_rfl) (fun x hx => by cases hx) rfl
    (times_run fun _ => rfl)
  simpa [ren, renL] using this
end Go.Proofs.Ytljdcboijegllaa.G9
