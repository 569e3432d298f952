/- tide: the laws, called. -/
import Derived.Test.YtjblhhiajejcbaaTiLaws
import Derived.Test.YtjblhhiajejcbaaRxC
namespace Go.Proofs.Ytjblhhiajejcbaa.Ti
open Go.RowKit Go.Proofs.Ytjblhhiajejcbaa.Rx
set_option linter.unusedVariables false
set_option linter.unusedSimpArgs false
set_option maxRecDepth 100000
def rowI (x : List Int) : Row := ⟨[.int .i64 0], x.length, [colI x]⟩
theorem rowI_of {r : Row} (hr : r.tm = [.int .i64 0]) (hw : wfCols [.int .i64 0] r.cols r.n) : ∃ x, r = rowI x := by
  obtain ⟨tm, n, cols⟩ := r
  simp only at hr
  subst hr
  match cols, hw with
  | [c1], hw =>
    obtain ⟨⟨h1, l1, _⟩, _⟩ := hw
    refine ⟨c1.i, ?_⟩
    simp only at l1
    rw [rowI, l1, ← h1]
theorem tof_law {p : Rx.Place} {r : Row} {W : World} (hr : r.tm = [.int .i64 0]) (hw : wfCols [.int .i64 0] r.cols r.n) (hv : ViewOk W p r) :
    Calls Try.prog 3 #[ren (viewsE [(p, r)]) (.slice (some ⟨0, 0, some 1000⟩) r.n 0)] W fun e W' => e = .returned (.bool true) ∧ Below W.heap.size W W' := by
  obtain ⟨x, rfl⟩ := rowI_of hr hw
  have := law_calls (D := NoR) (W := W) (fn := Try.f3) (root := codeOf Try.f3) (args := [.slice (some ⟨0, 0, some 1000⟩) x.length 0]) [(p, rowI x)] Try.func3 (by kernel_rfl) (by simpa using hv) rfl
    (tof_run fun _ => rfl)
  simpa [rowI] using this
theorem tfloors_law {f : Int} {p : Rx.Place} {r : Row} {W : World} (hr : r.tm = [.int .i64 0]) (hw : wfCols [.int .i64 0] r.cols r.n) (hv : ViewOk W p r) :
    Calls Try.prog 6 #[ren (viewsE [(p, r)]) (.slice (some ⟨0, 0, some 1000⟩) r.n 0), .int .i64 f] W fun e W' => e = .returned (.bool true) ∧ Below W.heap.size W W' := by
  obtain ⟨x, rfl⟩ := rowI_of hr hw
  have := law_calls (D := NoR) (W := W) (fn := Try.f6) (root := codeOf Try.f6) (args := [.slice (some ⟨0, 0, some 1000⟩) x.length 0, .int .i64 f]) [(p, rowI x)] Try.func6 (by kernel_rfl) (by simpa using hv) rfl
    (tfloors_run fun _ => rfl)
  simpa [rowI] using this
theorem tplus_law {n s l n' s' l' x : Int} {W : World} :
    Calls Try.prog 4 #[.agg #[.int .i64 n, .int .i64 s, .int .i64 l], .agg #[.int .i64 n', .int .i64 s', .int .i64 l'], .int .i64 x] W fun e W' => e = .returned (.bool true) ∧ Below W.heap.size W W' := by
  have := law_calls (D := NoR) (W := W) (fn := Try.f4) (root := codeOf Try.f4) (args := [.agg ⟨[.int .i64 n, .int .i64 s, .int .i64 l]⟩, .agg ⟨[.int .i64 n', .int .i64 s', .int .i64 l']⟩, .int .i64 x]) [] Try.func4 (by kernel_rfl) (fun x hx => by cases hx) rfl
    (tplus_run fun _ => rfl)
  simpa [ren, renL] using this
end Go.Proofs.Ytjblhhiajejcbaa.Ti
