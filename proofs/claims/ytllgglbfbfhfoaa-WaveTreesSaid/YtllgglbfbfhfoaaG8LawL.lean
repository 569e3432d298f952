/- wave: the law WaveTrees, called. -/
import Derived.Test.YtllgglbfbfhfoaaG8Law
import Derived.Test.YtllgglbfbfhfoaaWvLawsL
namespace Go.Proofs.Ytllgglbfbfhfoaa.G8
open Go.RowKit Go.Proofs.Ytllgglbfbfhfoaa.Rx Go.Proofs.Ytllgglbfbfhfoaa.Wv
set_option linter.unusedVariables false
set_option linter.unusedSimpArgs false
set_option maxRecDepth 100000
theorem trees_law {f u : Int} {p : Rx.Place} {r : Row} {W : World} (hr : r.tm = tmM) (hw : wfCols tmM r.cols r.n) (hv : ViewOk W p r) :
    Calls Try.prog 6 #[ren (viewsE [(p, r)]) (.slice (some ⟨0, 0, some 8000⟩) r.n 0), .int .i64 f, .int .i64 u] W fun e W' => e = .returned (.bool true) ∧ Below W.heap.size W W' := by
  obtain ⟨l, rfl⟩ := rowM_of hr hw
  have := law_calls (D := D2) (W := W) (fn := Try.f6) (root := codeOf Try.f6) (args := [.slice (some ⟨0, 0, some 8000⟩) l.length 0, .int .i64 f, .int .i64 u]) [(p, mR l)] Try.func6 (by kernel_rfl) (by simpa using hv) rfl
    (trees_run fun _ => rfl)
  simpa [mR] using this
end Go.Proofs.Ytllgglbfbfhfoaa.G8
