/- tide: the law TideParts, called. -/
import Derived.Test.YtjblhhiajejcbaaTiParts
import Derived.Test.YtjblhhiajejcbaaTiLawsL
namespace Go.Proofs.Ytjblhhiajejcbaa.Ti
open Go.RowKit Go.Proofs.Ytjblhhiajejcbaa.Rx
set_option linter.unusedVariables false
set_option linter.unusedSimpArgs false
set_option maxRecDepth 100000
theorem tparts_law {a b : Int} {p : Rx.Place} {r : Row} {W : World} (hr : r.tm = [.int .i64 0]) (hw : wfCols [.int .i64 0] r.cols r.n) (hv : ViewOk W p r) :
    Calls Try.prog 5 #[ren (viewsE [(p, r)]) (.slice (some ⟨0, 0, some 1000⟩) r.n 0), .int .i64 a, .int .i64 b] W fun e W' => e = .returned (.bool true) ∧ Below W.heap.size W W' := by
  obtain ⟨x, rfl⟩ := rowI_of hr hw
  have := law_calls (D := NoR) (W := W) (fn := Try.f5) (root := codeOf Try.f5) (args := [.slice (some ⟨0, 0, some 1000⟩) x.length 0, .int .i64 a, .int .i64 b]) [(p, rowI x)] Try.func5 (by kernel_rfl) (by simpa using hv) rfl
    (tparts_run fun _ => rfl)
  simpa [rowI] using this
end Go.Proofs.Ytjblhhiajejcbaa.Ti
