/- arena: the law ArenaCaps, called. -/
import Derived.Test.YtloibbakklenbaaArCaps
import Derived.Test.YtloibbakklenbaaRxArg
namespace Go.Proofs.Ytloibbakklenbaa.Ar
open Go.RowKit Go.Proofs.Ytloibbakklenbaa.Rx
set_option linter.unusedVariables false
set_option linter.unusedSimpArgs false
set_option maxRecDepth 100000
theorem caps_law {c : Int} {W : World} : Calls Try.prog 6 #[.int .i64 c] W fun e W' => e = .returned (.bool true) ∧ Below W.heap.size W W' := by
  have := law_calls (D := D) (W := W) (fn := Try.f6) (root := codeOf Try.f6) (args := [.int .i64 c]) [] Try.func6 (by kernel_rfl) (by simp) rfl
    (caps_run fun _ => rfl)
  simpa using this
end Go.Proofs.Ytloibbakklenbaa.Ar
