/- box: the laws, called. -/
import Derived.Test.YtagiodenlhfgfaaBxAwake
import Derived.Test.YtagiodenlhfgfaaRxC
namespace Go.Proofs.Ytagiodenlhfgfaa.Bx
open Go.RowKit Go.Proofs.Ytagiodenlhfgfaa.Rx
set_option linter.unusedVariables false
set_option linter.unusedSimpArgs false
set_option maxRecDepth 100000
theorem nil_law {n : Int} {W : World} : Calls Try.prog 6 #[.int .i64 n] W fun e W' => e = .returned (.bool true) ∧ Below W.heap.size W W' := by
  have := law_calls (D := D) (W := W) (fn := Try.f6) (root := codeOf Try.f6) (args := [.int .i64 n]) [] Try.func6 (by kernel_rfl) (fun x hx => by cases hx) rfl
    (nil_run fun _ => rfl)
  simpa using this
end Go.Proofs.Ytagiodenlhfgfaa.Bx
