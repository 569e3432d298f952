/- grove: the kind of marks. -/
import Derived.Test.YtllgglbfbfhfoaaGvK
import Derived.Test.YtllgglbfbfhfoaaWvSw
namespace Go.Proofs.Ytllgglbfbfhfoaa.G8
open Go.Proofs.Ytllgglbfbfhfoaa.Rx
set_option linter.unusedVariables false
/-- marks, and what they come to -/
def k8 : Gv.Kd Wv.Mk Wv.Sw := ⟨Wv.O8, Wv.S8, Wv.good8, (fun l => inferInstanceAs (Decidable (l.length ≤ 60))), Wv.laws8, (fun x h => Nat.le_trans h (by decide)), Nat.zero_le _, (fun x y h => by
  unfold Wv.good8 at *
  rw [List.length_append] at *
  rw [List.length_tail]
  omega)⟩
end Go.Proofs.Ytllgglbfbfhfoaa.G8
