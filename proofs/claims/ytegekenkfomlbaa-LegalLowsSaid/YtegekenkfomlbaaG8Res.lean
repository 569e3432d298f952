/- grove: the things of its laws. -/
import Derived.Test.YtegekenkfomlbaaG8Lay
namespace Go.Proofs.Ytegekenkfomlbaa.G8
open Go.Proofs.Ytegekenkfomlbaa.Rx
set_option linter.unusedVariables false
inductive Rs
  | pool (m : Pl)
def lay : Rs → Hp Empty
  | .pool m => layPool m
def L : Lay Rs Empty where
  lay := lay
  ne x := by cases x <;> exact Nat.succ_pos _
  own x b X h := by cases x <;> exact noViews_get rfl h
  ins x := by cases x <;> rfl
def D : Res Rs := resOf NoR L
end Go.Proofs.Ytegekenkfomlbaa.G8
