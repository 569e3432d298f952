/-
  No cell of these rows narrows 'for every input' (looked for: loops, veiled, ifaces, maps, wideKeys, modest, calm, conditions, laid).
  DERIVED. THE GIVEN ROWS OF THIS SEAT. 5 by the template 'for every input the law returns true; each argument reads behind the call as it read before'; 0 by the template 'total and deterministic' (their statements: YtapphelmnkbfiaaTotals.lean).
  GIVEN WITH THE SEED: the statements are not yours to turn. If you find one false, say at which input.
  Laid BY PROGRAM, IN A SANDBOX (cutbox-rows.mjs): the forced cells as the released guide's own fill.sh prints them over the translation 6feb3287617aed8f… (all of the seat's roots in one cut). By AI agents, Wed Nov 11 2026. No macro, syntax, notation, axiom, sorry.
-/
import Derived.Test.YtapphelmnkbfiaaChecked
import GoSem.Claim
import GoSem.ClaimJoined
import GoSem.ClaimMapViews
import Derived.JoinedTies
import Derived.KernelRfl
namespace Go.Proofs.Ytapphelmnkbfiaa
/- THE CELL 'sum', in the pinned program and in every row, IS THE sha256 OF THE DUMP (.gsa) THAT YtapphelmnkbfiaaProg.lean LOADS. Nothing in Lean hashes anything: it is a label: what it is worth is what the hold of that sum in a sandbox is worth. -/
noncomputable def Try.pinned : Pinned := { name := "ytapphelmnkbfiaa", sum := "6feb3287617aed8fed6038faeae4607a57071e95ab69769fe9530a94913d6dae", checked := Try.checked }
namespace Rows
def none {H : Type} : Left H := { results := [], args := [] }

/-- 'whilomlaw01.ExactSums': WHATEVER THE INPUT: true; the input reads as it did. -/
def exactSumsSpec : ChangeSpec := { name := "exactSums", fn := fun _ => fun
  | [d1, d2] => { results := [.lit (.bool true)], args := [d1, d2] }
  | _ => none }
def exactSumsRow : OpenClaim := { program := "ytapphelmnkbfiaa", sum := "6feb3287617aed8fed6038faeae4607a57071e95ab69769fe9530a94913d6dae", func := "whilom/whilomlaw01.ExactSums", spec := "exactSums", apart := false }
def ExactSumsSaid : Prop := exactSumsRow.holds Try.pinned (OpenSpec.ofChange exactSumsSpec)

/-- ITS FALSE NEIGHBOUR: 'it returns false'. Refute it at one input. -/
def exactSumsWrong : ChangeSpec := { name := "exactSums", fn := fun _ => fun
  | [d1, d2] => { results := [.lit (.bool false)], args := [d1, d2] }
  | _ => none }
def ExactSumsWrongFalsely : Prop := exactSumsRow.holds Try.pinned (OpenSpec.ofChange exactSumsWrong)

/-- 'whilomlaw01.ExactProducts': WHATEVER THE INPUT: true; the input reads as it did. -/
def exactProductsSpec : ChangeSpec := { name := "exactProducts", fn := fun _ => fun
  | [d1, d2] => { results := [.lit (.bool true)], args := [d1, d2] }
  | _ => none }
def exactProductsRow : OpenClaim := { program := "ytapphelmnkbfiaa", sum := "6feb3287617aed8fed6038faeae4607a57071e95ab69769fe9530a94913d6dae", func := "whilom/whilomlaw01.ExactProducts", spec := "exactProducts", apart := false }
def ExactProductsSaid : Prop := exactProductsRow.holds Try.pinned (OpenSpec.ofChange exactProductsSpec)

/-- ITS FALSE NEIGHBOUR: 'it returns false'. Refute it at one input. -/
def exactProductsWrong : ChangeSpec := { name := "exactProducts", fn := fun _ => fun
  | [d1, d2] => { results := [.lit (.bool false)], args := [d1, d2] }
  | _ => none }
def ExactProductsWrongFalsely : Prop := exactProductsRow.holds Try.pinned (OpenSpec.ofChange exactProductsWrong)

/-- 'whilomlaw01.ExactMids': WHATEVER THE INPUT: true; the input reads as it did. -/
def exactMidsSpec : ChangeSpec := { name := "exactMids", fn := fun _ => fun
  | [d1, d2] => { results := [.lit (.bool true)], args := [d1, d2] }
  | _ => none }
def exactMidsRow : OpenClaim := { program := "ytapphelmnkbfiaa", sum := "6feb3287617aed8fed6038faeae4607a57071e95ab69769fe9530a94913d6dae", func := "whilom/whilomlaw01.ExactMids", spec := "exactMids", apart := false }
def ExactMidsSaid : Prop := exactMidsRow.holds Try.pinned (OpenSpec.ofChange exactMidsSpec)

/-- ITS FALSE NEIGHBOUR: 'it returns false'. Refute it at one input. -/
def exactMidsWrong : ChangeSpec := { name := "exactMids", fn := fun _ => fun
  | [d1, d2] => { results := [.lit (.bool false)], args := [d1, d2] }
  | _ => none }
def ExactMidsWrongFalsely : Prop := exactMidsRow.holds Try.pinned (OpenSpec.ofChange exactMidsWrong)

/-- 'whilomlaw01.ExactSteps': WHATEVER THE INPUT: true; the input reads as it did. -/
def exactStepsSpec : ChangeSpec := { name := "exactSteps", fn := fun _ => fun
  | [d] => { results := [.lit (.bool true)], args := [d] }
  | _ => none }
def exactStepsRow : OpenClaim := { program := "ytapphelmnkbfiaa", sum := "6feb3287617aed8fed6038faeae4607a57071e95ab69769fe9530a94913d6dae", func := "whilom/whilomlaw01.ExactSteps", spec := "exactSteps", apart := false }
def ExactStepsSaid : Prop := exactStepsRow.holds Try.pinned (OpenSpec.ofChange exactStepsSpec)

/-- ITS FALSE NEIGHBOUR: 'it returns false'. Refute it at one input. -/
def exactStepsWrong : ChangeSpec := { name := "exactSteps", fn := fun _ => fun
  | [d] => { results := [.lit (.bool false)], args := [d] }
  | _ => none }
def ExactStepsWrongFalsely : Prop := exactStepsRow.holds Try.pinned (OpenSpec.ofChange exactStepsWrong)

/-- 'whilomlaw01.ExactBack': WHATEVER THE INPUT: true; the input reads as it did. -/
def exactBackSpec : ChangeSpec := { name := "exactBack", fn := fun _ => fun
  | [d1, d2] => { results := [.lit (.bool true)], args := [d1, d2] }
  | _ => none }
def exactBackRow : OpenClaim := { program := "ytapphelmnkbfiaa", sum := "6feb3287617aed8fed6038faeae4607a57071e95ab69769fe9530a94913d6dae", func := "whilom/whilomlaw01.ExactBack", spec := "exactBack", apart := false }
def ExactBackSaid : Prop := exactBackRow.holds Try.pinned (OpenSpec.ofChange exactBackSpec)

/-- ITS FALSE NEIGHBOUR: 'it returns false'. Refute it at one input. -/
def exactBackWrong : ChangeSpec := { name := "exactBack", fn := fun _ => fun
  | [d1, d2] => { results := [.lit (.bool false)], args := [d1, d2] }
  | _ => none }
def ExactBackWrongFalsely : Prop := exactBackRow.holds Try.pinned (OpenSpec.ofChange exactBackWrong)

/- THE SECOND FORM. 'bulk': how many values and letters a reading holds, each counted each time it is reached (what is shared counts as often as it is met; a slice's spare places count too). A statement '..UptoSaid' is the law's where the arguments, and the package variables that the reading takes, are together of bulk at most 1048576: NARROWER than '..Said'. Prove '..Said' where nothing that the law and all that it calls make is longer than what came in: it says more and counts as full. Else prove '..UptoSaid'. A law counts once. -/
mutual
def uptoBulk {H : Type} : DataW H → Nat
  | .lit (.string bytes) => bytes.length + 1
  | .lit _ => 1
  | .nil => 1
  | .ptr d => uptoBulk d + 1
  | .slice elems spare => uptoBulkAll elems + uptoBulkAll spare + 1
  | .agg parts => uptoBulkAll parts + 1
  | .iface _ d => uptoBulk d + 1
  | .map entries => uptoBulkEntries entries + 1
  | .held _ => 1
def uptoBulkAll {H : Type} : List (DataW H) → Nat
  | [] => 0
  | d :: r => uptoBulk d + uptoBulkAll r
def uptoBulkEntries {H : Type} : List (Lit × DataW H) → Nat
  | [] => 0
  | x :: r => uptoBulkEntry x + uptoBulkEntries r
def uptoBulkEntry {H : Type} : Lit × DataW H → Nat
  | (.string bytes, d) => bytes.length + uptoBulk d + 1
  | (_, d) => uptoBulk d + 1
 end
def uptoSmall : (H : Type) → List (DataW H) → Bool := fun _ ds => decide (uptoBulkAll ds ≤ 1048576)
def OpenSpec.upto (s : _root_.Go.ChangeSpec) : _root_.Go.OpenSpec := { _root_.Go.OpenSpec.ofChange s with cond := some uptoSmall }

/-- 'whilomlaw01.ExactSums', WHERE WHAT IT READS IS OF BULK AT MOST 1048576: true; the input reads as it did. -/
def exactSumsUptoRow : OpenClaim := { program := "ytapphelmnkbfiaa", sum := "6feb3287617aed8fed6038faeae4607a57071e95ab69769fe9530a94913d6dae", func := "whilom/whilomlaw01.ExactSums", spec := "exactSums", apart := false, narrowed := true }
def ExactSumsUptoSaid : Prop := exactSumsUptoRow.holds Try.pinned (OpenSpec.upto exactSumsSpec)

/-- 'whilomlaw01.ExactProducts', WHERE WHAT IT READS IS OF BULK AT MOST 1048576: true; the input reads as it did. -/
def exactProductsUptoRow : OpenClaim := { program := "ytapphelmnkbfiaa", sum := "6feb3287617aed8fed6038faeae4607a57071e95ab69769fe9530a94913d6dae", func := "whilom/whilomlaw01.ExactProducts", spec := "exactProducts", apart := false, narrowed := true }
def ExactProductsUptoSaid : Prop := exactProductsUptoRow.holds Try.pinned (OpenSpec.upto exactProductsSpec)

/-- 'whilomlaw01.ExactMids', WHERE WHAT IT READS IS OF BULK AT MOST 1048576: true; the input reads as it did. -/
def exactMidsUptoRow : OpenClaim := { program := "ytapphelmnkbfiaa", sum := "6feb3287617aed8fed6038faeae4607a57071e95ab69769fe9530a94913d6dae", func := "whilom/whilomlaw01.ExactMids", spec := "exactMids", apart := false, narrowed := true }
def ExactMidsUptoSaid : Prop := exactMidsUptoRow.holds Try.pinned (OpenSpec.upto exactMidsSpec)

/-- 'whilomlaw01.ExactSteps', WHERE WHAT IT READS IS OF BULK AT MOST 1048576: true; the input reads as it did. -/
def exactStepsUptoRow : OpenClaim := { program := "ytapphelmnkbfiaa", sum := "6feb3287617aed8fed6038faeae4607a57071e95ab69769fe9530a94913d6dae", func := "whilom/whilomlaw01.ExactSteps", spec := "exactSteps", apart := false, narrowed := true }
def ExactStepsUptoSaid : Prop := exactStepsUptoRow.holds Try.pinned (OpenSpec.upto exactStepsSpec)

/-- 'whilomlaw01.ExactBack', WHERE WHAT IT READS IS OF BULK AT MOST 1048576: true; the input reads as it did. -/
def exactBackUptoRow : OpenClaim := { program := "ytapphelmnkbfiaa", sum := "6feb3287617aed8fed6038faeae4607a57071e95ab69769fe9530a94913d6dae", func := "whilom/whilomlaw01.ExactBack", spec := "exactBack", apart := false, narrowed := true }
def ExactBackUptoSaid : Prop := exactBackUptoRow.holds Try.pinned (OpenSpec.upto exactBackSpec)

end Rows
end Go.Proofs.Ytapphelmnkbfiaa
