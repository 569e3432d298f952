/-
  No cell of these rows narrows 'for every input' (looked for: loops, veiled, ifaces, maps, wideKeys, modest, calm, conditions, laid).
  DERIVED. THE GIVEN ROWS OF THIS SEAT. 4 by the template 'for every input the law returns true; each argument reads behind the call as it read before'; 0 by the template 'total and deterministic' (their statements: YtjblhhiajejcbaaTotals.lean).
  GIVEN WITH THE SEED: the statements are not yours to turn. If you find one false, say at which input.
  Laid BY PROGRAM, IN A SANDBOX (cutbox-rows.mjs): the forced cells as the released guide's own fill.sh prints them over the translation 938f46be254c6749… (all of the seat's roots in one cut). By AI agents, Wed Nov 11 2026. No macro, syntax, notation, axiom, sorry.
-/
import Derived.Test.YtjblhhiajejcbaaChecked
import GoSem.Claim
import GoSem.ClaimJoined
import GoSem.ClaimMapViews
import Derived.JoinedTies
import Derived.KernelRfl
namespace Go.Proofs.Ytjblhhiajejcbaa
/- THE CELL 'sum', in the pinned program and in every row, IS THE sha256 OF THE DUMP (.gsa) THAT YtjblhhiajejcbaaProg.lean LOADS. Nothing in Lean hashes anything: it is a label: what it is worth is what the hold of that sum in a sandbox is worth. -/
noncomputable def Try.pinned : Pinned := { name := "ytjblhhiajejcbaa", sum := "938f46be254c6749aede7cdc6b57b04c447544e27c6ab7ec0c4bf572934422da", checked := Try.checked }
namespace Rows
def none {H : Type} : Left H := { results := [], args := [] }

/-- 'whilomlaw06.TideOf': WHATEVER THE INPUT: true; the input reads as it did. -/
def tideOfSpec : ChangeSpec := { name := "tideOf", fn := fun _ => fun
  | [d] => { results := [.lit (.bool true)], args := [d] }
  | _ => none }
def tideOfRow : OpenClaim := { program := "ytjblhhiajejcbaa", sum := "938f46be254c6749aede7cdc6b57b04c447544e27c6ab7ec0c4bf572934422da", func := "whilom/whilomlaw06.TideOf", spec := "tideOf", apart := false }
def TideOfSaid : Prop := tideOfRow.holds Try.pinned (OpenSpec.ofChange tideOfSpec)

/-- ITS FALSE NEIGHBOUR: 'it returns false'. Refute it at one input. -/
def tideOfWrong : ChangeSpec := { name := "tideOf", fn := fun _ => fun
  | [d] => { results := [.lit (.bool false)], args := [d] }
  | _ => none }
def TideOfWrongFalsely : Prop := tideOfRow.holds Try.pinned (OpenSpec.ofChange tideOfWrong)

/-- 'whilomlaw06.TidePlus': WHATEVER THE INPUT: true; the input reads as it did. -/
def tidePlusSpec : ChangeSpec := { name := "tidePlus", fn := fun _ => fun
  | [d1, d2, d3] => { results := [.lit (.bool true)], args := [d1, d2, d3] }
  | _ => none }
def tidePlusRow : OpenClaim := { program := "ytjblhhiajejcbaa", sum := "938f46be254c6749aede7cdc6b57b04c447544e27c6ab7ec0c4bf572934422da", func := "whilom/whilomlaw06.TidePlus", spec := "tidePlus", apart := false }
def TidePlusSaid : Prop := tidePlusRow.holds Try.pinned (OpenSpec.ofChange tidePlusSpec)

/-- ITS FALSE NEIGHBOUR: 'it returns false'. Refute it at one input. -/
def tidePlusWrong : ChangeSpec := { name := "tidePlus", fn := fun _ => fun
  | [d1, d2, d3] => { results := [.lit (.bool false)], args := [d1, d2, d3] }
  | _ => none }
def TidePlusWrongFalsely : Prop := tidePlusRow.holds Try.pinned (OpenSpec.ofChange tidePlusWrong)

/-- 'whilomlaw06.TideParts': WHATEVER THE INPUT: true; the input reads as it did. -/
def tidePartsSpec : ChangeSpec := { name := "tideParts", fn := fun _ => fun
  | [d1, d2, d3] => { results := [.lit (.bool true)], args := [d1, d2, d3] }
  | _ => none }
def tidePartsRow : OpenClaim := { program := "ytjblhhiajejcbaa", sum := "938f46be254c6749aede7cdc6b57b04c447544e27c6ab7ec0c4bf572934422da", func := "whilom/whilomlaw06.TideParts", spec := "tideParts", apart := false }
def TidePartsSaid : Prop := tidePartsRow.holds Try.pinned (OpenSpec.ofChange tidePartsSpec)

/-- ITS FALSE NEIGHBOUR: 'it returns false'. Refute it at one input. -/
def tidePartsWrong : ChangeSpec := { name := "tideParts", fn := fun _ => fun
  | [d1, d2, d3] => { results := [.lit (.bool false)], args := [d1, d2, d3] }
  | _ => none }
def TidePartsWrongFalsely : Prop := tidePartsRow.holds Try.pinned (OpenSpec.ofChange tidePartsWrong)

/-- 'whilomlaw06.TideFloors': WHATEVER THE INPUT: true; the input reads as it did. -/
def tideFloorsSpec : ChangeSpec := { name := "tideFloors", fn := fun _ => fun
  | [d1, d2] => { results := [.lit (.bool true)], args := [d1, d2] }
  | _ => none }
def tideFloorsRow : OpenClaim := { program := "ytjblhhiajejcbaa", sum := "938f46be254c6749aede7cdc6b57b04c447544e27c6ab7ec0c4bf572934422da", func := "whilom/whilomlaw06.TideFloors", spec := "tideFloors", apart := false }
def TideFloorsSaid : Prop := tideFloorsRow.holds Try.pinned (OpenSpec.ofChange tideFloorsSpec)

/-- ITS FALSE NEIGHBOUR: 'it returns false'. Refute it at one input. -/
def tideFloorsWrong : ChangeSpec := { name := "tideFloors", fn := fun _ => fun
  | [d1, d2] => { results := [.lit (.bool false)], args := [d1, d2] }
  | _ => none }
def TideFloorsWrongFalsely : Prop := tideFloorsRow.holds Try.pinned (OpenSpec.ofChange tideFloorsWrong)

/- THE SECOND FORM. 'bulk': how many values and letters a reading holds, each counted each time it is reached (what is shared counts as often as it is met; a slice's spare places count too). A statement '..UptoSaid' is the law's where the arguments, and the package variables that the reading takes, are together of bulk at most 1048576: NARROWER than '..Said'. Prove '..Said' where nothing that the law and all that it calls make is longer than what came in: it says more and counts as full. Else prove '..UptoSaid'. A law counts once. -/
mutual
def uptoBulk {H : Type} : DataW H → Nat
  | .lit (.string bytes) => bytes.length + 1
  | .lit _ => 1
  | .nil => 1
  | .ptr d => uptoBulk d + 1
  | .slice elems spare => uptoBulkAll elems + uptoBulkAll spare + 1
  | .agg parts => uptoBulkAll parts + 1
  | .iface _ d => uptoBulk d + 1
  | .map entries => uptoBulkEntries entries + 1
  | .held _ => 1
def uptoBulkAll {H : Type} : List (DataW H) → Nat
  | [] => 0
  | d :: r => uptoBulk d + uptoBulkAll r
def uptoBulkEntries {H : Type} : List (Lit × DataW H) → Nat
  | [] => 0
  | x :: r => uptoBulkEntry x + uptoBulkEntries r
def uptoBulkEntry {H : Type} : Lit × DataW H → Nat
  | (.string bytes, d) => bytes.length + uptoBulk d + 1
  | (_, d) => uptoBulk d + 1
 end
def uptoSmall : (H : Type) → List (DataW H) → Bool := fun _ ds => decide (uptoBulkAll ds ≤ 1048576)
def OpenSpec.upto (s : _root_.Go.ChangeSpec) : _root_.Go.OpenSpec := { _root_.Go.OpenSpec.ofChange s with cond := some uptoSmall }

/-- 'whilomlaw06.TideOf', WHERE WHAT IT READS IS OF BULK AT MOST 1048576: true; the input reads as it did. -/
def tideOfUptoRow : OpenClaim := { program := "ytjblhhiajejcbaa", sum := "938f46be254c6749aede7cdc6b57b04c447544e27c6ab7ec0c4bf572934422da", func := "whilom/whilomlaw06.TideOf", spec := "tideOf", apart := false, narrowed := true }
def TideOfUptoSaid : Prop := tideOfUptoRow.holds Try.pinned (OpenSpec.upto tideOfSpec)

/-- 'whilomlaw06.TidePlus', WHERE WHAT IT READS IS OF BULK AT MOST 1048576: true; the input reads as it did. -/
def tidePlusUptoRow : OpenClaim := { program := "ytjblhhiajejcbaa", sum := "938f46be254c6749aede7cdc6b57b04c447544e27c6ab7ec0c4bf572934422da", func := "whilom/whilomlaw06.TidePlus", spec := "tidePlus", apart := false, narrowed := true }
def TidePlusUptoSaid : Prop := tidePlusUptoRow.holds Try.pinned (OpenSpec.upto tidePlusSpec)

/-- 'whilomlaw06.TideParts', WHERE WHAT IT READS IS OF BULK AT MOST 1048576: true; the input reads as it did. -/
def tidePartsUptoRow : OpenClaim := { program := "ytjblhhiajejcbaa", sum := "938f46be254c6749aede7cdc6b57b04c447544e27c6ab7ec0c4bf572934422da", func := "whilom/whilomlaw06.TideParts", spec := "tideParts", apart := false, narrowed := true }
def TidePartsUptoSaid : Prop := tidePartsUptoRow.holds Try.pinned (OpenSpec.upto tidePartsSpec)

/-- 'whilomlaw06.TideFloors', WHERE WHAT IT READS IS OF BULK AT MOST 1048576: true; the input reads as it did. -/
def tideFloorsUptoRow : OpenClaim := { program := "ytjblhhiajejcbaa", sum := "938f46be254c6749aede7cdc6b57b04c447544e27c6ab7ec0c4bf572934422da", func := "whilom/whilomlaw06.TideFloors", spec := "tideFloors", apart := false, narrowed := true }
def TideFloorsUptoSaid : Prop := tideFloorsUptoRow.holds Try.pinned (OpenSpec.upto tideFloorsSpec)

end Rows
end Go.Proofs.Ytjblhhiajejcbaa
