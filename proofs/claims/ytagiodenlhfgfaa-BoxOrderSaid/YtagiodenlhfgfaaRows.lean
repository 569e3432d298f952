/-
  No cell of these rows narrows 'for every input' (looked for: loops, veiled, ifaces, maps, wideKeys, modest, calm, conditions, laid).
  DERIVED. THE GIVEN ROWS OF THIS SEAT. 4 by the template 'for every input the law returns true; each argument reads behind the call as it read before'; 0 by the template 'total and deterministic' (their statements: YtagiodenlhfgfaaTotals.lean).
  GIVEN WITH THE SEED: the statements are not yours to turn. If you find one false, say at which input.
  Laid BY PROGRAM, IN A SANDBOX (cutbox-rows.mjs): the forced cells as the released guide's own fill.sh prints them over the translation 5988399c0ce11067… (all of the seat's roots in one cut). By AI agents, Wed Nov 11 2026. No macro, syntax, notation, axiom, sorry.
-/
import Derived.Test.YtagiodenlhfgfaaChecked
import GoSem.Claim
import GoSem.ClaimJoined
import GoSem.ClaimMapViews
import Derived.JoinedTies
import Derived.KernelRfl
namespace Go.Proofs.Ytagiodenlhfgfaa
/- THE CELL 'sum', in the pinned program and in every row, IS THE sha256 OF THE DUMP (.gsa) THAT YtagiodenlhfgfaaProg.lean LOADS. Nothing in Lean hashes anything: it is a label: what it is worth is what the hold of that sum in a sandbox is worth. -/
noncomputable def Try.pinned : Pinned := { name := "ytagiodenlhfgfaa", sum := "5988399c0ce1106724dc8eea9cc1fad75c72edcbf45d348e835c1a067cccee4a", checked := Try.checked }
namespace Rows
def none {H : Type} : Left H := { results := [], args := [] }

/-- 'whilomlaw05.BoxActs': WHATEVER THE INPUT: true; the input reads as it did. -/
def boxActsSpec : ChangeSpec := { name := "boxActs", fn := fun _ => fun
  | [d1, d2] => { results := [.lit (.bool true)], args := [d1, d2] }
  | _ => none }
def boxActsRow : OpenClaim := { program := "ytagiodenlhfgfaa", sum := "5988399c0ce1106724dc8eea9cc1fad75c72edcbf45d348e835c1a067cccee4a", func := "whilom/whilomlaw05.BoxActs", spec := "boxActs", apart := false }
def BoxActsSaid : Prop := boxActsRow.holds Try.pinned (OpenSpec.ofChange boxActsSpec)

/-- ITS FALSE NEIGHBOUR: 'it returns false'. Refute it at one input. -/
def boxActsWrong : ChangeSpec := { name := "boxActs", fn := fun _ => fun
  | [d1, d2] => { results := [.lit (.bool false)], args := [d1, d2] }
  | _ => none }
def BoxActsWrongFalsely : Prop := boxActsRow.holds Try.pinned (OpenSpec.ofChange boxActsWrong)

/-- 'whilomlaw05.BoxOrder': WHATEVER THE INPUT: true; the input reads as it did. -/
def boxOrderSpec : ChangeSpec := { name := "boxOrder", fn := fun _ => fun
  | [d1, d2] => { results := [.lit (.bool true)], args := [d1, d2] }
  | _ => none }
def boxOrderRow : OpenClaim := { program := "ytagiodenlhfgfaa", sum := "5988399c0ce1106724dc8eea9cc1fad75c72edcbf45d348e835c1a067cccee4a", func := "whilom/whilomlaw05.BoxOrder", spec := "boxOrder", apart := false }
def BoxOrderSaid : Prop := boxOrderRow.holds Try.pinned (OpenSpec.ofChange boxOrderSpec)

/-- ITS FALSE NEIGHBOUR: 'it returns false'. Refute it at one input. -/
def boxOrderWrong : ChangeSpec := { name := "boxOrder", fn := fun _ => fun
  | [d1, d2] => { results := [.lit (.bool false)], args := [d1, d2] }
  | _ => none }
def BoxOrderWrongFalsely : Prop := boxOrderRow.holds Try.pinned (OpenSpec.ofChange boxOrderWrong)

/-- 'whilomlaw05.BoxTexts': WHATEVER THE INPUT: true; the input reads as it did. -/
def boxTextsSpec : ChangeSpec := { name := "boxTexts", fn := fun _ => fun
  | [d] => { results := [.lit (.bool true)], args := [d] }
  | _ => none }
def boxTextsRow : OpenClaim := { program := "ytagiodenlhfgfaa", sum := "5988399c0ce1106724dc8eea9cc1fad75c72edcbf45d348e835c1a067cccee4a", func := "whilom/whilomlaw05.BoxTexts", spec := "boxTexts", apart := false }
def BoxTextsSaid : Prop := boxTextsRow.holds Try.pinned (OpenSpec.ofChange boxTextsSpec)

/-- ITS FALSE NEIGHBOUR: 'it returns false'. Refute it at one input. -/
def boxTextsWrong : ChangeSpec := { name := "boxTexts", fn := fun _ => fun
  | [d] => { results := [.lit (.bool false)], args := [d] }
  | _ => none }
def BoxTextsWrongFalsely : Prop := boxTextsRow.holds Try.pinned (OpenSpec.ofChange boxTextsWrong)

/-- 'whilomlaw05.BoxNil': WHATEVER THE INPUT: true; the input reads as it did. -/
def boxNilSpec : ChangeSpec := { name := "boxNil", fn := fun _ => fun
  | [d] => { results := [.lit (.bool true)], args := [d] }
  | _ => none }
def boxNilRow : OpenClaim := { program := "ytagiodenlhfgfaa", sum := "5988399c0ce1106724dc8eea9cc1fad75c72edcbf45d348e835c1a067cccee4a", func := "whilom/whilomlaw05.BoxNil", spec := "boxNil", apart := false }
def BoxNilSaid : Prop := boxNilRow.holds Try.pinned (OpenSpec.ofChange boxNilSpec)

/-- ITS FALSE NEIGHBOUR: 'it returns false'. Refute it at one input. -/
def boxNilWrong : ChangeSpec := { name := "boxNil", fn := fun _ => fun
  | [d] => { results := [.lit (.bool false)], args := [d] }
  | _ => none }
def BoxNilWrongFalsely : Prop := boxNilRow.holds Try.pinned (OpenSpec.ofChange boxNilWrong)

/- THE SECOND FORM. 'bulk': how many values and letters a reading holds, each counted each time it is reached (what is shared counts as often as it is met; a slice's spare places count too). A statement '..UptoSaid' is the law's where the arguments, and the package variables that the reading takes, are together of bulk at most 1048576: NARROWER than '..Said'. Prove '..Said' where nothing that the law and all that it calls make is longer than what came in: it says more and counts as full. Else prove '..UptoSaid'. A law counts once. -/
mutual
def uptoBulk {H : Type} : DataW H → Nat
  | .lit (.string bytes) => bytes.length + 1
  | .lit _ => 1
  | .nil => 1
  | .ptr d => uptoBulk d + 1
  | .slice elems spare => uptoBulkAll elems + uptoBulkAll spare + 1
  | .agg parts => uptoBulkAll parts + 1
  | .iface _ d => uptoBulk d + 1
  | .map entries => uptoBulkEntries entries + 1
  | .held _ => 1
def uptoBulkAll {H : Type} : List (DataW H) → Nat
  | [] => 0
  | d :: r => uptoBulk d + uptoBulkAll r
def uptoBulkEntries {H : Type} : List (Lit × DataW H) → Nat
  | [] => 0
  | x :: r => uptoBulkEntry x + uptoBulkEntries r
def uptoBulkEntry {H : Type} : Lit × DataW H → Nat
  | (.string bytes, d) => bytes.length + uptoBulk d + 1
  | (_, d) => uptoBulk d + 1
 end
def uptoSmall : (H : Type) → List (DataW H) → Bool := fun _ ds => decide (uptoBulkAll ds ≤ 1048576)
def OpenSpec.upto (s : _root_.Go.ChangeSpec) : _root_.Go.OpenSpec := { _root_.Go.OpenSpec.ofChange s with cond := some uptoSmall }

/-- 'whilomlaw05.BoxActs', WHERE WHAT IT READS IS OF BULK AT MOST 1048576: true; the input reads as it did. -/
def boxActsUptoRow : OpenClaim := { program := "ytagiodenlhfgfaa", sum := "5988399c0ce1106724dc8eea9cc1fad75c72edcbf45d348e835c1a067cccee4a", func := "whilom/whilomlaw05.BoxActs", spec := "boxActs", apart := false, narrowed := true }
def BoxActsUptoSaid : Prop := boxActsUptoRow.holds Try.pinned (OpenSpec.upto boxActsSpec)

/-- 'whilomlaw05.BoxOrder', WHERE WHAT IT READS IS OF BULK AT MOST 1048576: true; the input reads as it did. -/
def boxOrderUptoRow : OpenClaim := { program := "ytagiodenlhfgfaa", sum := "5988399c0ce1106724dc8eea9cc1fad75c72edcbf45d348e835c1a067cccee4a", func := "whilom/whilomlaw05.BoxOrder", spec := "boxOrder", apart := false, narrowed := true }
def BoxOrderUptoSaid : Prop := boxOrderUptoRow.holds Try.pinned (OpenSpec.upto boxOrderSpec)

/-- 'whilomlaw05.BoxTexts', WHERE WHAT IT READS IS OF BULK AT MOST 1048576: true; the input reads as it did. -/
def boxTextsUptoRow : OpenClaim := { program := "ytagiodenlhfgfaa", sum := "5988399c0ce1106724dc8eea9cc1fad75c72edcbf45d348e835c1a067cccee4a", func := "whilom/whilomlaw05.BoxTexts", spec := "boxTexts", apart := false, narrowed := true }
def BoxTextsUptoSaid : Prop := boxTextsUptoRow.holds Try.pinned (OpenSpec.upto boxTextsSpec)

/-- 'whilomlaw05.BoxNil', WHERE WHAT IT READS IS OF BULK AT MOST 1048576: true; the input reads as it did. -/
def boxNilUptoRow : OpenClaim := { program := "ytagiodenlhfgfaa", sum := "5988399c0ce1106724dc8eea9cc1fad75c72edcbf45d348e835c1a067cccee4a", func := "whilom/whilomlaw05.BoxNil", spec := "boxNil", apart := false, narrowed := true }
def BoxNilUptoSaid : Prop := boxNilUptoRow.holds Try.pinned (OpenSpec.upto boxNilSpec)

end Rows
end Go.Proofs.Ytagiodenlhfgfaa
