/-
  No cell of these rows narrows 'for every input' (looked for: loops, veiled, ifaces, maps, wideKeys, modest, calm, conditions, laid).
  DERIVED. THE GIVEN ROWS OF THIS SEAT. 3 by the template 'for every input the law returns true; each argument reads behind the call as it read before'; 0 by the template 'total and deterministic' (their statements: YtegekenkfomlbaaTotals.lean).
  GIVEN WITH THE SEED: the statements are not yours to turn. If you find one false, say at which input.
  Laid BY PROGRAM, IN A SANDBOX (cutbox-rows.mjs): the forced cells as the released guide's own fill.sh prints them over the translation 98db3177d316bb01… (all of the seat's roots in one cut). By AI agents, Wed Nov 11 2026. No macro, syntax, notation, axiom, sorry.
-/
import Derived.Test.YtegekenkfomlbaaChecked
import GoSem.Claim
import GoSem.ClaimJoined
import GoSem.ClaimMapViews
import Derived.JoinedTies
import Derived.KernelRfl
namespace Go.Proofs.Ytegekenkfomlbaa
/- THE CELL 'sum', in the pinned program and in every row, IS THE sha256 OF THE DUMP (.gsa) THAT YtegekenkfomlbaaProg.lean LOADS. Nothing in Lean hashes anything: it is a label: what it is worth is what the hold of that sum in a sandbox is worth. -/
noncomputable def Try.pinned : Pinned := { name := "ytegekenkfomlbaa", sum := "98db3177d316bb016ea3c6842f58e048ba2db0201f2e87535e2208f2a328d0a1", checked := Try.checked }
namespace Rows
def none {H : Type} : Left H := { results := [], args := [] }

/-- 'whilomlaw11.LegalLows': WHATEVER THE INPUT: true; the input reads as it did. -/
def legalLowsSpec : ChangeSpec := { name := "legalLows", fn := fun _ => fun
  | [d1, d2, d3] => { results := [.lit (.bool true)], args := [d1, d2, d3] }
  | _ => none }
def legalLowsRow : OpenClaim := { program := "ytegekenkfomlbaa", sum := "98db3177d316bb016ea3c6842f58e048ba2db0201f2e87535e2208f2a328d0a1", func := "whilom/whilomlaw11.LegalLows", spec := "legalLows", unfollowed := true, recurses := true, apart := false }
def LegalLowsSaid : Prop := legalLowsRow.holds Try.pinned (OpenSpec.ofChange legalLowsSpec)

/-- ITS FALSE NEIGHBOUR: 'it returns false'. Refute it at one input. -/
def legalLowsWrong : ChangeSpec := { name := "legalLows", fn := fun _ => fun
  | [d1, d2, d3] => { results := [.lit (.bool false)], args := [d1, d2, d3] }
  | _ => none }
def LegalLowsWrongFalsely : Prop := legalLowsRow.holds Try.pinned (OpenSpec.ofChange legalLowsWrong)

/-- 'whilomlaw11.LegalEdits': WHATEVER THE INPUT: true; the input reads as it did. -/
def legalEditsSpec : ChangeSpec := { name := "legalEdits", fn := fun _ => fun
  | [d1, d2] => { results := [.lit (.bool true)], args := [d1, d2] }
  | _ => none }
def legalEditsRow : OpenClaim := { program := "ytegekenkfomlbaa", sum := "98db3177d316bb016ea3c6842f58e048ba2db0201f2e87535e2208f2a328d0a1", func := "whilom/whilomlaw11.LegalEdits", spec := "legalEdits", unfollowed := true, recurses := true, apart := false }
def LegalEditsSaid : Prop := legalEditsRow.holds Try.pinned (OpenSpec.ofChange legalEditsSpec)

/-- ITS FALSE NEIGHBOUR: 'it returns false'. Refute it at one input. -/
def legalEditsWrong : ChangeSpec := { name := "legalEdits", fn := fun _ => fun
  | [d1, d2] => { results := [.lit (.bool false)], args := [d1, d2] }
  | _ => none }
def LegalEditsWrongFalsely : Prop := legalEditsRow.holds Try.pinned (OpenSpec.ofChange legalEditsWrong)

/-- 'whilomlaw11.LegalLater': WHATEVER THE INPUT: true; the input reads as it did. -/
def legalLaterSpec : ChangeSpec := { name := "legalLater", fn := fun _ => fun
  | [d1, d2, d3] => { results := [.lit (.bool true)], args := [d1, d2, d3] }
  | _ => none }
def legalLaterRow : OpenClaim := { program := "ytegekenkfomlbaa", sum := "98db3177d316bb016ea3c6842f58e048ba2db0201f2e87535e2208f2a328d0a1", func := "whilom/whilomlaw11.LegalLater", spec := "legalLater", unfollowed := true, recurses := true, apart := false }
def LegalLaterSaid : Prop := legalLaterRow.holds Try.pinned (OpenSpec.ofChange legalLaterSpec)

/-- ITS FALSE NEIGHBOUR: 'it returns false'. Refute it at one input. -/
def legalLaterWrong : ChangeSpec := { name := "legalLater", fn := fun _ => fun
  | [d1, d2, d3] => { results := [.lit (.bool false)], args := [d1, d2, d3] }
  | _ => none }
def LegalLaterWrongFalsely : Prop := legalLaterRow.holds Try.pinned (OpenSpec.ofChange legalLaterWrong)

/- THE SECOND FORM. 'bulk': how many values and letters a reading holds, each counted each time it is reached (what is shared counts as often as it is met; a slice's spare places count too). A statement '..UptoSaid' is the law's where the arguments, and the package variables that the reading takes, are together of bulk at most 1048576: NARROWER than '..Said'. Prove '..Said' where nothing that the law and all that it calls make is longer than what came in: it says more and counts as full. Else prove '..UptoSaid'. A law counts once. -/
mutual
def uptoBulk {H : Type} : DataW H → Nat
  | .lit (.string bytes) => bytes.length + 1
  | .lit _ => 1
  | .nil => 1
  | .ptr d => uptoBulk d + 1
  | .slice elems spare => uptoBulkAll elems + uptoBulkAll spare + 1
  | .agg parts => uptoBulkAll parts + 1
  | .iface _ d => uptoBulk d + 1
  | .map entries => uptoBulkEntries entries + 1
  | .held _ => 1
def uptoBulkAll {H : Type} : List (DataW H) → Nat
  | [] => 0
  | d :: r => uptoBulk d + uptoBulkAll r
def uptoBulkEntries {H : Type} : List (Lit × DataW H) → Nat
  | [] => 0
  | x :: r => uptoBulkEntry x + uptoBulkEntries r
def uptoBulkEntry {H : Type} : Lit × DataW H → Nat
  | (.string bytes, d) => bytes.length + uptoBulk d + 1
  | (_, d) => uptoBulk d + 1
 end
def uptoSmall : (H : Type) → List (DataW H) → Bool := fun _ ds => decide (uptoBulkAll ds ≤ 1048576)
def OpenSpec.upto (s : _root_.Go.ChangeSpec) : _root_.Go.OpenSpec := { _root_.Go.OpenSpec.ofChange s with cond := some uptoSmall }

/-- 'whilomlaw11.LegalLows', WHERE WHAT IT READS IS OF BULK AT MOST 1048576: true; the input reads as it did. -/
def legalLowsUptoRow : OpenClaim := { program := "ytegekenkfomlbaa", sum := "98db3177d316bb016ea3c6842f58e048ba2db0201f2e87535e2208f2a328d0a1", func := "whilom/whilomlaw11.LegalLows", spec := "legalLows", unfollowed := true, recurses := true, apart := false, narrowed := true }
def LegalLowsUptoSaid : Prop := legalLowsUptoRow.holds Try.pinned (OpenSpec.upto legalLowsSpec)

/-- 'whilomlaw11.LegalEdits', WHERE WHAT IT READS IS OF BULK AT MOST 1048576: true; the input reads as it did. -/
def legalEditsUptoRow : OpenClaim := { program := "ytegekenkfomlbaa", sum := "98db3177d316bb016ea3c6842f58e048ba2db0201f2e87535e2208f2a328d0a1", func := "whilom/whilomlaw11.LegalEdits", spec := "legalEdits", unfollowed := true, recurses := true, apart := false, narrowed := true }
def LegalEditsUptoSaid : Prop := legalEditsUptoRow.holds Try.pinned (OpenSpec.upto legalEditsSpec)

/-- 'whilomlaw11.LegalLater', WHERE WHAT IT READS IS OF BULK AT MOST 1048576: true; the input reads as it did. -/
def legalLaterUptoRow : OpenClaim := { program := "ytegekenkfomlbaa", sum := "98db3177d316bb016ea3c6842f58e048ba2db0201f2e87535e2208f2a328d0a1", func := "whilom/whilomlaw11.LegalLater", spec := "legalLater", unfollowed := true, recurses := true, apart := false, narrowed := true }
def LegalLaterUptoSaid : Prop := legalLaterUptoRow.holds Try.pinned (OpenSpec.upto legalLaterSpec)

end Rows
end Go.Proofs.Ytegekenkfomlbaa
