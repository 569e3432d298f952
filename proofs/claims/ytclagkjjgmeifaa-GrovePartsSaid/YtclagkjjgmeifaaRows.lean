/-
  No cell of these rows narrows 'for every input' (looked for: loops, veiled, ifaces, maps, wideKeys, modest, calm, conditions, laid).
  DERIVED. THE GIVEN ROWS OF THIS SEAT. 6 by the template 'for every input the law returns true; each argument reads behind the call as it read before'; 0 by the template 'total and deterministic' (their statements: YtclagkjjgmeifaaTotals.lean).
  GIVEN WITH THE SEED: the statements are not yours to turn. If you find one false, say at which input.
  Laid BY PROGRAM, IN A SANDBOX (cutbox-rows.mjs): the forced cells as the released guide's own fill.sh prints them over the translation fe85ea673fa3a957… (all of the seat's roots in one cut). By AI agents, Wed Nov 11 2026. No macro, syntax, notation, axiom, sorry.
-/
import Derived.Test.YtclagkjjgmeifaaChecked
import GoSem.Claim
import GoSem.ClaimJoined
import GoSem.ClaimMapViews
import Derived.JoinedTies
import Derived.KernelRfl
namespace Go.Proofs.Ytclagkjjgmeifaa
/- THE CELL 'sum', in the pinned program and in every row, IS THE sha256 OF THE DUMP (.gsa) THAT YtclagkjjgmeifaaProg.lean LOADS. Nothing in Lean hashes anything: it is a label: what it is worth is what the hold of that sum in a sandbox is worth. -/
noncomputable def Try.pinned : Pinned := { name := "ytclagkjjgmeifaa", sum := "fe85ea673fa3a9574098cb4110d0d926dc5487caba819ae8c71661a2d9aa41e1", checked := Try.checked }
namespace Rows
def none {H : Type} : Left H := { results := [], args := [] }

/-- 'whilomlaw07.GroveActs': WHATEVER THE INPUT: true; the input reads as it did. -/
def groveActsSpec : ChangeSpec := { name := "groveActs", fn := fun _ => fun
  | [d1, d2] => { results := [.lit (.bool true)], args := [d1, d2] }
  | _ => none }
def groveActsRow : OpenClaim := { program := "ytclagkjjgmeifaa", sum := "fe85ea673fa3a9574098cb4110d0d926dc5487caba819ae8c71661a2d9aa41e1", func := "whilom/whilomlaw07.GroveActs", spec := "groveActs", unfollowed := true, recurses := true, apart := false }
def GroveActsSaid : Prop := groveActsRow.holds Try.pinned (OpenSpec.ofChange groveActsSpec)

/-- ITS FALSE NEIGHBOUR: 'it returns false'. Refute it at one input. -/
def groveActsWrong : ChangeSpec := { name := "groveActs", fn := fun _ => fun
  | [d1, d2] => { results := [.lit (.bool false)], args := [d1, d2] }
  | _ => none }
def GroveActsWrongFalsely : Prop := groveActsRow.holds Try.pinned (OpenSpec.ofChange groveActsWrong)

/-- 'whilomlaw07.GroveSums': WHATEVER THE INPUT: true; the input reads as it did. -/
def groveSumsSpec : ChangeSpec := { name := "groveSums", fn := fun _ => fun
  | [d1, d2, d3] => { results := [.lit (.bool true)], args := [d1, d2, d3] }
  | _ => none }
def groveSumsRow : OpenClaim := { program := "ytclagkjjgmeifaa", sum := "fe85ea673fa3a9574098cb4110d0d926dc5487caba819ae8c71661a2d9aa41e1", func := "whilom/whilomlaw07.GroveSums", spec := "groveSums", unfollowed := true, recurses := true, apart := false }
def GroveSumsSaid : Prop := groveSumsRow.holds Try.pinned (OpenSpec.ofChange groveSumsSpec)

/-- ITS FALSE NEIGHBOUR: 'it returns false'. Refute it at one input. -/
def groveSumsWrong : ChangeSpec := { name := "groveSums", fn := fun _ => fun
  | [d1, d2, d3] => { results := [.lit (.bool false)], args := [d1, d2, d3] }
  | _ => none }
def GroveSumsWrongFalsely : Prop := groveSumsRow.holds Try.pinned (OpenSpec.ofChange groveSumsWrong)

/-- 'whilomlaw07.GroveSearches': WHATEVER THE INPUT: true; the input reads as it did. -/
def groveSearchesSpec : ChangeSpec := { name := "groveSearches", fn := fun _ => fun
  | [d1, d2, d3] => { results := [.lit (.bool true)], args := [d1, d2, d3] }
  | _ => none }
def groveSearchesRow : OpenClaim := { program := "ytclagkjjgmeifaa", sum := "fe85ea673fa3a9574098cb4110d0d926dc5487caba819ae8c71661a2d9aa41e1", func := "whilom/whilomlaw07.GroveSearches", spec := "groveSearches", unfollowed := true, recurses := true, apart := false }
def GroveSearchesSaid : Prop := groveSearchesRow.holds Try.pinned (OpenSpec.ofChange groveSearchesSpec)

/-- ITS FALSE NEIGHBOUR: 'it returns false'. Refute it at one input. -/
def groveSearchesWrong : ChangeSpec := { name := "groveSearches", fn := fun _ => fun
  | [d1, d2, d3] => { results := [.lit (.bool false)], args := [d1, d2, d3] }
  | _ => none }
def GroveSearchesWrongFalsely : Prop := groveSearchesRow.holds Try.pinned (OpenSpec.ofChange groveSearchesWrong)

/-- 'whilomlaw07.GroveParts': WHATEVER THE INPUT: true; the input reads as it did. -/
def grovePartsSpec : ChangeSpec := { name := "groveParts", fn := fun _ => fun
  | [d1, d2, d3] => { results := [.lit (.bool true)], args := [d1, d2, d3] }
  | _ => none }
def grovePartsRow : OpenClaim := { program := "ytclagkjjgmeifaa", sum := "fe85ea673fa3a9574098cb4110d0d926dc5487caba819ae8c71661a2d9aa41e1", func := "whilom/whilomlaw07.GroveParts", spec := "groveParts", unfollowed := true, recurses := true, apart := false }
def GrovePartsSaid : Prop := grovePartsRow.holds Try.pinned (OpenSpec.ofChange grovePartsSpec)

/-- ITS FALSE NEIGHBOUR: 'it returns false'. Refute it at one input. -/
def grovePartsWrong : ChangeSpec := { name := "groveParts", fn := fun _ => fun
  | [d1, d2, d3] => { results := [.lit (.bool false)], args := [d1, d2, d3] }
  | _ => none }
def GrovePartsWrongFalsely : Prop := grovePartsRow.holds Try.pinned (OpenSpec.ofChange grovePartsWrong)

/-- 'whilomlaw07.GroveHeights': WHATEVER THE INPUT: true; the input reads as it did. -/
def groveHeightsSpec : ChangeSpec := { name := "groveHeights", fn := fun _ => fun
  | [d1, d2] => { results := [.lit (.bool true)], args := [d1, d2] }
  | _ => none }
def groveHeightsRow : OpenClaim := { program := "ytclagkjjgmeifaa", sum := "fe85ea673fa3a9574098cb4110d0d926dc5487caba819ae8c71661a2d9aa41e1", func := "whilom/whilomlaw07.GroveHeights", spec := "groveHeights", unfollowed := true, recurses := true, apart := false }
def GroveHeightsSaid : Prop := groveHeightsRow.holds Try.pinned (OpenSpec.ofChange groveHeightsSpec)

/-- ITS FALSE NEIGHBOUR: 'it returns false'. Refute it at one input. -/
def groveHeightsWrong : ChangeSpec := { name := "groveHeights", fn := fun _ => fun
  | [d1, d2] => { results := [.lit (.bool false)], args := [d1, d2] }
  | _ => none }
def GroveHeightsWrongFalsely : Prop := groveHeightsRow.holds Try.pinned (OpenSpec.ofChange groveHeightsWrong)

/-- 'whilomlaw07.GroveOrder': WHATEVER THE INPUT: true; the input reads as it did. -/
def groveOrderSpec : ChangeSpec := { name := "groveOrder", fn := fun _ => fun
  | [d] => { results := [.lit (.bool true)], args := [d] }
  | _ => none }
def groveOrderRow : OpenClaim := { program := "ytclagkjjgmeifaa", sum := "fe85ea673fa3a9574098cb4110d0d926dc5487caba819ae8c71661a2d9aa41e1", func := "whilom/whilomlaw07.GroveOrder", spec := "groveOrder", unfollowed := true, recurses := true, apart := false }
def GroveOrderSaid : Prop := groveOrderRow.holds Try.pinned (OpenSpec.ofChange groveOrderSpec)

/-- ITS FALSE NEIGHBOUR: 'it returns false'. Refute it at one input. -/
def groveOrderWrong : ChangeSpec := { name := "groveOrder", fn := fun _ => fun
  | [d] => { results := [.lit (.bool false)], args := [d] }
  | _ => none }
def GroveOrderWrongFalsely : Prop := groveOrderRow.holds Try.pinned (OpenSpec.ofChange groveOrderWrong)

/- THE SECOND FORM. 'bulk': how many values and letters a reading holds, each counted each time it is reached (what is shared counts as often as it is met; a slice's spare places count too). A statement '..UptoSaid' is the law's where the arguments, and the package variables that the reading takes, are together of bulk at most 1048576: NARROWER than '..Said'. Prove '..Said' where nothing that the law and all that it calls make is longer than what came in: it says more and counts as full. Else prove '..UptoSaid'. A law counts once. -/
mutual
def uptoBulk {H : Type} : DataW H → Nat
  | .lit (.string bytes) => bytes.length + 1
  | .lit _ => 1
  | .nil => 1
  | .ptr d => uptoBulk d + 1
  | .slice elems spare => uptoBulkAll elems + uptoBulkAll spare + 1
  | .agg parts => uptoBulkAll parts + 1
  | .iface _ d => uptoBulk d + 1
  | .map entries => uptoBulkEntries entries + 1
  | .held _ => 1
def uptoBulkAll {H : Type} : List (DataW H) → Nat
  | [] => 0
  | d :: r => uptoBulk d + uptoBulkAll r
def uptoBulkEntries {H : Type} : List (Lit × DataW H) → Nat
  | [] => 0
  | x :: r => uptoBulkEntry x + uptoBulkEntries r
def uptoBulkEntry {H : Type} : Lit × DataW H → Nat
  | (.string bytes, d) => bytes.length + uptoBulk d + 1
  | (_, d) => uptoBulk d + 1
 end
def uptoSmall : (H : Type) → List (DataW H) → Bool := fun _ ds => decide (uptoBulkAll ds ≤ 1048576)
def OpenSpec.upto (s : _root_.Go.ChangeSpec) : _root_.Go.OpenSpec := { _root_.Go.OpenSpec.ofChange s with cond := some uptoSmall }

/-- 'whilomlaw07.GroveActs', WHERE WHAT IT READS IS OF BULK AT MOST 1048576: true; the input reads as it did. -/
def groveActsUptoRow : OpenClaim := { program := "ytclagkjjgmeifaa", sum := "fe85ea673fa3a9574098cb4110d0d926dc5487caba819ae8c71661a2d9aa41e1", func := "whilom/whilomlaw07.GroveActs", spec := "groveActs", unfollowed := true, recurses := true, apart := false, narrowed := true }
def GroveActsUptoSaid : Prop := groveActsUptoRow.holds Try.pinned (OpenSpec.upto groveActsSpec)

/-- 'whilomlaw07.GroveSums', WHERE WHAT IT READS IS OF BULK AT MOST 1048576: true; the input reads as it did. -/
def groveSumsUptoRow : OpenClaim := { program := "ytclagkjjgmeifaa", sum := "fe85ea673fa3a9574098cb4110d0d926dc5487caba819ae8c71661a2d9aa41e1", func := "whilom/whilomlaw07.GroveSums", spec := "groveSums", unfollowed := true, recurses := true, apart := false, narrowed := true }
def GroveSumsUptoSaid : Prop := groveSumsUptoRow.holds Try.pinned (OpenSpec.upto groveSumsSpec)

/-- 'whilomlaw07.GroveSearches', WHERE WHAT IT READS IS OF BULK AT MOST 1048576: true; the input reads as it did. -/
def groveSearchesUptoRow : OpenClaim := { program := "ytclagkjjgmeifaa", sum := "fe85ea673fa3a9574098cb4110d0d926dc5487caba819ae8c71661a2d9aa41e1", func := "whilom/whilomlaw07.GroveSearches", spec := "groveSearches", unfollowed := true, recurses := true, apart := false, narrowed := true }
def GroveSearchesUptoSaid : Prop := groveSearchesUptoRow.holds Try.pinned (OpenSpec.upto groveSearchesSpec)

/-- 'whilomlaw07.GroveParts', WHERE WHAT IT READS IS OF BULK AT MOST 1048576: true; the input reads as it did. -/
def grovePartsUptoRow : OpenClaim := { program := "ytclagkjjgmeifaa", sum := "fe85ea673fa3a9574098cb4110d0d926dc5487caba819ae8c71661a2d9aa41e1", func := "whilom/whilomlaw07.GroveParts", spec := "groveParts", unfollowed := true, recurses := true, apart := false, narrowed := true }
def GrovePartsUptoSaid : Prop := grovePartsUptoRow.holds Try.pinned (OpenSpec.upto grovePartsSpec)

/-- 'whilomlaw07.GroveHeights', WHERE WHAT IT READS IS OF BULK AT MOST 1048576: true; the input reads as it did. -/
def groveHeightsUptoRow : OpenClaim := { program := "ytclagkjjgmeifaa", sum := "fe85ea673fa3a9574098cb4110d0d926dc5487caba819ae8c71661a2d9aa41e1", func := "whilom/whilomlaw07.GroveHeights", spec := "groveHeights", unfollowed := true, recurses := true, apart := false, narrowed := true }
def GroveHeightsUptoSaid : Prop := groveHeightsUptoRow.holds Try.pinned (OpenSpec.upto groveHeightsSpec)

/-- 'whilomlaw07.GroveOrder', WHERE WHAT IT READS IS OF BULK AT MOST 1048576: true; the input reads as it did. -/
def groveOrderUptoRow : OpenClaim := { program := "ytclagkjjgmeifaa", sum := "fe85ea673fa3a9574098cb4110d0d926dc5487caba819ae8c71661a2d9aa41e1", func := "whilom/whilomlaw07.GroveOrder", spec := "groveOrder", unfollowed := true, recurses := true, apart := false, narrowed := true }
def GroveOrderUptoSaid : Prop := groveOrderUptoRow.holds Try.pinned (OpenSpec.upto groveOrderSpec)

end Rows
end Go.Proofs.Ytclagkjjgmeifaa
