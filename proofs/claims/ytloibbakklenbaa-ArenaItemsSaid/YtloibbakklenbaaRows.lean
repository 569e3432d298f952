/-
  No cell of these rows narrows 'for every input' (looked for: loops, veiled, ifaces, maps, wideKeys, modest, calm, conditions, laid).
  DERIVED. THE GIVEN ROWS OF THIS SEAT. 4 by the template 'for every input the law returns true; each argument reads behind the call as it read before'; 0 by the template 'total and deterministic' (their statements: YtloibbakklenbaaTotals.lean).
  GIVEN WITH THE SEED: the statements are not yours to turn. If you find one false, say at which input.
  Laid BY PROGRAM, IN A SANDBOX (cutbox-rows.mjs): the forced cells as the released guide's own fill.sh prints them over the translation 7a8878f9ce597770… (all of the seat's roots in one cut). By AI agents, Wed Nov 11 2026. No macro, syntax, notation, axiom, sorry.
-/
import Derived.Test.YtloibbakklenbaaChecked
import GoSem.Claim
import GoSem.ClaimJoined
import GoSem.ClaimMapViews
import Derived.JoinedTies
import Derived.KernelRfl
namespace Go.Proofs.Ytloibbakklenbaa
/- THE CELL 'sum', in the pinned program and in every row, IS THE sha256 OF THE DUMP (.gsa) THAT YtloibbakklenbaaProg.lean LOADS. Nothing in Lean hashes anything: it is a label: what it is worth is what the hold of that sum in a sandbox is worth. -/
noncomputable def Try.pinned : Pinned := { name := "ytloibbakklenbaa", sum := "7a8878f9ce5977709e70587fb76b178b0e0a8b0179ad4a138b96edd0acdf3597", checked := Try.checked }
namespace Rows
def none {H : Type} : Left H := { results := [], args := [] }

/-- 'whilomlaw03.ArenaActs': WHATEVER THE INPUT: true; the input reads as it did. -/
def arenaActsSpec : ChangeSpec := { name := "arenaActs", fn := fun _ => fun
  | [d1, d2] => { results := [.lit (.bool true)], args := [d1, d2] }
  | _ => none }
def arenaActsRow : OpenClaim := { program := "ytloibbakklenbaa", sum := "7a8878f9ce5977709e70587fb76b178b0e0a8b0179ad4a138b96edd0acdf3597", func := "whilom/whilomlaw03.ArenaActs", spec := "arenaActs", apart := false }
def ArenaActsSaid : Prop := arenaActsRow.holds Try.pinned (OpenSpec.ofChange arenaActsSpec)

/-- ITS FALSE NEIGHBOUR: 'it returns false'. Refute it at one input. -/
def arenaActsWrong : ChangeSpec := { name := "arenaActs", fn := fun _ => fun
  | [d1, d2] => { results := [.lit (.bool false)], args := [d1, d2] }
  | _ => none }
def ArenaActsWrongFalsely : Prop := arenaActsRow.holds Try.pinned (OpenSpec.ofChange arenaActsWrong)

/-- 'whilomlaw03.ArenaStale': WHATEVER THE INPUT: true; the input reads as it did. -/
def arenaStaleSpec : ChangeSpec := { name := "arenaStale", fn := fun _ => fun
  | [d] => { results := [.lit (.bool true)], args := [d] }
  | _ => none }
def arenaStaleRow : OpenClaim := { program := "ytloibbakklenbaa", sum := "7a8878f9ce5977709e70587fb76b178b0e0a8b0179ad4a138b96edd0acdf3597", func := "whilom/whilomlaw03.ArenaStale", spec := "arenaStale", apart := false }
def ArenaStaleSaid : Prop := arenaStaleRow.holds Try.pinned (OpenSpec.ofChange arenaStaleSpec)

/-- ITS FALSE NEIGHBOUR: 'it returns false'. Refute it at one input. -/
def arenaStaleWrong : ChangeSpec := { name := "arenaStale", fn := fun _ => fun
  | [d] => { results := [.lit (.bool false)], args := [d] }
  | _ => none }
def ArenaStaleWrongFalsely : Prop := arenaStaleRow.holds Try.pinned (OpenSpec.ofChange arenaStaleWrong)

/-- 'whilomlaw03.ArenaItems': WHATEVER THE INPUT: true; the input reads as it did. -/
def arenaItemsSpec : ChangeSpec := { name := "arenaItems", fn := fun _ => fun
  | [d1, d2] => { results := [.lit (.bool true)], args := [d1, d2] }
  | _ => none }
def arenaItemsRow : OpenClaim := { program := "ytloibbakklenbaa", sum := "7a8878f9ce5977709e70587fb76b178b0e0a8b0179ad4a138b96edd0acdf3597", func := "whilom/whilomlaw03.ArenaItems", spec := "arenaItems", apart := false }
def ArenaItemsSaid : Prop := arenaItemsRow.holds Try.pinned (OpenSpec.ofChange arenaItemsSpec)

/-- ITS FALSE NEIGHBOUR: 'it returns false'. Refute it at one input. -/
def arenaItemsWrong : ChangeSpec := { name := "arenaItems", fn := fun _ => fun
  | [d1, d2] => { results := [.lit (.bool false)], args := [d1, d2] }
  | _ => none }
def ArenaItemsWrongFalsely : Prop := arenaItemsRow.holds Try.pinned (OpenSpec.ofChange arenaItemsWrong)

/-- 'whilomlaw03.ArenaCaps': WHATEVER THE INPUT: true; the input reads as it did. -/
def arenaCapsSpec : ChangeSpec := { name := "arenaCaps", fn := fun _ => fun
  | [d] => { results := [.lit (.bool true)], args := [d] }
  | _ => none }
def arenaCapsRow : OpenClaim := { program := "ytloibbakklenbaa", sum := "7a8878f9ce5977709e70587fb76b178b0e0a8b0179ad4a138b96edd0acdf3597", func := "whilom/whilomlaw03.ArenaCaps", spec := "arenaCaps", apart := false }
def ArenaCapsSaid : Prop := arenaCapsRow.holds Try.pinned (OpenSpec.ofChange arenaCapsSpec)

/-- ITS FALSE NEIGHBOUR: 'it returns false'. Refute it at one input. -/
def arenaCapsWrong : ChangeSpec := { name := "arenaCaps", fn := fun _ => fun
  | [d] => { results := [.lit (.bool false)], args := [d] }
  | _ => none }
def ArenaCapsWrongFalsely : Prop := arenaCapsRow.holds Try.pinned (OpenSpec.ofChange arenaCapsWrong)

/- THE SECOND FORM. 'bulk': how many values and letters a reading holds, each counted each time it is reached (what is shared counts as often as it is met; a slice's spare places count too). A statement '..UptoSaid' is the law's where the arguments, and the package variables that the reading takes, are together of bulk at most 1048576: NARROWER than '..Said'. Prove '..Said' where nothing that the law and all that it calls make is longer than what came in: it says more and counts as full. Else prove '..UptoSaid'. A law counts once. -/
mutual
def uptoBulk {H : Type} : DataW H → Nat
  | .lit (.string bytes) => bytes.length + 1
  | .lit _ => 1
  | .nil => 1
  | .ptr d => uptoBulk d + 1
  | .slice elems spare => uptoBulkAll elems + uptoBulkAll spare + 1
  | .agg parts => uptoBulkAll parts + 1
  | .iface _ d => uptoBulk d + 1
  | .map entries => uptoBulkEntries entries + 1
  | .held _ => 1
def uptoBulkAll {H : Type} : List (DataW H) → Nat
  | [] => 0
  | d :: r => uptoBulk d + uptoBulkAll r
def uptoBulkEntries {H : Type} : List (Lit × DataW H) → Nat
  | [] => 0
  | x :: r => uptoBulkEntry x + uptoBulkEntries r
def uptoBulkEntry {H : Type} : Lit × DataW H → Nat
  | (.string bytes, d) => bytes.length + uptoBulk d + 1
  | (_, d) => uptoBulk d + 1
 end
def uptoSmall : (H : Type) → List (DataW H) → Bool := fun _ ds => decide (uptoBulkAll ds ≤ 1048576)
def OpenSpec.upto (s : _root_.Go.ChangeSpec) : _root_.Go.OpenSpec := { _root_.Go.OpenSpec.ofChange s with cond := some uptoSmall }

/-- 'whilomlaw03.ArenaActs', WHERE WHAT IT READS IS OF BULK AT MOST 1048576: true; the input reads as it did. -/
def arenaActsUptoRow : OpenClaim := { program := "ytloibbakklenbaa", sum := "7a8878f9ce5977709e70587fb76b178b0e0a8b0179ad4a138b96edd0acdf3597", func := "whilom/whilomlaw03.ArenaActs", spec := "arenaActs", apart := false, narrowed := true }
def ArenaActsUptoSaid : Prop := arenaActsUptoRow.holds Try.pinned (OpenSpec.upto arenaActsSpec)

/-- 'whilomlaw03.ArenaStale', WHERE WHAT IT READS IS OF BULK AT MOST 1048576: true; the input reads as it did. -/
def arenaStaleUptoRow : OpenClaim := { program := "ytloibbakklenbaa", sum := "7a8878f9ce5977709e70587fb76b178b0e0a8b0179ad4a138b96edd0acdf3597", func := "whilom/whilomlaw03.ArenaStale", spec := "arenaStale", apart := false, narrowed := true }
def ArenaStaleUptoSaid : Prop := arenaStaleUptoRow.holds Try.pinned (OpenSpec.upto arenaStaleSpec)

/-- 'whilomlaw03.ArenaItems', WHERE WHAT IT READS IS OF BULK AT MOST 1048576: true; the input reads as it did. -/
def arenaItemsUptoRow : OpenClaim := { program := "ytloibbakklenbaa", sum := "7a8878f9ce5977709e70587fb76b178b0e0a8b0179ad4a138b96edd0acdf3597", func := "whilom/whilomlaw03.ArenaItems", spec := "arenaItems", apart := false, narrowed := true }
def ArenaItemsUptoSaid : Prop := arenaItemsUptoRow.holds Try.pinned (OpenSpec.upto arenaItemsSpec)

/-- 'whilomlaw03.ArenaCaps', WHERE WHAT IT READS IS OF BULK AT MOST 1048576: true; the input reads as it did. -/
def arenaCapsUptoRow : OpenClaim := { program := "ytloibbakklenbaa", sum := "7a8878f9ce5977709e70587fb76b178b0e0a8b0179ad4a138b96edd0acdf3597", func := "whilom/whilomlaw03.ArenaCaps", spec := "arenaCaps", apart := false, narrowed := true }
def ArenaCapsUptoSaid : Prop := arenaCapsUptoRow.holds Try.pinned (OpenSpec.upto arenaCapsSpec)

end Rows
end Go.Proofs.Ytloibbakklenbaa
