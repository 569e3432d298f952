/-
  No cell of these rows narrows 'for every input' (looked for: loops, veiled, ifaces, maps, wideKeys, modest, calm, conditions, laid).
  DERIVED. THE GIVEN ROWS OF THIS SEAT. 4 by the template 'for every input the law returns true; each argument reads behind the call as it read before'; 0 by the template 'total and deterministic' (their statements: YtfofaiidakkgbaaTotals.lean).
  GIVEN WITH THE SEED: the statements are not yours to turn. If you find one false, say at which input.
  Laid BY PROGRAM, IN A SANDBOX (cutbox-rows.mjs): the forced cells as the released guide's own fill.sh prints them over the translation 23f9c0390dae90b7… (all of the seat's roots in one cut). By AI agents, Wed Nov 11 2026. No macro, syntax, notation, axiom, sorry.
-/
import Derived.Test.YtfofaiidakkgbaaChecked
import GoSem.Claim
import GoSem.ClaimJoined
import GoSem.ClaimMapViews
import Derived.JoinedTies
import Derived.KernelRfl
namespace Go.Proofs.Ytfofaiidakkgbaa
/- THE CELL 'sum', in the pinned program and in every row, IS THE sha256 OF THE DUMP (.gsa) THAT YtfofaiidakkgbaaProg.lean LOADS. Nothing in Lean hashes anything: it is a label: what it is worth is what the hold of that sum in a sandbox is worth. -/
noncomputable def Try.pinned : Pinned := { name := "ytfofaiidakkgbaa", sum := "23f9c0390dae90b794dcd9df1bcf474f1df0b80786a26ef852daff41a4daade8", checked := Try.checked }
namespace Rows
def none {H : Type} : Left H := { results := [], args := [] }

/-- 'whilomlaw04.PileActs': WHATEVER THE INPUT: true; the input reads as it did. -/
def pileActsSpec : ChangeSpec := { name := "pileActs", fn := fun _ => fun
  | [d1, d2] => { results := [.lit (.bool true)], args := [d1, d2] }
  | _ => none }
def pileActsRow : OpenClaim := { program := "ytfofaiidakkgbaa", sum := "23f9c0390dae90b794dcd9df1bcf474f1df0b80786a26ef852daff41a4daade8", func := "whilom/whilomlaw04.PileActs", spec := "pileActs", apart := false }
def PileActsSaid : Prop := pileActsRow.holds Try.pinned (OpenSpec.ofChange pileActsSpec)

/-- ITS FALSE NEIGHBOUR: 'it returns false'. Refute it at one input. -/
def pileActsWrong : ChangeSpec := { name := "pileActs", fn := fun _ => fun
  | [d1, d2] => { results := [.lit (.bool false)], args := [d1, d2] }
  | _ => none }
def PileActsWrongFalsely : Prop := pileActsRow.holds Try.pinned (OpenSpec.ofChange pileActsWrong)

/-- 'whilomlaw04.PileItems': WHATEVER THE INPUT: true; the input reads as it did. -/
def pileItemsSpec : ChangeSpec := { name := "pileItems", fn := fun _ => fun
  | [d1, d2] => { results := [.lit (.bool true)], args := [d1, d2] }
  | _ => none }
def pileItemsRow : OpenClaim := { program := "ytfofaiidakkgbaa", sum := "23f9c0390dae90b794dcd9df1bcf474f1df0b80786a26ef852daff41a4daade8", func := "whilom/whilomlaw04.PileItems", spec := "pileItems", apart := false }
def PileItemsSaid : Prop := pileItemsRow.holds Try.pinned (OpenSpec.ofChange pileItemsSpec)

/-- ITS FALSE NEIGHBOUR: 'it returns false'. Refute it at one input. -/
def pileItemsWrong : ChangeSpec := { name := "pileItems", fn := fun _ => fun
  | [d1, d2] => { results := [.lit (.bool false)], args := [d1, d2] }
  | _ => none }
def PileItemsWrongFalsely : Prop := pileItemsRow.holds Try.pinned (OpenSpec.ofChange pileItemsWrong)

/-- 'whilomlaw04.PileLists': WHATEVER THE INPUT: true; the input reads as it did. -/
def pileListsSpec : ChangeSpec := { name := "pileLists", fn := fun _ => fun
  | [d1, d2] => { results := [.lit (.bool true)], args := [d1, d2] }
  | _ => none }
def pileListsRow : OpenClaim := { program := "ytfofaiidakkgbaa", sum := "23f9c0390dae90b794dcd9df1bcf474f1df0b80786a26ef852daff41a4daade8", func := "whilom/whilomlaw04.PileLists", spec := "pileLists", apart := false }
def PileListsSaid : Prop := pileListsRow.holds Try.pinned (OpenSpec.ofChange pileListsSpec)

/-- ITS FALSE NEIGHBOUR: 'it returns false'. Refute it at one input. -/
def pileListsWrong : ChangeSpec := { name := "pileLists", fn := fun _ => fun
  | [d1, d2] => { results := [.lit (.bool false)], args := [d1, d2] }
  | _ => none }
def PileListsWrongFalsely : Prop := pileListsRow.holds Try.pinned (OpenSpec.ofChange pileListsWrong)

/-- 'whilomlaw04.PileTwo': WHATEVER THE INPUT: true; the input reads as it did. -/
def pileTwoSpec : ChangeSpec := { name := "pileTwo", fn := fun _ => fun
  | [d] => { results := [.lit (.bool true)], args := [d] }
  | _ => none }
def pileTwoRow : OpenClaim := { program := "ytfofaiidakkgbaa", sum := "23f9c0390dae90b794dcd9df1bcf474f1df0b80786a26ef852daff41a4daade8", func := "whilom/whilomlaw04.PileTwo", spec := "pileTwo", apart := false }
def PileTwoSaid : Prop := pileTwoRow.holds Try.pinned (OpenSpec.ofChange pileTwoSpec)

/-- ITS FALSE NEIGHBOUR: 'it returns false'. Refute it at one input. -/
def pileTwoWrong : ChangeSpec := { name := "pileTwo", fn := fun _ => fun
  | [d] => { results := [.lit (.bool false)], args := [d] }
  | _ => none }
def PileTwoWrongFalsely : Prop := pileTwoRow.holds Try.pinned (OpenSpec.ofChange pileTwoWrong)

/- THE SECOND FORM. 'bulk': how many values and letters a reading holds, each counted each time it is reached (what is shared counts as often as it is met; a slice's spare places count too). A statement '..UptoSaid' is the law's where the arguments, and the package variables that the reading takes, are together of bulk at most 1048576: NARROWER than '..Said'. Prove '..Said' where nothing that the law and all that it calls make is longer than what came in: it says more and counts as full. Else prove '..UptoSaid'. A law counts once. -/
mutual
def uptoBulk {H : Type} : DataW H → Nat
  | .lit (.string bytes) => bytes.length + 1
  | .lit _ => 1
  | .nil => 1
  | .ptr d => uptoBulk d + 1
  | .slice elems spare => uptoBulkAll elems + uptoBulkAll spare + 1
  | .agg parts => uptoBulkAll parts + 1
  | .iface _ d => uptoBulk d + 1
  | .map entries => uptoBulkEntries entries + 1
  | .held _ => 1
def uptoBulkAll {H : Type} : List (DataW H) → Nat
  | [] => 0
  | d :: r => uptoBulk d + uptoBulkAll r
def uptoBulkEntries {H : Type} : List (Lit × DataW H) → Nat
  | [] => 0
  | x :: r => uptoBulkEntry x + uptoBulkEntries r
def uptoBulkEntry {H : Type} : Lit × DataW H → Nat
  | (.string bytes, d) => bytes.length + uptoBulk d + 1
  | (_, d) => uptoBulk d + 1
 end
def uptoSmall : (H : Type) → List (DataW H) → Bool := fun _ ds => decide (uptoBulkAll ds ≤ 1048576)
def OpenSpec.upto (s : _root_.Go.ChangeSpec) : _root_.Go.OpenSpec := { _root_.Go.OpenSpec.ofChange s with cond := some uptoSmall }

/-- 'whilomlaw04.PileActs', WHERE WHAT IT READS IS OF BULK AT MOST 1048576: true; the input reads as it did. -/
def pileActsUptoRow : OpenClaim := { program := "ytfofaiidakkgbaa", sum := "23f9c0390dae90b794dcd9df1bcf474f1df0b80786a26ef852daff41a4daade8", func := "whilom/whilomlaw04.PileActs", spec := "pileActs", apart := false, narrowed := true }
def PileActsUptoSaid : Prop := pileActsUptoRow.holds Try.pinned (OpenSpec.upto pileActsSpec)

/-- 'whilomlaw04.PileItems', WHERE WHAT IT READS IS OF BULK AT MOST 1048576: true; the input reads as it did. -/
def pileItemsUptoRow : OpenClaim := { program := "ytfofaiidakkgbaa", sum := "23f9c0390dae90b794dcd9df1bcf474f1df0b80786a26ef852daff41a4daade8", func := "whilom/whilomlaw04.PileItems", spec := "pileItems", apart := false, narrowed := true }
def PileItemsUptoSaid : Prop := pileItemsUptoRow.holds Try.pinned (OpenSpec.upto pileItemsSpec)

/-- 'whilomlaw04.PileLists', WHERE WHAT IT READS IS OF BULK AT MOST 1048576: true; the input reads as it did. -/
def pileListsUptoRow : OpenClaim := { program := "ytfofaiidakkgbaa", sum := "23f9c0390dae90b794dcd9df1bcf474f1df0b80786a26ef852daff41a4daade8", func := "whilom/whilomlaw04.PileLists", spec := "pileLists", apart := false, narrowed := true }
def PileListsUptoSaid : Prop := pileListsUptoRow.holds Try.pinned (OpenSpec.upto pileListsSpec)

/-- 'whilomlaw04.PileTwo', WHERE WHAT IT READS IS OF BULK AT MOST 1048576: true; the input reads as it did. -/
def pileTwoUptoRow : OpenClaim := { program := "ytfofaiidakkgbaa", sum := "23f9c0390dae90b794dcd9df1bcf474f1df0b80786a26ef852daff41a4daade8", func := "whilom/whilomlaw04.PileTwo", spec := "pileTwo", apart := false, narrowed := true }
def PileTwoUptoSaid : Prop := pileTwoUptoRow.holds Try.pinned (OpenSpec.upto pileTwoSpec)

end Rows
end Go.Proofs.Ytfofaiidakkgbaa
