/-
  No cell of these rows narrows 'for every input' (looked for: loops, veiled, ifaces, maps, wideKeys, modest, calm, conditions, laid).
  DERIVED. THE GIVEN ROWS OF THIS SEAT. 4 by the template 'for every input the law returns true; each argument reads behind the call as it read before'; 0 by the template 'total and deterministic' (their statements: YtllgglbfbfhfoaaTotals.lean).
  GIVEN WITH THE SEED: the statements are not yours to turn. If you find one false, say at which input.
  Laid BY PROGRAM, IN A SANDBOX (cutbox-rows.mjs): the forced cells as the released guide's own fill.sh prints them over the translation 21e5264951509846… (all of the seat's roots in one cut). By AI agents, Wed Nov 11 2026. No macro, syntax, notation, axiom, sorry.
-/
import Derived.Test.YtllgglbfbfhfoaaChecked
import GoSem.Claim
import GoSem.ClaimJoined
import GoSem.ClaimMapViews
import Derived.JoinedTies
import Derived.KernelRfl
namespace Go.Proofs.Ytllgglbfbfhfoaa
/- THE CELL 'sum', in the pinned program and in every row, IS THE sha256 OF THE DUMP (.gsa) THAT YtllgglbfbfhfoaaProg.lean LOADS. Nothing in Lean hashes anything: it is a label: what it is worth is what the hold of that sum in a sandbox is worth. -/
noncomputable def Try.pinned : Pinned := { name := "ytllgglbfbfhfoaa", sum := "21e5264951509846813863f328927aec7eaaff5cbfed3c5927d05a07fe3589e1", checked := Try.checked }
namespace Rows
def none {H : Type} : Left H := { results := [], args := [] }

/-- 'whilomlaw08.WaveSums': WHATEVER THE INPUT: true; the input reads as it did. -/
def waveSumsSpec : ChangeSpec := { name := "waveSums", fn := fun _ => fun
  | [d] => { results := [.lit (.bool true)], args := [d] }
  | _ => none }
def waveSumsRow : OpenClaim := { program := "ytllgglbfbfhfoaa", sum := "21e5264951509846813863f328927aec7eaaff5cbfed3c5927d05a07fe3589e1", func := "whilom/whilomlaw08.WaveSums", spec := "waveSums", apart := false }
def WaveSumsSaid : Prop := waveSumsRow.holds Try.pinned (OpenSpec.ofChange waveSumsSpec)

/-- ITS FALSE NEIGHBOUR: 'it returns false'. Refute it at one input. -/
def waveSumsWrong : ChangeSpec := { name := "waveSums", fn := fun _ => fun
  | [d] => { results := [.lit (.bool false)], args := [d] }
  | _ => none }
def WaveSumsWrongFalsely : Prop := waveSumsRow.holds Try.pinned (OpenSpec.ofChange waveSumsWrong)

/-- 'whilomlaw08.WaveParts': WHATEVER THE INPUT: true; the input reads as it did. -/
def wavePartsSpec : ChangeSpec := { name := "waveParts", fn := fun _ => fun
  | [d1, d2, d3] => { results := [.lit (.bool true)], args := [d1, d2, d3] }
  | _ => none }
def wavePartsRow : OpenClaim := { program := "ytllgglbfbfhfoaa", sum := "21e5264951509846813863f328927aec7eaaff5cbfed3c5927d05a07fe3589e1", func := "whilom/whilomlaw08.WaveParts", spec := "waveParts", apart := false }
def WavePartsSaid : Prop := wavePartsRow.holds Try.pinned (OpenSpec.ofChange wavePartsSpec)

/-- ITS FALSE NEIGHBOUR: 'it returns false'. Refute it at one input. -/
def wavePartsWrong : ChangeSpec := { name := "waveParts", fn := fun _ => fun
  | [d1, d2, d3] => { results := [.lit (.bool false)], args := [d1, d2, d3] }
  | _ => none }
def WavePartsWrongFalsely : Prop := wavePartsRow.holds Try.pinned (OpenSpec.ofChange wavePartsWrong)

/-- 'whilomlaw08.WaveAbove': WHATEVER THE INPUT: true; the input reads as it did. -/
def waveAboveSpec : ChangeSpec := { name := "waveAbove", fn := fun _ => fun
  | [d1, d2] => { results := [.lit (.bool true)], args := [d1, d2] }
  | _ => none }
def waveAboveRow : OpenClaim := { program := "ytllgglbfbfhfoaa", sum := "21e5264951509846813863f328927aec7eaaff5cbfed3c5927d05a07fe3589e1", func := "whilom/whilomlaw08.WaveAbove", spec := "waveAbove", apart := false }
def WaveAboveSaid : Prop := waveAboveRow.holds Try.pinned (OpenSpec.ofChange waveAboveSpec)

/-- ITS FALSE NEIGHBOUR: 'it returns false'. Refute it at one input. -/
def waveAboveWrong : ChangeSpec := { name := "waveAbove", fn := fun _ => fun
  | [d1, d2] => { results := [.lit (.bool false)], args := [d1, d2] }
  | _ => none }
def WaveAboveWrongFalsely : Prop := waveAboveRow.holds Try.pinned (OpenSpec.ofChange waveAboveWrong)

/-- 'whilomlaw08.WaveTrees': WHATEVER THE INPUT: true; the input reads as it did. -/
def waveTreesSpec : ChangeSpec := { name := "waveTrees", fn := fun _ => fun
  | [d1, d2, d3] => { results := [.lit (.bool true)], args := [d1, d2, d3] }
  | _ => none }
def waveTreesRow : OpenClaim := { program := "ytllgglbfbfhfoaa", sum := "21e5264951509846813863f328927aec7eaaff5cbfed3c5927d05a07fe3589e1", func := "whilom/whilomlaw08.WaveTrees", spec := "waveTrees", unfollowed := true, recurses := true, apart := false }
def WaveTreesSaid : Prop := waveTreesRow.holds Try.pinned (OpenSpec.ofChange waveTreesSpec)

/-- ITS FALSE NEIGHBOUR: 'it returns false'. Refute it at one input. -/
def waveTreesWrong : ChangeSpec := { name := "waveTrees", fn := fun _ => fun
  | [d1, d2, d3] => { results := [.lit (.bool false)], args := [d1, d2, d3] }
  | _ => none }
def WaveTreesWrongFalsely : Prop := waveTreesRow.holds Try.pinned (OpenSpec.ofChange waveTreesWrong)

/- THE SECOND FORM. 'bulk': how many values and letters a reading holds, each counted each time it is reached (what is shared counts as often as it is met; a slice's spare places count too). A statement '..UptoSaid' is the law's where the arguments, and the package variables that the reading takes, are together of bulk at most 1048576: NARROWER than '..Said'. Prove '..Said' where nothing that the law and all that it calls make is longer than what came in: it says more and counts as full. Else prove '..UptoSaid'. A law counts once. -/
mutual
def uptoBulk {H : Type} : DataW H → Nat
  | .lit (.string bytes) => bytes.length + 1
  | .lit _ => 1
  | .nil => 1
  | .ptr d => uptoBulk d + 1
  | .slice elems spare => uptoBulkAll elems + uptoBulkAll spare + 1
  | .agg parts => uptoBulkAll parts + 1
  | .iface _ d => uptoBulk d + 1
  | .map entries => uptoBulkEntries entries + 1
  | .held _ => 1
def uptoBulkAll {H : Type} : List (DataW H) → Nat
  | [] => 0
  | d :: r => uptoBulk d + uptoBulkAll r
def uptoBulkEntries {H : Type} : List (Lit × DataW H) → Nat
  | [] => 0
  | x :: r => uptoBulkEntry x + uptoBulkEntries r
def uptoBulkEntry {H : Type} : Lit × DataW H → Nat
  | (.string bytes, d) => bytes.length + uptoBulk d + 1
  | (_, d) => uptoBulk d + 1
 end
def uptoSmall : (H : Type) → List (DataW H) → Bool := fun _ ds => decide (uptoBulkAll ds ≤ 1048576)
def OpenSpec.upto (s : _root_.Go.ChangeSpec) : _root_.Go.OpenSpec := { _root_.Go.OpenSpec.ofChange s with cond := some uptoSmall }

/-- 'whilomlaw08.WaveSums', WHERE WHAT IT READS IS OF BULK AT MOST 1048576: true; the input reads as it did. -/
def waveSumsUptoRow : OpenClaim := { program := "ytllgglbfbfhfoaa", sum := "21e5264951509846813863f328927aec7eaaff5cbfed3c5927d05a07fe3589e1", func := "whilom/whilomlaw08.WaveSums", spec := "waveSums", apart := false, narrowed := true }
def WaveSumsUptoSaid : Prop := waveSumsUptoRow.holds Try.pinned (OpenSpec.upto waveSumsSpec)

/-- 'whilomlaw08.WaveParts', WHERE WHAT IT READS IS OF BULK AT MOST 1048576: true; the input reads as it did. -/
def wavePartsUptoRow : OpenClaim := { program := "ytllgglbfbfhfoaa", sum := "21e5264951509846813863f328927aec7eaaff5cbfed3c5927d05a07fe3589e1", func := "whilom/whilomlaw08.WaveParts", spec := "waveParts", apart := false, narrowed := true }
def WavePartsUptoSaid : Prop := wavePartsUptoRow.holds Try.pinned (OpenSpec.upto wavePartsSpec)

/-- 'whilomlaw08.WaveAbove', WHERE WHAT IT READS IS OF BULK AT MOST 1048576: true; the input reads as it did. -/
def waveAboveUptoRow : OpenClaim := { program := "ytllgglbfbfhfoaa", sum := "21e5264951509846813863f328927aec7eaaff5cbfed3c5927d05a07fe3589e1", func := "whilom/whilomlaw08.WaveAbove", spec := "waveAbove", apart := false, narrowed := true }
def WaveAboveUptoSaid : Prop := waveAboveUptoRow.holds Try.pinned (OpenSpec.upto waveAboveSpec)

/-- 'whilomlaw08.WaveTrees', WHERE WHAT IT READS IS OF BULK AT MOST 1048576: true; the input reads as it did. -/
def waveTreesUptoRow : OpenClaim := { program := "ytllgglbfbfhfoaa", sum := "21e5264951509846813863f328927aec7eaaff5cbfed3c5927d05a07fe3589e1", func := "whilom/whilomlaw08.WaveTrees", spec := "waveTrees", unfollowed := true, recurses := true, apart := false, narrowed := true }
def WaveTreesUptoSaid : Prop := waveTreesUptoRow.holds Try.pinned (OpenSpec.upto waveTreesSpec)

end Rows
end Go.Proofs.Ytllgglbfbfhfoaa
