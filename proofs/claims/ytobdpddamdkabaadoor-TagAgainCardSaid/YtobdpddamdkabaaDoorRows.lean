/-
  NARROWER THAN 'FOR EVERY INPUT', by the rows' own cells (each row's printed sentence says how): TagActs: laid · TagOnce: laid · TagMakes: laid · TagAgain: laid · TagTimes: laid.
  DERIVED. THE GIVEN ROWS OF THIS SEAT. 5 by the template 'for every input the law returns true; each argument reads behind the call as it read before'; 0 by the template 'total and deterministic' (their statements: YtobdpddamdkabaaDoorTotals.lean).
  GIVEN WITH THE SEED: the statements are not yours to turn. If you find one false, say at which input.
  Laid BY PROGRAM, IN A SANDBOX (cutbox-rows.mjs): the forced cells as the released guide's own fill.sh prints them over the translation 2330a9cb4c1051b7… (all of the seat's roots in one cut). By AI agents, Wed Nov 11 2026. No macro, syntax, notation, axiom, sorry.
-/
import Derived.Test.YtobdpddamdkabaaDoorChecked
import GoSem.Claim
import GoSem.ClaimJoined
import GoSem.ClaimMapViews
import Derived.JoinedTies
import Derived.KernelRfl
namespace Go.Proofs.YtobdpddamdkabaaDoor
/- THE CELL 'sum', in the pinned program and in every row, IS THE sha256 OF THE DUMP (.gsa) THAT YtobdpddamdkabaaDoorProg.lean LOADS. Nothing in Lean hashes anything: it is a label: what it is worth is what the hold of that sum in a sandbox is worth. -/
noncomputable def Tryd.pinned : Pinned := { name := "ytobdpddamdkabaadoor", sum := "2330a9cb4c1051b700ed8a60cee16810332c63239690d7bee4358798960a0e4f", checked := Tryd.checked }
namespace Rows
def none {H : Type} : Left H := { results := [], args := [] }

/- WHAT THE LISTED PACKAGE-LEVEL VARIABLES READ AS WHEN THE CALL BEGINS. Each datum BY PROGRAM (the guide's laid-datum.mjs) off the statement by which the dump's own 'gosem.cut.vars' lays the variable. In a bare row this is a premise. The card (YtobdpddamdkabaaDoorCards.lean) ties it to the program's text. -/
def laid_math_bits_deBruijn64tab {H : Type} : DataW H := .agg [.lit (.int .u8 0), .lit (.int .u8 1), .lit (.int .u8 56), .lit (.int .u8 2), .lit (.int .u8 57), .lit (.int .u8 49), .lit (.int .u8 28), .lit (.int .u8 3), .lit (.int .u8 61), .lit (.int .u8 58), .lit (.int .u8 42), .lit (.int .u8 50), .lit (.int .u8 38), .lit (.int .u8 29), .lit (.int .u8 17), .lit (.int .u8 4), .lit (.int .u8 62), .lit (.int .u8 47), .lit (.int .u8 59), .lit (.int .u8 36), .lit (.int .u8 45), .lit (.int .u8 43), .lit (.int .u8 51), .lit (.int .u8 22), .lit (.int .u8 53), .lit (.int .u8 39), .lit (.int .u8 33), .lit (.int .u8 30), .lit (.int .u8 24), .lit (.int .u8 18), .lit (.int .u8 12), .lit (.int .u8 5), .lit (.int .u8 63), .lit (.int .u8 55), .lit (.int .u8 48), .lit (.int .u8 27), .lit (.int .u8 60), .lit (.int .u8 41), .lit (.int .u8 37), .lit (.int .u8 16), .lit (.int .u8 46), .lit (.int .u8 35), .lit (.int .u8 44), .lit (.int .u8 21), .lit (.int .u8 52), .lit (.int .u8 32), .lit (.int .u8 23), .lit (.int .u8 11), .lit (.int .u8 54), .lit (.int .u8 26), .lit (.int .u8 40), .lit (.int .u8 15), .lit (.int .u8 34), .lit (.int .u8 20), .lit (.int .u8 31), .lit (.int .u8 10), .lit (.int .u8 25), .lit (.int .u8 14), .lit (.int .u8 19), .lit (.int .u8 9), .lit (.int .u8 13), .lit (.int .u8 8), .lit (.int .u8 7), .lit (.int .u8 6)]

/-- 'whilomlaw16.TagActs': WHATEVER THE INPUT: true; the input reads as it did. -/
def tagActsSpec : ChangeSpec := { name := "tagActs", fn := fun _ => fun
  | [d1, d2] => { results := [.lit (.bool true)], args := [d1, d2] }
  | _ => none }
def tagActsRow : OpenClaim := { program := "ytobdpddamdkabaadoor", sum := "2330a9cb4c1051b700ed8a60cee16810332c63239690d7bee4358798960a0e4f", func := "whilom/whilomlaw16.TagActs", spec := "tagActs", unfollowed := true, recurses := true, named := ["math/bits.deBruijn64tab"], apart := false, laid := [("math/bits.deBruijn64tab", laid_math_bits_deBruijn64tab)] }
def TagActsSaid : Prop := tagActsRow.holds Tryd.pinned (OpenSpec.ofChange tagActsSpec)

/-- ITS FALSE NEIGHBOUR: 'it returns false'. Refute it at one input. -/
def tagActsWrong : ChangeSpec := { name := "tagActs", fn := fun _ => fun
  | [d1, d2] => { results := [.lit (.bool false)], args := [d1, d2] }
  | _ => none }
def TagActsWrongFalsely : Prop := tagActsRow.holds Tryd.pinned (OpenSpec.ofChange tagActsWrong)

/-- 'whilomlaw16.TagOnce': WHATEVER THE INPUT: true; the input reads as it did. -/
def tagOnceSpec : ChangeSpec := { name := "tagOnce", fn := fun _ => fun
  | [d] => { results := [.lit (.bool true)], args := [d] }
  | _ => none }
def tagOnceRow : OpenClaim := { program := "ytobdpddamdkabaadoor", sum := "2330a9cb4c1051b700ed8a60cee16810332c63239690d7bee4358798960a0e4f", func := "whilom/whilomlaw16.TagOnce", spec := "tagOnce", named := ["math/bits.deBruijn64tab"], apart := false, laid := [("math/bits.deBruijn64tab", laid_math_bits_deBruijn64tab)] }
def TagOnceSaid : Prop := tagOnceRow.holds Tryd.pinned (OpenSpec.ofChange tagOnceSpec)

/-- ITS FALSE NEIGHBOUR: 'it returns false'. Refute it at one input. -/
def tagOnceWrong : ChangeSpec := { name := "tagOnce", fn := fun _ => fun
  | [d] => { results := [.lit (.bool false)], args := [d] }
  | _ => none }
def TagOnceWrongFalsely : Prop := tagOnceRow.holds Tryd.pinned (OpenSpec.ofChange tagOnceWrong)

/-- 'whilomlaw16.TagMakes': WHATEVER THE INPUT: true; the input reads as it did. -/
def tagMakesSpec : ChangeSpec := { name := "tagMakes", fn := fun _ => fun
  | [d1, d2] => { results := [.lit (.bool true)], args := [d1, d2] }
  | _ => none }
def tagMakesRow : OpenClaim := { program := "ytobdpddamdkabaadoor", sum := "2330a9cb4c1051b700ed8a60cee16810332c63239690d7bee4358798960a0e4f", func := "whilom/whilomlaw16.TagMakes", spec := "tagMakes", unfollowed := true, recurses := true, named := ["math/bits.deBruijn64tab"], apart := false, laid := [("math/bits.deBruijn64tab", laid_math_bits_deBruijn64tab)] }
def TagMakesSaid : Prop := tagMakesRow.holds Tryd.pinned (OpenSpec.ofChange tagMakesSpec)

/-- ITS FALSE NEIGHBOUR: 'it returns false'. Refute it at one input. -/
def tagMakesWrong : ChangeSpec := { name := "tagMakes", fn := fun _ => fun
  | [d1, d2] => { results := [.lit (.bool false)], args := [d1, d2] }
  | _ => none }
def TagMakesWrongFalsely : Prop := tagMakesRow.holds Tryd.pinned (OpenSpec.ofChange tagMakesWrong)

/-- 'whilomlaw16.TagAgain': WHATEVER THE INPUT: true; the input reads as it did. -/
def tagAgainSpec : ChangeSpec := { name := "tagAgain", fn := fun _ => fun
  | [d1, d2] => { results := [.lit (.bool true)], args := [d1, d2] }
  | _ => none }
def tagAgainRow : OpenClaim := { program := "ytobdpddamdkabaadoor", sum := "2330a9cb4c1051b700ed8a60cee16810332c63239690d7bee4358798960a0e4f", func := "whilom/whilomlaw16.TagAgain", spec := "tagAgain", unfollowed := true, recurses := true, named := ["math/bits.deBruijn64tab"], apart := false, laid := [("math/bits.deBruijn64tab", laid_math_bits_deBruijn64tab)] }
def TagAgainSaid : Prop := tagAgainRow.holds Tryd.pinned (OpenSpec.ofChange tagAgainSpec)

/-- ITS FALSE NEIGHBOUR: 'it returns false'. Refute it at one input. -/
def tagAgainWrong : ChangeSpec := { name := "tagAgain", fn := fun _ => fun
  | [d1, d2] => { results := [.lit (.bool false)], args := [d1, d2] }
  | _ => none }
def TagAgainWrongFalsely : Prop := tagAgainRow.holds Tryd.pinned (OpenSpec.ofChange tagAgainWrong)

/-- 'whilomlaw16.TagTimes': WHATEVER THE INPUT: true; the input reads as it did. -/
def tagTimesSpec : ChangeSpec := { name := "tagTimes", fn := fun _ => fun
  | [d] => { results := [.lit (.bool true)], args := [d] }
  | _ => none }
def tagTimesRow : OpenClaim := { program := "ytobdpddamdkabaadoor", sum := "2330a9cb4c1051b700ed8a60cee16810332c63239690d7bee4358798960a0e4f", func := "whilom/whilomlaw16.TagTimes", spec := "tagTimes", unfollowed := true, recurses := true, named := ["math/bits.deBruijn64tab"], apart := false, laid := [("math/bits.deBruijn64tab", laid_math_bits_deBruijn64tab)] }
def TagTimesSaid : Prop := tagTimesRow.holds Tryd.pinned (OpenSpec.ofChange tagTimesSpec)

/-- ITS FALSE NEIGHBOUR: 'it returns false'. Refute it at one input. -/
def tagTimesWrong : ChangeSpec := { name := "tagTimes", fn := fun _ => fun
  | [d] => { results := [.lit (.bool false)], args := [d] }
  | _ => none }
def TagTimesWrongFalsely : Prop := tagTimesRow.holds Tryd.pinned (OpenSpec.ofChange tagTimesWrong)

/- THE SECOND FORM. 'bulk': how many values and letters a reading holds, each counted each time it is reached (what is shared counts as often as it is met; a slice's spare places count too). A statement '..UptoSaid' is the law's where the arguments, and the package variables that the reading takes, are together of bulk at most 1048576: NARROWER than '..Said'. Prove '..Said' where nothing that the law and all that it calls make is longer than what came in: it says more and counts as full. Else prove '..UptoSaid'. A law counts once. -/
mutual
def uptoBulk {H : Type} : DataW H → Nat
  | .lit (.string bytes) => bytes.length + 1
  | .lit _ => 1
  | .nil => 1
  | .ptr d => uptoBulk d + 1
  | .slice elems spare => uptoBulkAll elems + uptoBulkAll spare + 1
  | .agg parts => uptoBulkAll parts + 1
  | .iface _ d => uptoBulk d + 1
  | .map entries => uptoBulkEntries entries + 1
  | .held _ => 1
def uptoBulkAll {H : Type} : List (DataW H) → Nat
  | [] => 0
  | d :: r => uptoBulk d + uptoBulkAll r
def uptoBulkEntries {H : Type} : List (Lit × DataW H) → Nat
  | [] => 0
  | x :: r => uptoBulkEntry x + uptoBulkEntries r
def uptoBulkEntry {H : Type} : Lit × DataW H → Nat
  | (.string bytes, d) => bytes.length + uptoBulk d + 1
  | (_, d) => uptoBulk d + 1
 end
def uptoSmall : (H : Type) → List (DataW H) → Bool := fun _ ds => decide (uptoBulkAll ds ≤ 1048576)
def OpenSpec.upto (s : _root_.Go.ChangeSpec) : _root_.Go.OpenSpec := { _root_.Go.OpenSpec.ofChange s with cond := some uptoSmall }

/-- 'whilomlaw16.TagActs', WHERE WHAT IT READS IS OF BULK AT MOST 1048576: true; the input reads as it did. -/
def tagActsUptoRow : OpenClaim := { program := "ytobdpddamdkabaadoor", sum := "2330a9cb4c1051b700ed8a60cee16810332c63239690d7bee4358798960a0e4f", func := "whilom/whilomlaw16.TagActs", spec := "tagActs", unfollowed := true, recurses := true, named := ["math/bits.deBruijn64tab"], apart := false, laid := [("math/bits.deBruijn64tab", laid_math_bits_deBruijn64tab)], narrowed := true }
def TagActsUptoSaid : Prop := tagActsUptoRow.holds Tryd.pinned (OpenSpec.upto tagActsSpec)

/-- 'whilomlaw16.TagOnce', WHERE WHAT IT READS IS OF BULK AT MOST 1048576: true; the input reads as it did. -/
def tagOnceUptoRow : OpenClaim := { program := "ytobdpddamdkabaadoor", sum := "2330a9cb4c1051b700ed8a60cee16810332c63239690d7bee4358798960a0e4f", func := "whilom/whilomlaw16.TagOnce", spec := "tagOnce", named := ["math/bits.deBruijn64tab"], apart := false, laid := [("math/bits.deBruijn64tab", laid_math_bits_deBruijn64tab)], narrowed := true }
def TagOnceUptoSaid : Prop := tagOnceUptoRow.holds Tryd.pinned (OpenSpec.upto tagOnceSpec)

/-- 'whilomlaw16.TagMakes', WHERE WHAT IT READS IS OF BULK AT MOST 1048576: true; the input reads as it did. -/
def tagMakesUptoRow : OpenClaim := { program := "ytobdpddamdkabaadoor", sum := "2330a9cb4c1051b700ed8a60cee16810332c63239690d7bee4358798960a0e4f", func := "whilom/whilomlaw16.TagMakes", spec := "tagMakes", unfollowed := true, recurses := true, named := ["math/bits.deBruijn64tab"], apart := false, laid := [("math/bits.deBruijn64tab", laid_math_bits_deBruijn64tab)], narrowed := true }
def TagMakesUptoSaid : Prop := tagMakesUptoRow.holds Tryd.pinned (OpenSpec.upto tagMakesSpec)

/-- 'whilomlaw16.TagAgain', WHERE WHAT IT READS IS OF BULK AT MOST 1048576: true; the input reads as it did. -/
def tagAgainUptoRow : OpenClaim := { program := "ytobdpddamdkabaadoor", sum := "2330a9cb4c1051b700ed8a60cee16810332c63239690d7bee4358798960a0e4f", func := "whilom/whilomlaw16.TagAgain", spec := "tagAgain", unfollowed := true, recurses := true, named := ["math/bits.deBruijn64tab"], apart := false, laid := [("math/bits.deBruijn64tab", laid_math_bits_deBruijn64tab)], narrowed := true }
def TagAgainUptoSaid : Prop := tagAgainUptoRow.holds Tryd.pinned (OpenSpec.upto tagAgainSpec)

/-- 'whilomlaw16.TagTimes', WHERE WHAT IT READS IS OF BULK AT MOST 1048576: true; the input reads as it did. -/
def tagTimesUptoRow : OpenClaim := { program := "ytobdpddamdkabaadoor", sum := "2330a9cb4c1051b700ed8a60cee16810332c63239690d7bee4358798960a0e4f", func := "whilom/whilomlaw16.TagTimes", spec := "tagTimes", unfollowed := true, recurses := true, named := ["math/bits.deBruijn64tab"], apart := false, laid := [("math/bits.deBruijn64tab", laid_math_bits_deBruijn64tab)], narrowed := true }
def TagTimesUptoSaid : Prop := tagTimesUptoRow.holds Tryd.pinned (OpenSpec.upto tagTimesSpec)

end Rows
end Go.Proofs.YtobdpddamdkabaaDoor
