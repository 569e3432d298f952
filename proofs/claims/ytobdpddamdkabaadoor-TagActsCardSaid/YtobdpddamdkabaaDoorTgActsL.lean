/- tag: the law TagActs, called. -/
import Derived.Test.YtobdpddamdkabaaDoorTgActs
import Derived.Test.YtobdpddamdkabaaDoorTgOnceL
import Derived.Test.YtobdpddamdkabaaDoorRxC
namespace Go.Proofs.YtobdpddamdkabaaDoor.Tg
open Go.RowKit Go.Proofs.YtobdpddamdkabaaDoor.Rx
set_option linter.unusedVariables false
set_option linter.unusedSimpArgs false
set_option maxRecDepth 100000
theorem acts_law {c : Int} {p : Rx.Place} {r : Row} {W : World} (hg : Glob W fun _ => False) (hr : r.tm = actTm) (hw : wfCols actTm r.cols r.n) (hv : ViewOk W p r) :
    Calls Tryd.prog 3 #[.int .i64 c, ren (viewsE [(p, r)]) (.slice (some ⟨0, 0, some 9000⟩) r.n 0)] W fun e W' => e = .returned (.bool true) ∧ Below W.heap.size W W' := by
  obtain ⟨a, ha, rfl⟩ := acts_of hr hw
  exact law_calls (D := D) (fn := Tryd.f3) (root := codeOf Tryd.f3) (args := [.int .i64 c, .slice (some ⟨0, 0, some 9000⟩) a.k.length 0]) [(p, actsRow a)] Tryd.func3 (by kernel_rfl) (by simpa using hv) hg rfl
      (acts_run (c := c) (a := a) ha fun _ => rfl)
end Go.Proofs.YtobdpddamdkabaaDoor.Tg
