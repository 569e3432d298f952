/- pile: the law PileTwo, called. -/
import Derived.Test.YtfofaiidakkgbaaPiTwo
import Derived.Test.YtfofaiidakkgbaaRxC
namespace Go.Proofs.Ytfofaiidakkgbaa.Pi
open Go.RowKit Go.Proofs.Ytfofaiidakkgbaa.Rx
set_option linter.unusedVariables false
set_option linter.unusedSimpArgs false
set_option maxRecDepth 100000
theorem two_law {p : Rx.Place} {r : Row} {W : World} (hr : r.tm = [.int .i64 0]) (hw : wfCols [.int .i64 0] r.cols r.n) (hv : ViewOk W p r) :
    Calls Try.prog 6 #[ren (viewsE [(p, r)]) (.slice (some ⟨0, 0, some 1000⟩) r.n 0)] W fun e W' => e = .returned (.bool true) ∧ Below W.heap.size W W' := by
  obtain ⟨tm, n, cols⟩ := r
  simp only at hr
  subst hr
  match cols, hw with
  | [c1], hw =>
    obtain ⟨⟨h1, l1, w1⟩, _⟩ := hw
    have e : (⟨[.int .i64 0], n, [c1]⟩ : Row) = intsRow c1.i := by
      simp only at l1
      rw [intsRow, l1, ← h1]
    rw [e] at hv ⊢
    have := law_calls (D := D) (fn := Try.f6) (root := codeOf Try.f6) (args := [.slice (some ⟨0, 0, some 1000⟩) c1.i.length 0]) [(p, intsRow c1.i)] Try.func6 (by kernel_rfl) (by simpa using hv) rfl
      (two_run (a := c1.i) fun _ => rfl)
    simpa [intsRow] using this
end Go.Proofs.Ytfofaiidakkgbaa.Pi
