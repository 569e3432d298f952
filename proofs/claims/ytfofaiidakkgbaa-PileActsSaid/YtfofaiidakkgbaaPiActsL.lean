/- pile: the law PileActs, called. -/
import Derived.Test.YtfofaiidakkgbaaPiActs
import Derived.Test.YtfofaiidakkgbaaRxC
namespace Go.Proofs.Ytfofaiidakkgbaa.Pi
open Go.RowKit Go.Proofs.Ytfofaiidakkgbaa.Rx
set_option linter.unusedVariables false
set_option linter.unusedSimpArgs false
set_option maxRecDepth 100000
theorem acts_law {c : Int} {p : Rx.Place} {r : Row} {W : World} (hr : r.tm = [.int .i64 0, .int .i64 0]) (hw : wfCols [.int .i64 0, .int .i64 0] r.cols r.n) (hv : ViewOk W p r) :
    Calls Try.prog 3 #[.int .i64 c, ren (viewsE [(p, r)]) (.slice (some ⟨0, 0, some 2000⟩) r.n 0)] W fun e W' => e = .returned (.bool true) ∧ Below W.heap.size W W' := by
  obtain ⟨tm, n, cols⟩ := r
  simp only at hr
  subst hr
  match cols, hw with
  | [c1, c2], hw =>
    obtain ⟨⟨h1, l1, _⟩, ⟨h2, l2, _⟩, _⟩ := hw
    have e : (⟨[.int .i64 0, .int .i64 0], n, [c1, c2]⟩ : Row) = actsRow ⟨c1.i, c2.i⟩ := by
      simp only at l1
      rw [actsRow, l1, ← h1, ← h2]
    rw [e] at hv ⊢
    have := law_calls (D := D) (fn := Try.f3) (root := codeOf Try.f3) (args := [.int .i64 c, .slice (some ⟨0, 0, some 2000⟩) c1.i.length 0]) [(p, actsRow ⟨c1.i, c2.i⟩)] Try.func3 (by kernel_rfl) (by simpa using hv) rfl
      (acts_run (a := ⟨c1.i, c2.i⟩) ⟨by simp only at *; omega⟩ fun _ => rfl)
    simpa [actsRow] using this
end Go.Proofs.Ytfofaiidakkgbaa.Pi
