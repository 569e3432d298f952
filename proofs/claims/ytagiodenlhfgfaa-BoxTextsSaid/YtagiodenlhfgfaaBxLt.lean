/- box: the laws, called. -/
import Derived.Test.YtagiodenlhfgfaaBxTexts
import Derived.Test.YtagiodenlhfgfaaRxC
namespace Go.Proofs.Ytagiodenlhfgfaa.Bx
open Go.RowKit Go.Proofs.Ytagiodenlhfgfaa.Rx
set_option linter.unusedVariables false
set_option linter.unusedSimpArgs false
set_option maxRecDepth 100000
theorem texts_law {p : Rx.Place} {r : Row} {W : World} (hr : r.tm = [.string ⟨#[]⟩]) (hw : wfCols [.string ⟨#[]⟩] r.cols r.n) (hv : ViewOk W p r) :
    Calls Try.prog 5 #[ren (viewsE [(p, r)]) (.slice (some ⟨0, 0, some 1000⟩) r.n 0)] W fun e W' => e = .returned (.bool true) ∧ Below W.heap.size W W' := by
  obtain ⟨tm, n, cols⟩ := r
  simp only at hr
  subst hr
  match cols, hw with
  | [c1], hw =>
    obtain ⟨⟨h1, l1, w1⟩, _⟩ := hw
    have e : (⟨[.string ⟨#[]⟩], n, [c1]⟩ : Row) = textRow c1.s := by
      simp only at l1
      rw [textRow, l1, ← h1]
    rw [e] at hv ⊢
    have := law_calls (D := D) (W := W) (fn := Try.f5) (root := codeOf Try.f5) (args := [.slice (some ⟨0, 0, some 1000⟩) c1.s.length 0]) [(p, textRow c1.s)] Try.func5 (by kernel_rfl) (by simpa using hv) rfl
      (texts_run fun _ => rfl)
    simpa [textRow] using this
end Go.Proofs.Ytagiodenlhfgfaa.Bx
