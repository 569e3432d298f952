/- arena: the law ArenaItems, called. -/
import Derived.Test.YtloibbakklenbaaArItems
import Derived.Test.YtloibbakklenbaaRxArg
namespace Go.Proofs.Ytloibbakklenbaa.Ar
open Go.RowKit Go.Proofs.Ytloibbakklenbaa.Rx
set_option linter.unusedVariables false
set_option linter.unusedSimpArgs false
set_option maxRecDepth 100000
theorem items_law {c : Int} {p : Rx.Place} {r : Row} {W : World} (hr : r.tm = [.int .i64 0, .int .i64 0]) (hw : wfCols [.int .i64 0, .int .i64 0] r.cols r.n) (hv : ViewOk W p r) :
    Calls Try.prog 5 #[ren (viewsE [(p, r)]) (.slice (some ⟨0, 0, some 2000⟩) r.n 0), .int .i64 c] W fun e W' => e = .returned (.bool true) ∧ Below W.heap.size W W' := by
  obtain ⟨tm, n, cols⟩ := r
  simp only at hr
  subst hr
  match cols, hw with
  | [c1, c2], hw =>
    obtain ⟨⟨h1, l1, _⟩, ⟨h2, l2, _⟩, _⟩ := hw
    have e : (⟨[.int .i64 0, .int .i64 0], n, [c1, c2]⟩ : Row) = itemsRow c1.i c2.i := by
      simp only at l1
      rw [itemsRow, l1, ← h1, ← h2]
    rw [e] at hv ⊢
    have := law_calls (D := D) (fn := Try.f5) (root := codeOf Try.f5) (args := [.slice (some ⟨0, 0, some 2000⟩) c1.i.length 0, .int .i64 c]) [(p, itemsRow c1.i c2.i)] Try.func5 (by kernel_rfl) (by simpa using hv) rfl
      (items_run (by simp only at *; omega) fun _ => rfl)
    simpa [itemsRow] using this
end Go.Proofs.Ytloibbakklenbaa.Ar
