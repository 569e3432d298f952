/- arena: the laws ArenaStale and ArenaCaps, called. -/
import Derived.Test.YtloibbakklenbaaArStale
import Derived.Test.YtloibbakklenbaaRxArg
namespace Go.Proofs.Ytloibbakklenbaa.Ar
open Go.RowKit Go.Proofs.Ytloibbakklenbaa.Rx
set_option linter.unusedVariables false
set_option linter.unusedSimpArgs false
set_option maxRecDepth 100000
theorem stale_law {p : Rx.Place} {r : Row} {W : World} (hr : r.tm = [.int .u8 0]) (hw : wfCols [.int .u8 0] r.cols r.n) (hv : ViewOk W p r) :
    Calls Try.prog 4 #[ren (viewsE [(p, r)]) (.slice (some ⟨0, 0, some 1000⟩) r.n 0)] W fun e W' => e = .returned (.bool true) ∧ Below W.heap.size W W' := by
  obtain ⟨tm, n, cols⟩ := r
  simp only at hr
  subst hr
  match cols, hw with
  | [c1], hw =>
    obtain ⟨⟨h1, l1, w1⟩, _⟩ := hw
    have e : (⟨[.int .u8 0], n, [c1]⟩ : Row) = bytesRow c1.i := by
      simp only at l1
      rw [bytesRow, l1, ← h1]
    rw [e] at hv ⊢
    have hb : ∀ b ∈ c1.i, 0 ≤ b ∧ b < 256 := fun b hb => by
      have := w1 b hb
      simp [Lit.wf] at this
      have e1 : IntKind.u8.min = 0 := rfl
      have e2 : IntKind.u8.max = 255 := rfl
      omega
    have := law_calls (D := D) (fn := Try.f4) (root := codeOf Try.f4) (args := [.slice (some ⟨0, 0, some 1000⟩) c1.i.length 0]) [(p, bytesRow c1.i)] Try.func4 (by kernel_rfl) (by simpa using hv) rfl
      (stale_run hb fun _ => rfl)
    simpa [bytesRow] using this
end Go.Proofs.Ytloibbakklenbaa.Ar
