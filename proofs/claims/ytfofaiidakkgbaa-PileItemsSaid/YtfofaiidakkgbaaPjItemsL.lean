/- pile: the law PileItems, called. -/
import Derived.Test.YtfofaiidakkgbaaPjItems
import Derived.Test.YtfofaiidakkgbaaRxC
namespace Go.Proofs.Ytfofaiidakkgbaa.Pi
open Go.RowKit Go.Proofs.Ytfofaiidakkgbaa.Rx
set_option linter.unusedVariables false
set_option linter.unusedSimpArgs false
set_option maxRecDepth 100000
theorem items_law {c : Int} {p : Rx.Place} {r : Row} {W : World} (hc : (Lit.int IntKind.u8 c).wf = true) (hr : r.tm = [.int .i64 0, .int .i64 0]) (hw : wfCols [.int .i64 0, .int .i64 0] r.cols r.n) (hv : ViewOk W p r) :
    Calls Try.prog 4 #[.int .u8 c, ren (viewsE [(p, r)]) (.slice (some ⟨0, 0, some 2000⟩) r.n 0)] W fun e W' => e = .returned (.bool true) ∧ Below W.heap.size W W' := by
  obtain ⟨tm, n, cols⟩ := r
  simp only at hr
  subst hr
  have hb : 0 ≤ c ∧ c < 256 := by
    simp [Lit.wf] at hc
    have e1 : IntKind.u8.min = 0 := rfl
    have e2 : IntKind.u8.max = 255 := rfl
    omega
  match cols, hw with
  | [c1, c2], hw =>
    obtain ⟨⟨h1, l1, _⟩, ⟨h2, l2, _⟩, _⟩ := hw
    have e : (⟨[.int .i64 0, .int .i64 0], n, [c1, c2]⟩ : Row) = itemsRow c1.i c2.i := by
      simp only at l1
      rw [itemsRow, l1, ← h1, ← h2]
    rw [e] at hv ⊢
    have := law_calls (D := D) (fn := Try.f4) (root := codeOf Try.f4) (args := [.int .u8 c, .slice (some ⟨0, 0, some 2000⟩) c1.i.length 0]) [(p, itemsRow c1.i c2.i)] Try.func4 (by kernel_rfl) (by simpa using hv) rfl
      (items_run (a := c1.i) (b := c2.i) hb (by simp only at *; omega) fun _ => rfl)
    simpa [itemsRow] using this
end Go.Proofs.Ytfofaiidakkgbaa.Pi
