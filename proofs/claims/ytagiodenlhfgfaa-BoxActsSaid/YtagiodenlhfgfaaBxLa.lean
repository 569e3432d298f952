/- box: the laws, called. -/
import Derived.Test.YtagiodenlhfgfaaBxActs
import Derived.Test.YtagiodenlhfgfaaRxC
namespace Go.Proofs.Ytagiodenlhfgfaa.Bx
open Go.RowKit Go.Proofs.Ytagiodenlhfgfaa.Rx
set_option linter.unusedVariables false
set_option linter.unusedSimpArgs false
set_option maxRecDepth 100000
theorem acts_law {p : Rx.Place} {r : Row} {W : World} {l : List Int} (hl : l.length = 3) (hb : ∀ x ∈ l, (Lit.int .i64 x).wf = true) (hr : r.tm = [.int .i64 0, .int .i64 0, .int .i64 0]) (hw : wfCols [.int .i64 0, .int .i64 0, .int .i64 0] r.cols r.n) (hv : ViewOk W p r) :
    Calls Try.prog 3 #[.agg ⟨l.map (.int .i64)⟩, ren (viewsE [(p, r)]) (.slice (some ⟨0, 0, some 3000⟩) r.n 0)] W fun e W' => e = .returned (.bool true) ∧ Below W.heap.size W W' := by
  obtain ⟨tm, n, cols⟩ := r
  simp only at hr
  subst hr
  match l, hl, cols, hw with
  | [x, y, z], _, [c1, c2, c3], hw =>
    obtain ⟨⟨h1, l1, _⟩, ⟨h2, l2, _⟩, ⟨h3, l3, _⟩, _⟩ := hw
    have e : (⟨[.int .i64 0, .int .i64 0, .int .i64 0], n, [c1, c2, c3]⟩ : Row) = actsRow ⟨c1.i, c2.i, c3.i⟩ := by
      simp only at l1
      rw [actsRow, l1, ← h1, ← h2, ← h3]
    rw [e] at hv ⊢
    have := law_calls (D := D) (W := W) (fn := Try.f3) (root := codeOf Try.f3) (args := [.agg ⟨[.int .i64 x, .int .i64 y, .int .i64 z]⟩, .slice (some ⟨0, 0, some 3000⟩) c1.i.length 0]) [(p, actsRow ⟨c1.i, c2.i, c3.i⟩)] Try.func3 (by kernel_rfl) (by simpa using hv) rfl
      (acts_run (a := ⟨c1.i, c2.i, c3.i⟩) ⟨by simp only at *; omega, by simp only at *; omega⟩ fun _ => rfl)
    simpa [actsRow, ren, renL] using this
end Go.Proofs.Ytagiodenlhfgfaa.Bx
