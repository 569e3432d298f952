/- pile: the law PileLists, called. -/
import Derived.Test.YtfofaiidakkgbaaPiLists
import Derived.Test.YtfofaiidakkgbaaRxC
namespace Go.Proofs.Ytfofaiidakkgbaa.Pi
open Go.RowKit Go.Proofs.Ytfofaiidakkgbaa.Rx
set_option linter.unusedVariables false
set_option linter.unusedSimpArgs false
set_option maxRecDepth 100000
theorem lists_law {p p' : Rx.Place} {r r' : Row} {W : World} (hr : r.tm = [.int .i64 0]) (hw : wfCols [.int .i64 0] r.cols r.n) (hv : ViewOk W p r) (hr' : r'.tm = [.int .i64 0]) (hw' : wfCols [.int .i64 0] r'.cols r'.n) (hv' : ViewOk W p' r') :
    Calls Try.prog 5 #[ren (viewsE [(p, r), (p', r')]) (.slice (some ⟨0, 0, some 1000⟩) r.n 0), ren (viewsE [(p, r), (p', r')]) (.slice (some ⟨1, 0, some 1000⟩) r'.n 0)] W fun e W' => e = .returned (.bool true) ∧ Below W.heap.size W W' := by
  obtain ⟨tm, n, cols⟩ := r
  obtain ⟨tm', n', cols'⟩ := r'
  simp only at hr hr'
  subst hr hr'
  match cols, hw, cols', hw' with
  | [c1], hw, [c2], hw' =>
    obtain ⟨⟨h1, l1, w1⟩, _⟩ := hw
    obtain ⟨⟨h2, l2, w2⟩, _⟩ := hw'
    have e : (⟨[.int .i64 0], n, [c1]⟩ : Row) = intsRow1 c1.i := by
      simp only at l1
      rw [intsRow1, l1, ← h1]
    have e' : (⟨[.int .i64 0], n', [c2]⟩ : Row) = intsRow1 c2.i := by
      simp only at l2
      rw [intsRow1, l2, ← h2]
    rw [e] at hv ⊢
    rw [e'] at hv' ⊢
    have := law_calls (D := D) (W := W) (fn := Try.f5) (root := codeOf Try.f5) (args := [.slice (some ⟨0, 0, some 1000⟩) c1.i.length 0, .slice (some ⟨1, 0, some 1000⟩) c2.i.length 0]) [(p, intsRow1 c1.i), (p', intsRow1 c2.i)] Try.func5 (by kernel_rfl) (fun x hx => by
        simp only [List.mem_cons, List.not_mem_nil, or_false] at hx
        rcases hx with rfl | rfl
        · exact hv
        · exact hv') rfl
      (lists_run (a := c1.i) (b := c2.i) w1 fun _ => rfl)
    simpa [intsRow1] using this
end Go.Proofs.Ytfofaiidakkgbaa.Pi
