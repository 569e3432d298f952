/- box: the laws, called. -/
import Derived.Test.YtagiodenlhfgfaaBxOrder
import Derived.Test.YtagiodenlhfgfaaRxC
namespace Go.Proofs.Ytagiodenlhfgfaa.Bx
open Go.RowKit Go.Proofs.Ytagiodenlhfgfaa.Rx
set_option linter.unusedVariables false
set_option linter.unusedSimpArgs false
set_option maxRecDepth 100000
theorem order_law {p : Rx.Place} {r : Row} {W : World} {l : List Int} (hr : r.tm = [.int .i64 0]) (hw : wfCols [.int .i64 0] r.cols r.n) (hv : ViewOk W p r) (hl : l.length = 2) (hb : ∀ x ∈ l, (Lit.int .u8 x).wf = true) :
    Calls Try.prog 4 #[ren (viewsE [(p, r)]) (.slice (some ⟨0, 0, some 1000⟩) r.n 0), .agg ⟨l.map (.int .u8)⟩] W fun e W' => e = .returned (.bool true) ∧ Below W.heap.size W W' := by
  obtain ⟨tm, n, cols⟩ := r
  simp only at hr
  subst hr
  match l, hl, cols, hw with
  | [x, y], _, [c1], hw =>
    obtain ⟨⟨h1, l1, w1⟩, _⟩ := hw
    have e : (⟨[.int .i64 0], n, [c1]⟩ : Row) = ⟨[.int .i64 0], c1.i.length, [colI c1.i]⟩ := by
      simp only at l1
      rw [l1, ← h1]
    rw [e] at hv ⊢
    have b : ∀ z : Int, (Lit.int .u8 z).wf = true → 0 ≤ z ∧ z < 256 := fun z h => by
      simp [Lit.wf] at h
      have e1 : IntKind.u8.min = 0 := rfl
      have e2 : IntKind.u8.max = 255 := rfl
      omega
    have := law_calls (D := D) (W := W) (fn := Try.f4) (root := codeOf Try.f4) (args := [.slice (some ⟨0, 0, some 1000⟩) c1.i.length 0, .agg ⟨[.int .u8 x, .int .u8 y]⟩]) [(p, ⟨[.int .i64 0], c1.i.length, [colI c1.i]⟩)] Try.func4 (by kernel_rfl) (by simpa using hv) rfl
      (order_run (b x (hb x (by simp))) (b y (hb y (by simp))) fun _ => rfl)
    simpa [ren, renL] using this
end Go.Proofs.Ytagiodenlhfgfaa.Bx
