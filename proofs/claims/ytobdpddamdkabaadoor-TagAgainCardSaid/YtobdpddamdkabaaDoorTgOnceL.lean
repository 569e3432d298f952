/- tag: the law TagOnce, called. -/
import Derived.Test.YtobdpddamdkabaaDoorTgOnce
import Derived.Test.YtobdpddamdkabaaDoorRxC
namespace Go.Proofs.YtobdpddamdkabaaDoor.Tg
open Go.RowKit Go.Proofs.YtobdpddamdkabaaDoor.Rx
set_option linter.unusedVariables false
set_option linter.unusedSimpArgs false
set_option maxRecDepth 100000
theorem fits_get {l : List Int} (h : ∀ x ∈ l, (Lit.int .i64 x).wf = true) (i : Nat) : fits (l.getD i 0) := by
  rcases Nat.lt_or_ge i l.length with hi | hi
  · have := bounds_i64 (h _ (getD_mem (d := 0) hi))
    exact ⟨by omega, by omega⟩
  · rw [List.getD_eq_getElem?_getD, List.getElem?_eq_none hi]; exact ⟨by decide, by decide⟩
/-- a row of acts, by its columns -/
theorem acts_of {r : Row} (hr : r.tm = actTm) (hw : wfCols actTm r.cols r.n) : ∃ a : Acts, a.Ok ∧ r = actsRow a := by
  obtain ⟨tm, n, cols⟩ := r
  simp only at hr
  subst hr
  match cols, hw with
  | [c1, c2, c3, c4, c5, c6, c7, c8, c9], hw =>
    obtain ⟨⟨h1, l1, g1⟩, ⟨h2, l2, g2⟩, ⟨h3, l3⟩, ⟨h4, l4, g4⟩, ⟨h5, l5, g5⟩, ⟨h6, l6, g6⟩, ⟨h7, l7⟩, ⟨h8, l8, g8⟩, ⟨h9, l9, g9⟩, _⟩ := hw
    refine ⟨⟨c1.i, c2.i, c3.b, c4.i, c5.i, c6.i, c7.b, c8.i, c9.i⟩, ⟨by simp only at *; omega, by simp only at *; omega, by simp only at *; omega, by simp only at *; omega, by simp only at *; omega, by simp only at *; omega, by simp only at *; omega, by simp only at *; omega, fun i => ?_, fun i => ?_, fun i => ?_⟩, ?_⟩
    · exact fits_get g4 i
    · exact fits_get g6 i
    · exact fits_get g9 i
    · simp only at l1
      rw [actsRow, l1, ← h1, ← h2, ← h3, ← h4, ← h5, ← h6, ← h7, ← h8, ← h9]
theorem once_law {p : Rx.Place} {r : Row} {W : World} (hg : Glob W fun _ => False) (hr : r.tm = actTm) (hw : wfCols actTm r.cols r.n) (hv : ViewOk W p r) :
    Calls Tryd.prog 4 #[ren (viewsE [(p, r)]) (.slice (some ⟨0, 0, some 9000⟩) r.n 0)] W fun e W' => e = .returned (.bool true) ∧ Below W.heap.size W W' := by
  obtain ⟨a, ha, rfl⟩ := acts_of hr hw
  exact law_calls (D := D) (fn := Tryd.f4) (root := codeOf Tryd.f4) (args := [.slice (some ⟨0, 0, some 9000⟩) a.k.length 0]) [(p, actsRow a)] Tryd.func4 (by kernel_rfl) (by simpa using hv) hg rfl
      (once_run (a := a) ha fun _ => rfl)
end Go.Proofs.YtobdpddamdkabaaDoor.Tg
