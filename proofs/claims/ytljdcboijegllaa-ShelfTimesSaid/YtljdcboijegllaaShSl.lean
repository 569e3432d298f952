/- shelf: slots, and what they come to. -/
import Derived.Test.YtljdcboijegllaaWvMk
import Derived.Test.YtljdcboijegllaaGvAvl
namespace Go.Proofs.Ytljdcboijegllaa.Sh
open Go.Proofs.Ytljdcboijegllaa.Rx Go.Proofs.Ytljdcboijegllaa.Wv
set_option linter.unusedVariables false
set_option linter.unusedSimpArgs false
/-- a slot -/
structure Sl where
  it : It
  eaten : Bool
  time : Int
/-- how many -/
structure Sz where
  n : Int
def slz : Sl := ⟨⟨0, 0⟩, false, 0⟩
def O9 : Gv.Ops Sl Sz := ⟨slz, ⟨0⟩, fun a b => icmp a.it b.it, fun _ => ⟨1⟩, fun a b => ⟨Gv.W (a.n + b.n)⟩⟩
def S9 (l : List Sl) : Sz := ⟨l.length⟩
def good9 (l : List Sl) : Prop := l.length ≤ 1000
theorem icmp_zero (a b : It) : icmp a b = 0 ↔ a = b := by
  constructor
  · intro h
    refine It.ext_ ?_ ?_ <;> (unfold icmp at h; repeat' split at h) <;> omega
  · rintro rfl; unfold icmp; repeat' split
    all_goals omega
theorem icmp_lt (a b : It) : icmp a b < 0 ↔ ah a b := by unfold icmp ah; repeat' split; all_goals omega
theorem ah_trans {a b c : It} (h : ah a b) (h' : ah b c) : ah a c := by unfold ah at *; omega
theorem laws9 : Gv.Laws O9 S9 good9 where
  nil := rfl
  one e := rfl
  plus x y h _ _ := by
    unfold good9 at h
    unfold S9
    rw [List.length_append] at *
    show (⟨Gv.W ((x.length : Int) + (y.length : Int))⟩ : Sz) = ⟨((x.length + y.length : Nat) : Int)⟩
    rw [Gv.W_of (by omega)]; push_cast; rfl
  left x y h := by unfold good9 at *; rw [List.length_append] at h; omega
  right x y h := by unfold good9 at *; rw [List.length_append] at h; omega
  len x h := Nat.le_trans h (by decide)
  swap a b := by show icmp a.it b.it < 0 ↔ icmp b.it a.it > 0; rw [icmp_lt, icmp_pos]
  trans a b c h h' := by
    have h : icmp a.it b.it < 0 := h
    have h' : icmp b.it c.it < 0 := h'
    rw [icmp_lt] at h h'
    show icmp a.it c.it < 0
    rw [icmp_lt]
    exact ah_trans h h'
  eqv a b c h h' := by
    have h : icmp a.it b.it = 0 := h
    rw [icmp_zero] at h
    have h' : icmp b.it c.it < 0 := h'
    show icmp a.it c.it < 0
    rw [h]; exact h'
  eqv' a b c h h' := by
    have h : icmp a.it b.it = 0 := h
    rw [icmp_zero] at h
    have h' : icmp c.it b.it < 0 := h'
    show icmp c.it a.it < 0
    rw [h]; exact h'
end Go.Proofs.Ytljdcboijegllaa.Sh
