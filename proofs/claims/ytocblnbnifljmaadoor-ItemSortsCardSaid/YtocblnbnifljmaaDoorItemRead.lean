/- whilomref02.Text and Read: what they answer. -/
import Derived.Test.YtocblnbnifljmaaDoorItemVal
import Derived.Laws.ResultCell
import Derived.Lib.CutLaws
namespace Go.Proofs.YtocblnbnifljmaaDoor.Item
open Go.Sort Go.RowKit Go.Lib
set_option linter.unusedVariables false

def inItem (x : Int × Int) : Prop := inI x.1 ∧ inI x.2


/-- A is n's numeral -/
def NumIs (n : Int) (A : ByteArray) : Prop := A = ⟨(itoa n).toArray⟩ ∧ inI n
theorem number_c (n : Int) (A : ByteArray) (W : World) (h : NumIs n A) :
    Calls Tryd.prog 28 #[.int .i64 n] W fun e w' => e = .returned (.string A) ∧ Grows W w' := by
  obtain ⟨rfl, h0, h1⟩ := h
  exact number_any n W h0 h1
/-- the three strings of a text and their sums -/
theorem text_sums (x : Int × Int) (hx : inItem x) : ∃ A B S T : ByteArray, NumIs x.1 A ∧ NumIs x.2 B ∧ Hid (T = ⟨(textL x).toArray⟩) ∧
    (∀ W : World, (Op.stringOp .add A ⟨#[35]⟩).run Tryd.prog W = .ok (.string S) W) ∧ (∀ W : World, (Op.stringOp .add S B).run Tryd.prog W = .ok (.string T) W) := by
  obtain ⟨⟨ha0, ha1⟩, ⟨hb0, hb1⟩⟩ := hx
  have la := itoa_len x.1 ha0 ha1
  have lb := itoa_len x.2 hb0 hb1
  refine ⟨_, _, ⟨(itoa x.1 ++ [35]).toArray⟩, ⟨(textL x).toArray⟩, ⟨rfl, ha0, ha1⟩, ⟨rfl, hb0, hb1⟩, rfl, fun W => ?_, fun W => ?_⟩
  · have h := run_string_add_lists (P := Tryd.prog) W (itoa x.1) [35] (by omega) (by decide)
    exact h
  · have h := run_string_add_lists (P := Tryd.prog) W (itoa x.1 ++ [35]) (itoa x.2) (by simp; omega) (by omega)
    rw [List.append_assoc] at h
    exact h

set_option maxRecDepth 100000 in
set_option maxHeartbeats 2000000 in
theorem rtext_any (x : Int × Int) (w : World) (hx : inItem x) :
    Calls Tryd.prog 18 #[itemV x] w fun e w' => e = .returned (strV (textL x)) ∧ Grows w w' := by
  obtain ⟨A, B, S, T, hA, hB, HT, hadd1, hadd2⟩ := text_sums x hx
  obtain ⟨a, b⟩ := x
  unfold itemV
  simp only at hA hB ⊢
  clear hx
  go_enter Tryd.func18, Tryd.ntmps18
  go_wp2_with fail
  have hc0 : ∀ n os, (grow ((w.alloc (Obj.cells #[Value.int IntKind.i64 a, Value.int IntKind.i64 b] 23)).drewN n) os).cell? ⟨w.heap.size, 0, none⟩ = some (Value.int IntKind.i64 a) :=
    fun n os => cell_grown (by simp) (by have h := cell_of_row (w.alloc (Obj.cells #[Value.int IntKind.i64 a, Value.int IntKind.i64 b] 23)) w.heap.size 0 _ _ (0, 0) (heap_alloc_new _ _); exact h) n os
  have hc1 : ∀ n os, (grow ((w.alloc (Obj.cells #[Value.int IntKind.i64 a, Value.int IntKind.i64 b] 23)).drewN n) os).cell? ⟨w.heap.size, 1, none⟩ = some (Value.int IntKind.i64 b) :=
    fun n os => cell_grown (by simp) (by have h := cell_of_row (w.alloc (Obj.cells #[Value.int IntKind.i64 a, Value.int IntKind.i64 b] 23)) w.heap.size 1 _ _ (0, 0) (heap_alloc_new _ _); exact h) n os
  refine wp_region_quiet_grown (by kernel_rfl) (by kernel_rfl) ?_
  repeat (quiet_step ((go_at_call 28; exact Grows.calls (number_c _ _ _ (by first | exact hA | exact hB)))))
  refine wpQuiet_nil ?_
  intro _ hw'
  obtain ⟨⟨nq, osq⟩, hw''⟩ := hw'
  subst hw''
  go_wp2_with fail
  go_ret
  exact ⟨by rw [HT.out]; rfl, ((Grows.refl w).alloc _).grow nq osq⟩
end Go.Proofs.YtocblnbnifljmaaDoor.Item
