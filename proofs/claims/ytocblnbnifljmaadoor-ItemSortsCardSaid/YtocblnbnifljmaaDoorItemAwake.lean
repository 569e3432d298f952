/- whilomlaw02.awake: the document's example holds. -/
import Derived.Test.YtocblnbnifljmaaDoorItemRefRead
import Derived.Laws.StructEq
namespace Go.Proofs.YtocblnbnifljmaaDoor.Item
open Go.Sort Go.RowKit Go.Lib
set_option linter.unusedVariables false

def eqI (x y u v : Int) : Bool := x == u && y == v
theorem eqI_iff (a b : Int × Int) : eqI a.1 a.2 b.1 b.2 = decide (a = b) := by
  unfold eqI
  by_cases h : a = b
  · subst h; simp
  · have : ¬ (a.1 = b.1 ∧ a.2 = b.2) := fun ⟨h1, h2⟩ => h (Prod.ext h1 h2)
    by_cases h1 : a.1 = b.1
    · have h2 : ¬ a.2 = b.2 := fun h2 => this ⟨h1, h2⟩
      simp [h, h1, h2]
    · simp [h, h1]
theorem item_eql (x y u v : Int) (w : World) : (binOp .eql 23 (.agg #[.int .i64 x, .int .i64 y]) (.agg #[.int .i64 u, .int .i64 v])).run Tryd.prog w = .ok (.bool (eqI x y u v)) w := by
  have u3 := Tryd.underlying3
  have a3 := Tryd.isAgg3
  have z3 := Tryd.sizeOf3
  have hS : Tryd.prog.underlying 23 = some (.struct (Tryd.prog.fieldsOf 23)) := by kernel_rfl
  have hp : Tryd.prog.stoodInHeld 23 = false := by kernel_rfl
  rw [run_eql_struct, show (10000 : Nat) = 9999 + 1 from rfl, run_equalIn_agg w 9999 23 _ _ hS hp]
  simp only [Program.fieldsOf, Tryd.underlying23]
  unfold eqI
  go_simp
  by_cases h1 : x = u <;> by_cases h2 : y = v <;> simp [h1, h2]
theorem item_neq (x y u v : Int) (w : World) : (binOp .neq 23 (.agg #[.int .i64 x, .int .i64 y]) (.agg #[.int .i64 u, .int .i64 v])).run Tryd.prog w = .ok (.bool (!eqI x y u v)) w := by
  have u3 := Tryd.underlying3
  have a3 := Tryd.isAgg3
  have z3 := Tryd.sizeOf3
  have hS : Tryd.prog.underlying 23 = some (.struct (Tryd.prog.fieldsOf 23)) := by kernel_rfl
  have hp : Tryd.prog.stoodInHeld 23 = false := by kernel_rfl
  rw [run_neq_struct, show (10000 : Nat) = 9999 + 1 from rfl, run_equalIn_agg w 9999 23 _ _ hS hp]
  simp only [Program.fieldsOf, Tryd.underlying23]
  unfold eqI
  go_simp
  by_cases h1 : x = u <;> by_cases h2 : y = v <;> simp [h1, h2]

theorem text_five : textL (-5, 2) = [45, 53, 35, 50] := by
  have e5 : itoa (-5) = [45, 53] := by
    rw [show (-5 : Int) = -((5 : Nat) : Int) from rfl, itoa_neg 5 (by omega), decDigits_one (by omega)]; rfl
  have e2 : itoa 2 = [50] := by
    rw [show (2 : Int) = ((2 : Nat) : Int) from rfl, itoa_nonneg, decDigits_one (by omega)]; rfl
  unfold textL
  simp only [e5, e2]
  rfl
theorem in_five : inItem (-5, 2) := ⟨⟨by decide, by decide⟩, ⟨by decide, by decide⟩⟩
theorem read_five (w : World) (hw : Env w) :
    Calls Tryd.prog 17 #[.string ⟨#[45, 53, 35, 50]⟩] w fun e w' => e = .returned (.tuple #[.agg #[.int .i64 (-5), .int .i64 2], .bool true]) ∧ Below w.heap.size w w' := by
  have h := read_any ⟨#[45, 53, 35, 50]⟩ w (by decide) hw
  have e : readL (⟨#[45, 53, 35, 50]⟩ : ByteArray).data.toList = some (-5, 2) := by
    have h2 := readL_textL (-5, 2) in_five.1 in_five.2
    rw [text_five] at h2; exact h2
  rw [e] at h
  exact h
theorem text_five_c (w : World) (hw : Env w) :
    Calls Tryd.prog 16 #[.agg #[.int .i64 (-5), .int .i64 2]] w fun e w' => e = .returned (.string ⟨#[45, 53, 35, 50]⟩) ∧ Grows w w' := by
  have h := text_any (-5, 2) w in_five hw
  rw [text_five] at h
  exact h
theorem cmp_five (w : World) :
    Calls Tryd.prog 9 #[.agg #[.int .i64 (-5), .int .i64 2], .agg #[.int .i64 0, .int .i64 0]] w fun e w' => e = .returned (.int .i64 (-1)) ∧ Grows w w' :=
  compare_any (-5, 2) (0, 0) w

set_option maxRecDepth 100000 in
set_option maxHeartbeats 2000000 in
theorem awake_any (w : World) (hw : Env w) : Calls Tryd.prog 8 #[] w fun e w' => e = .returned (.bool true) ∧ Below w.heap.size w w' := by
  go_enter Tryd.func8, Tryd.ntmps8
  go_wp2_with fail
  have hw0 : Env (w.alloc (Obj.cells #[Value.int IntKind.i64 (-5), Value.int IntKind.i64 2] 23)) := hw.grows ((Grows.refl w).alloc _)
  have h2 := Two.new w (.int .i64 (-5)) (.int .i64 2) 23
  have hb0 : Below w.heap.size w (w.alloc (Obj.cells #[Value.int IntKind.i64 (-5), Value.int IntKind.i64 2] 23)) := (Below.refl _ _).alloc (Nat.le_refl _) _
  generalize w.alloc (Obj.cells #[Value.int IntKind.i64 (-5), Value.int IntKind.i64 2] 23) = W0 at *
  refine (read_five _ hw0).mono ?_
  rintro e W1 ⟨rfl, b1⟩
  have hw1 := hw0.below b1 (Nat.le_refl _)
  replace h2 := h2.below b1 h2.2.2.2.2
  replace hb0 := hb0.trans (b1.mono hb0.size)
  clear b1 hw0
  have h3 := Two.new W1 (.int .i64 (-5)) (.int .i64 2) 23
  have hb1 : Below W1.heap.size W1 (W1.alloc (Obj.cells #[Value.int IntKind.i64 (-5), Value.int IntKind.i64 2] 23)) := (Below.refl _ _).alloc (Nat.le_refl _) _
  have h2' := h2.below hb1 h2.2.2.2.2
  have hw2 := hw1.below hb1 (Nat.le_refl _)
  obtain ⟨c0, c1, f0, f1, hlt⟩ := h2
  go_wp2_with fail
  clear c0 c1 f0 f1
  replace hb0 := hb0.trans (hb1.mono hb0.size)
  clear hb1 hw1
  generalize W1.alloc (Obj.cells #[Value.int IntKind.i64 (-5), Value.int IntKind.i64 2] 23) = W2 at *
  refine (text_five_c _ hw2).mono ?_
  rintro e W3 ⟨rfl, g3⟩
  have h4 := h3.below g3.below h3.2.2.2.2
  have h5 := h2'.below g3.below h2'.2.2.2.2
  have hb3 := hb0.trans (g3.below.mono hb0.size)
  clear h3 h2' hb0 hw2 g3
  obtain ⟨c0, c1, f0, f1, hl1⟩ := h4
  obtain ⟨d0, d1, e0, e1, hl2⟩ := h5
  have heq := item_eql (-5) 2 (-5) 2
  have hE : eqI (-5) 2 (-5) 2 = true := by decide
  rw [hE] at heq
  clear hE
  go_wp2_with fail
  refine (cmp_five _).mono ?_
  rintro e W4 ⟨rfl, g4⟩
  have hb4 := hb3.trans (g4.below.mono hb3.size)
  clear heq hb3 g4
  go_wp2_with fail
  go_ret
  exact ⟨rfl, hb4⟩
end Go.Proofs.YtocblnbnifljmaaDoor.Item
