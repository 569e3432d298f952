/- The walks of Mul, of the reference's Product, and of the statements on products. -/
import Derived.Test.YtapphelmnkbfiaaExactWalks
import Derived.Test.YtapphelmnkbfiaaExactMulPlain
namespace Go.Proofs.Ytapphelmnkbfiaa.Exact
open Go.RowKit
set_option linter.unusedVariables false

theorem mul_zero_l (b : Int) (w : World) (hb1 : -9223372036854775808 ≤ b) (hb2 : b ≤ 9223372036854775807) :
    Calls Try.prog 12 #[.int .i64 0, .int .i64 b] w fun e w' => e = .returned (.tuple #[.int .i64 0, .bool true]) ∧ w = w' := by
  go_enter Try.func12, Try.ntmps12
  go_wp2
  go_ret2
  exact ⟨rfl, rfl⟩
theorem mul_zero_r (a : Int) (w : World) (h : (a == 0) = false) :
    Calls Try.prog 12 #[.int .i64 a, .int .i64 0] w fun e w' => e = .returned (.tuple #[.int .i64 0, .bool true]) ∧ w = w' := by
  go_enter Try.func12, Try.ntmps12
  go_wp2
  go_ret2
  exact ⟨rfl, rfl⟩
theorem mul_edge (w : World) :
    Calls Try.prog 12 #[.int .i64 (-9223372036854775808), .int .i64 (-1)] w fun e w' => e = .returned (.tuple #[.int .i64 0, .bool false]) ∧ w = w' := by
  go_enter Try.func12, Try.ntmps12
  go_wp2
  go_ret2
  exact ⟨rfl, rfl⟩
theorem mul_core_yes_a (a b : Int) (w : World) (ha1 : -9223372036854775808 ≤ a) (ha2 : a ≤ 9223372036854775807) (hb1 : -9223372036854775808 ≤ b) (hb2 : b ≤ 9223372036854775807)
    (z1 : (a == 0) = false) (z2 : (b == 0) = false) (z3 : ¬ b = 0) (m1 : (a == -9223372036854775808) = false)
    (ht : (wrap64 ((wrap64 (a * b)).tdiv b) != a) = false) :
    Calls Try.prog 12 #[.int .i64 a, .int .i64 b] w fun e w' => e = .returned (.tuple #[.int .i64 (wrap64 (a * b)), .bool true]) ∧ w = w' := by
  go_enter Try.func12, Try.ntmps12
  go_wp2
  go_ret2
  exact ⟨rfl, rfl⟩
theorem mul_core_no_a (a b : Int) (w : World) (ha1 : -9223372036854775808 ≤ a) (ha2 : a ≤ 9223372036854775807) (hb1 : -9223372036854775808 ≤ b) (hb2 : b ≤ 9223372036854775807)
    (z1 : (a == 0) = false) (z2 : (b == 0) = false) (z3 : ¬ b = 0) (m1 : (a == -9223372036854775808) = false)
    (ht : (wrap64 ((wrap64 (a * b)).tdiv b) != a) = true) :
    Calls Try.prog 12 #[.int .i64 a, .int .i64 b] w fun e w' => e = .returned (.tuple #[.int .i64 0, .bool false]) ∧ w = w' := by
  go_enter Try.func12, Try.ntmps12
  go_wp2
  go_ret2
  exact ⟨rfl, rfl⟩
theorem mul_core_yes_b (a b : Int) (w : World) (ha1 : -9223372036854775808 ≤ a) (ha2 : a ≤ 9223372036854775807) (hb1 : -9223372036854775808 ≤ b) (hb2 : b ≤ 9223372036854775807)
    (z1 : (a == 0) = false) (z2 : (b == 0) = false) (z3 : ¬ b = 0) (m1 : (a == -9223372036854775808) = true) (m2 : (b == -1) = false)
    (ht : (wrap64 ((wrap64 (a * b)).tdiv b) != a) = false) :
    Calls Try.prog 12 #[.int .i64 a, .int .i64 b] w fun e w' => e = .returned (.tuple #[.int .i64 (wrap64 (a * b)), .bool true]) ∧ w = w' := by
  go_enter Try.func12, Try.ntmps12
  go_wp2
  go_ret2
  exact ⟨rfl, rfl⟩
theorem mul_core_no_b (a b : Int) (w : World) (ha1 : -9223372036854775808 ≤ a) (ha2 : a ≤ 9223372036854775807) (hb1 : -9223372036854775808 ≤ b) (hb2 : b ≤ 9223372036854775807)
    (z1 : (a == 0) = false) (z2 : (b == 0) = false) (z3 : ¬ b = 0) (m1 : (a == -9223372036854775808) = true) (m2 : (b == -1) = false)
    (ht : (wrap64 ((wrap64 (a * b)).tdiv b) != a) = true) :
    Calls Try.prog 12 #[.int .i64 a, .int .i64 b] w fun e w' => e = .returned (.tuple #[.int .i64 0, .bool false]) ∧ w = w' := by
  go_enter Try.func12, Try.ntmps12
  go_wp2
  go_ret2
  exact ⟨rfl, rfl⟩

theorem mul_any (a b : Int) (w : World) (ha1 : -9223372036854775808 ≤ a) (ha2 : a ≤ 9223372036854775807) (hb1 : -9223372036854775808 ≤ b) (hb2 : b ≤ 9223372036854775807) :
    Calls Try.prog 12 #[.int .i64 a, .int .i64 b] w fun e w' => e = .returned (.tuple #[.int .i64 (prodV (a * b)), .bool (prodB (a * b))]) ∧ w = w' := by
  by_cases ha : a = 0
  · subst ha
    rw [Int.zero_mul, ← res_yes (P := 0) (by decide) (by decide)]
    exact mul_zero_l b w hb1 hb2
  by_cases hb : b = 0
  · subst hb
    rw [Int.mul_zero, ← res_yes (P := 0) (by decide) (by decide)]
    exact mul_zero_r a w (beq_eq_false_iff_ne.2 ha)
  have z1 : (a == 0) = false := beq_eq_false_iff_ne.2 ha
  have z2 : (b == 0) = false := beq_eq_false_iff_ne.2 hb
  by_cases he : a = -9223372036854775808 ∧ b = -1
  · obtain ⟨rfl, rfl⟩ := he
    rw [← res_no (P := -9223372036854775808 * -1) (by decide)]
    exact mul_edge w
  by_cases hf : -9223372036854775808 ≤ a * b ∧ a * b ≤ 9223372036854775807
  · rw [← res_yes hf.1 hf.2]
    have e1 : wrap64 (a * b) = a * b := IntWalk.wrap64_in _ hf
    have ht : (wrap64 ((wrap64 (a * b)).tdiv b) != a) = false := by
      rw [e1, mul_fits_back a b hb, IntWalk.wrap64_in _ ⟨ha1, ha2⟩]; simp
    rw [← e1]
    by_cases hm : a = -9223372036854775808
    · refine mul_core_yes_b a b w ha1 ha2 hb1 hb2 z1 z2 hb (beq_iff_eq.2 hm) (beq_eq_false_iff_ne.2 (fun h => he ⟨hm, h⟩)) ?_
      rw [e1]; rw [e1] at ht; exact ht
    · refine mul_core_yes_a a b w ha1 ha2 hb1 hb2 z1 z2 hb (beq_eq_false_iff_ne.2 hm) ?_
      rw [e1]; rw [e1] at ht; exact ht
  · have hf' : a * b < -9223372036854775808 ∨ 9223372036854775807 < a * b := by omega
    rw [← res_no hf']
    have ht : (wrap64 ((wrap64 (a * b)).tdiv b) != a) = true := by
      rw [bne_iff_ne]; exact mul_wraps a b ha1 ha2 hb1 hb2 hb he hf'
    by_cases hm : a = -9223372036854775808
    · exact mul_core_no_b a b w ha1 ha2 hb1 hb2 z1 z2 hb (beq_iff_eq.2 hm) (beq_eq_false_iff_ne.2 (fun h => he ⟨hm, h⟩)) ht
    · exact mul_core_no_a a b w ha1 ha2 hb1 hb2 z1 z2 hb (beq_eq_false_iff_ne.2 hm) ht
end Go.Proofs.Ytapphelmnkbfiaa.Exact
