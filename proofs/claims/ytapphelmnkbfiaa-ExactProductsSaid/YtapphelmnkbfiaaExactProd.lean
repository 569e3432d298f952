/- The walk of the reference's Product, and of the statements on products. -/
import Derived.Test.YtapphelmnkbfiaaExactMul
namespace Go.Proofs.Ytapphelmnkbfiaa.Exact
open Go.RowKit
set_option linter.unusedVariables false

theorem size_neg (x : Int) (w : World) (h1 : 1 ≤ x) (h2 : x ≤ 9223372036854775808) :
    Calls Try.prog 18 #[.int .i64 (-x)] w fun e w' => e = .returned (.int .u64 x) ∧ w = w' := by
  go_enter Try.func18, Try.ntmps18
  go_wp2
  go_ret
  exact ⟨ret_int (by omega), rfl⟩
theorem size_pos (x : Int) (w : World) (h1 : 0 ≤ x) (h2 : x ≤ 9223372036854775807) :
    Calls Try.prog 18 #[.int .i64 x] w fun e w' => e = .returned (.int .u64 x) ∧ w = w' := by
  go_enter Try.func18, Try.ntmps18
  go_wp2
  go_ret
  exact ⟨ret_int (by omega), rfl⟩

theorem res_int {Q P : Int} (h : Q = P) : Ending.returned (.tuple #[.int .i64 Q, .bool true]) = Ending.returned (.tuple #[.int .i64 P, .bool true]) := by rw [h]

theorem prod_hi_pp (x y : Int) (w : World) (hx1 : 0 ≤ x) (hx2 : x ≤ 9223372036854775807) (hy1 : 0 ≤ y) (hy2 : y ≤ 9223372036854775807)
    (a1 : 0 ≤ x / 4294967296 * (y % 4294967296)) (a2 : x / 4294967296 * (y % 4294967296) ≤ 9223372034707292160) (b1 : 0 ≤ x % 4294967296 * (y / 4294967296)) (b2 : x % 4294967296 * (y / 4294967296) ≤ 9223372034707292160) (c1 : 0 ≤ x % 4294967296 * (y % 4294967296)) (c2 : x % 4294967296 * (y % 4294967296) ≤ 18446744065119617025)
    (e1 : 0 < x / 4294967296) (e2 : 0 < y / 4294967296) :
    Calls Try.prog 13 #[.int .i64 x, .int .i64 y] w fun e w' => e = .returned (.tuple #[.int .i64 0, .bool false]) ∧ w = w' := by
  have k0 : decide (x < 0) = false := decide_eq_false (by omega)
  have k1 : decide (y < 0) = false := decide_eq_false (by omega)
  have k2 : decide (0 < x / 4294967296) = true := decide_eq_true (by omega)
  have k3 : decide (0 < y / 4294967296) = true := decide_eq_true (by omega)
  go_enter Try.func13, Try.ntmps13
  go_wp2_with fail
  refine (size_pos x _ hx1 hx2).mono ?_
  rintro e w' ⟨rfl, rfl⟩
  go_wp2_with fail
  refine (size_pos y _ hy1 hy2).mono ?_
  rintro e w' ⟨rfl, rfl⟩
  go_wp2_with fail
  go_ret2
  exact ⟨rfl, rfl⟩
theorem prod_mid_ppl (x y : Int) (w : World) (hx1 : 0 ≤ x) (hx2 : x ≤ 9223372036854775807) (hy1 : 0 ≤ y) (hy2 : y ≤ 9223372036854775807)
    (a1 : 0 ≤ x / 4294967296 * (y % 4294967296)) (a2 : x / 4294967296 * (y % 4294967296) ≤ 9223372034707292160) (b1 : 0 ≤ x % 4294967296 * (y / 4294967296)) (b2 : x % 4294967296 * (y / 4294967296) ≤ 9223372034707292160) (c1 : 0 ≤ x % 4294967296 * (y % 4294967296)) (c2 : x % 4294967296 * (y % 4294967296) ≤ 18446744065119617025)
    (e1 : x / 4294967296 ≤ 0) (e3 : 4294967295 < x / 4294967296 * (y % 4294967296) + x % 4294967296 * (y / 4294967296)) :
    Calls Try.prog 13 #[.int .i64 x, .int .i64 y] w fun e w' => e = .returned (.tuple #[.int .i64 0, .bool false]) ∧ w = w' := by
  have k0 : decide (x < 0) = false := decide_eq_false (by omega)
  have k1 : decide (y < 0) = false := decide_eq_false (by omega)
  have k2 : decide (0 < x / 4294967296) = false := decide_eq_false (by omega)
  have k3 : decide (4294967295 < x / 4294967296 * (y % 4294967296) + x % 4294967296 * (y / 4294967296)) = true := decide_eq_true (by omega)
  go_enter Try.func13, Try.ntmps13
  go_wp2_with fail
  refine (size_pos x _ hx1 hx2).mono ?_
  rintro e w' ⟨rfl, rfl⟩
  go_wp2_with fail
  refine (size_pos y _ hy1 hy2).mono ?_
  rintro e w' ⟨rfl, rfl⟩
  go_wp2_with fail
  go_ret2
  exact ⟨rfl, rfl⟩
theorem prod_tail_ppl (x y : Int) (w : World) (hx1 : 0 ≤ x) (hx2 : x ≤ 9223372036854775807) (hy1 : 0 ≤ y) (hy2 : y ≤ 9223372036854775807)
    (a1 : 0 ≤ x / 4294967296 * (y % 4294967296)) (a2 : x / 4294967296 * (y % 4294967296) ≤ 9223372034707292160) (b1 : 0 ≤ x % 4294967296 * (y / 4294967296)) (b2 : x % 4294967296 * (y / 4294967296) ≤ 9223372034707292160) (c1 : 0 ≤ x % 4294967296 * (y % 4294967296)) (c2 : x % 4294967296 * (y % 4294967296) ≤ 18446744065119617025)
    (e1 : x / 4294967296 ≤ 0) (e3 : x / 4294967296 * (y % 4294967296) + x % 4294967296 * (y / 4294967296) ≤ 4294967295) (e4 : 18446744073709551615 - (x / 4294967296 * (y % 4294967296) + x % 4294967296 * (y / 4294967296)) * 4294967296 < x % 4294967296 * (y % 4294967296)) :
    Calls Try.prog 13 #[.int .i64 x, .int .i64 y] w fun e w' => e = .returned (.tuple #[.int .i64 0, .bool false]) ∧ w = w' := by
  have k0 : decide (x < 0) = false := decide_eq_false (by omega)
  have k1 : decide (y < 0) = false := decide_eq_false (by omega)
  have k2 : decide (0 < x / 4294967296) = false := decide_eq_false (by omega)
  have k3 : decide (4294967295 < x / 4294967296 * (y % 4294967296) + x % 4294967296 * (y / 4294967296)) = false := decide_eq_false (by omega)
  have k4 : decide (18446744073709551615 - (x / 4294967296 * (y % 4294967296) + x % 4294967296 * (y / 4294967296)) * 4294967296 < x % 4294967296 * (y % 4294967296)) = true := decide_eq_true (by omega)
  go_enter Try.func13, Try.ntmps13
  go_wp2_with fail
  refine (size_pos x _ hx1 hx2).mono ?_
  rintro e w' ⟨rfl, rfl⟩
  go_wp2_with fail
  refine (size_pos y _ hy1 hy2).mono ?_
  rintro e w' ⟨rfl, rfl⟩
  go_wp2_with fail
  go_ret2
  exact ⟨rfl, rfl⟩
theorem prod_big_ppl (x y : Int) (w : World) (hx1 : 0 ≤ x) (hx2 : x ≤ 9223372036854775807) (hy1 : 0 ≤ y) (hy2 : y ≤ 9223372036854775807)
    (a1 : 0 ≤ x / 4294967296 * (y % 4294967296)) (a2 : x / 4294967296 * (y % 4294967296) ≤ 9223372034707292160) (b1 : 0 ≤ x % 4294967296 * (y / 4294967296)) (b2 : x % 4294967296 * (y / 4294967296) ≤ 9223372034707292160) (c1 : 0 ≤ x % 4294967296 * (y % 4294967296)) (c2 : x % 4294967296 * (y % 4294967296) ≤ 18446744065119617025)
    (e1 : x / 4294967296 ≤ 0) (e3 : x / 4294967296 * (y % 4294967296) + x % 4294967296 * (y / 4294967296) ≤ 4294967295) (e4 : x % 4294967296 * (y % 4294967296) ≤ 18446744073709551615 - (x / 4294967296 * (y % 4294967296) + x % 4294967296 * (y / 4294967296)) * 4294967296) (e5 : 9223372036854775807 < x % 4294967296 * (y % 4294967296) + (x / 4294967296 * (y % 4294967296) + x % 4294967296 * (y / 4294967296)) * 4294967296) :
    Calls Try.prog 13 #[.int .i64 x, .int .i64 y] w fun e w' => e = .returned (.tuple #[.int .i64 0, .bool false]) ∧ w = w' := by
  have k0 : decide (x < 0) = false := decide_eq_false (by omega)
  have k1 : decide (y < 0) = false := decide_eq_false (by omega)
  have k2 : decide (0 < x / 4294967296) = false := decide_eq_false (by omega)
  have k3 : decide (4294967295 < x / 4294967296 * (y % 4294967296) + x % 4294967296 * (y / 4294967296)) = false := decide_eq_false (by omega)
  have k4 : decide (18446744073709551615 - (x / 4294967296 * (y % 4294967296) + x % 4294967296 * (y / 4294967296)) * 4294967296 < x % 4294967296 * (y % 4294967296)) = false := decide_eq_false (by omega)
  have k5 : decide (9223372036854775807 < x % 4294967296 * (y % 4294967296) + (x / 4294967296 * (y % 4294967296) + x % 4294967296 * (y / 4294967296)) * 4294967296) = true := decide_eq_true (by omega)
  go_enter Try.func13, Try.ntmps13
  go_wp2_with fail
  refine (size_pos x _ hx1 hx2).mono ?_
  rintro e w' ⟨rfl, rfl⟩
  go_wp2_with fail
  refine (size_pos y _ hy1 hy2).mono ?_
  rintro e w' ⟨rfl, rfl⟩
  go_wp2_with fail
  go_ret2
  exact ⟨rfl, rfl⟩
theorem prod_ok_ppl (x y : Int) (w : World) (hx1 : 0 ≤ x) (hx2 : x ≤ 9223372036854775807) (hy1 : 0 ≤ y) (hy2 : y ≤ 9223372036854775807)
    (a1 : 0 ≤ x / 4294967296 * (y % 4294967296)) (a2 : x / 4294967296 * (y % 4294967296) ≤ 9223372034707292160) (b1 : 0 ≤ x % 4294967296 * (y / 4294967296)) (b2 : x % 4294967296 * (y / 4294967296) ≤ 9223372034707292160) (c1 : 0 ≤ x % 4294967296 * (y % 4294967296)) (c2 : x % 4294967296 * (y % 4294967296) ≤ 18446744065119617025)
    (e1 : x / 4294967296 ≤ 0) (e3 : x / 4294967296 * (y % 4294967296) + x % 4294967296 * (y / 4294967296) ≤ 4294967295) (e4 : x % 4294967296 * (y % 4294967296) ≤ 18446744073709551615 - (x / 4294967296 * (y % 4294967296) + x % 4294967296 * (y / 4294967296)) * 4294967296) (e5 : x % 4294967296 * (y % 4294967296) + (x / 4294967296 * (y % 4294967296) + x % 4294967296 * (y / 4294967296)) * 4294967296 ≤ 9223372036854775807) :
    Calls Try.prog 13 #[.int .i64 x, .int .i64 y] w fun e w' => e = .returned (.tuple #[.int .i64 (x % 4294967296 * (y % 4294967296) + (x / 4294967296 * (y % 4294967296) + x % 4294967296 * (y / 4294967296)) * 4294967296), .bool true]) ∧ w = w' := by
  have k0 : decide (x < 0) = false := decide_eq_false (by omega)
  have k1 : decide (y < 0) = false := decide_eq_false (by omega)
  have k2 : decide (0 < x / 4294967296) = false := decide_eq_false (by omega)
  have k3 : decide (4294967295 < x / 4294967296 * (y % 4294967296) + x % 4294967296 * (y / 4294967296)) = false := decide_eq_false (by omega)
  have k4 : decide (18446744073709551615 - (x / 4294967296 * (y % 4294967296) + x % 4294967296 * (y / 4294967296)) * 4294967296 < x % 4294967296 * (y % 4294967296)) = false := decide_eq_false (by omega)
  have k5 : decide (9223372036854775807 < x % 4294967296 * (y % 4294967296) + (x / 4294967296 * (y % 4294967296) + x % 4294967296 * (y / 4294967296)) * 4294967296) = false := decide_eq_false (by omega)
  go_enter Try.func13, Try.ntmps13
  go_wp2_with fail
  refine (size_pos x _ hx1 hx2).mono ?_
  rintro e w' ⟨rfl, rfl⟩
  go_wp2_with fail
  refine (size_pos y _ hy1 hy2).mono ?_
  rintro e w' ⟨rfl, rfl⟩
  go_wp2_with fail
  go_ret2
  exact ⟨res_int (by first | rfl | omega), rfl⟩
theorem prod_mid_ppr (x y : Int) (w : World) (hx1 : 0 ≤ x) (hx2 : x ≤ 9223372036854775807) (hy1 : 0 ≤ y) (hy2 : y ≤ 9223372036854775807)
    (a1 : 0 ≤ x / 4294967296 * (y % 4294967296)) (a2 : x / 4294967296 * (y % 4294967296) ≤ 9223372034707292160) (b1 : 0 ≤ x % 4294967296 * (y / 4294967296)) (b2 : x % 4294967296 * (y / 4294967296) ≤ 9223372034707292160) (c1 : 0 ≤ x % 4294967296 * (y % 4294967296)) (c2 : x % 4294967296 * (y % 4294967296) ≤ 18446744065119617025)
    (e1 : 0 < x / 4294967296) (e2 : y / 4294967296 ≤ 0) (e3 : 4294967295 < x / 4294967296 * (y % 4294967296) + x % 4294967296 * (y / 4294967296)) :
    Calls Try.prog 13 #[.int .i64 x, .int .i64 y] w fun e w' => e = .returned (.tuple #[.int .i64 0, .bool false]) ∧ w = w' := by
  have k0 : decide (x < 0) = false := decide_eq_false (by omega)
  have k1 : decide (y < 0) = false := decide_eq_false (by omega)
  have k2 : decide (0 < x / 4294967296) = true := decide_eq_true (by omega)
  have k3 : decide (0 < y / 4294967296) = false := decide_eq_false (by omega)
  have k4 : decide (4294967295 < x / 4294967296 * (y % 4294967296) + x % 4294967296 * (y / 4294967296)) = true := decide_eq_true (by omega)
  go_enter Try.func13, Try.ntmps13
  go_wp2_with fail
  refine (size_pos x _ hx1 hx2).mono ?_
  rintro e w' ⟨rfl, rfl⟩
  go_wp2_with fail
  refine (size_pos y _ hy1 hy2).mono ?_
  rintro e w' ⟨rfl, rfl⟩
  go_wp2_with fail
  go_ret2
  exact ⟨rfl, rfl⟩
theorem prod_tail_ppr (x y : Int) (w : World) (hx1 : 0 ≤ x) (hx2 : x ≤ 9223372036854775807) (hy1 : 0 ≤ y) (hy2 : y ≤ 9223372036854775807)
    (a1 : 0 ≤ x / 4294967296 * (y % 4294967296)) (a2 : x / 4294967296 * (y % 4294967296) ≤ 9223372034707292160) (b1 : 0 ≤ x % 4294967296 * (y / 4294967296)) (b2 : x % 4294967296 * (y / 4294967296) ≤ 9223372034707292160) (c1 : 0 ≤ x % 4294967296 * (y % 4294967296)) (c2 : x % 4294967296 * (y % 4294967296) ≤ 18446744065119617025)
    (e1 : 0 < x / 4294967296) (e2 : y / 4294967296 ≤ 0) (e3 : x / 4294967296 * (y % 4294967296) + x % 4294967296 * (y / 4294967296) ≤ 4294967295) (e4 : 18446744073709551615 - (x / 4294967296 * (y % 4294967296) + x % 4294967296 * (y / 4294967296)) * 4294967296 < x % 4294967296 * (y % 4294967296)) :
    Calls Try.prog 13 #[.int .i64 x, .int .i64 y] w fun e w' => e = .returned (.tuple #[.int .i64 0, .bool false]) ∧ w = w' := by
  have k0 : decide (x < 0) = false := decide_eq_false (by omega)
  have k1 : decide (y < 0) = false := decide_eq_false (by omega)
  have k2 : decide (0 < x / 4294967296) = true := decide_eq_true (by omega)
  have k3 : decide (0 < y / 4294967296) = false := decide_eq_false (by omega)
  have k4 : decide (4294967295 < x / 4294967296 * (y % 4294967296) + x % 4294967296 * (y / 4294967296)) = false := decide_eq_false (by omega)
  have k5 : decide (18446744073709551615 - (x / 4294967296 * (y % 4294967296) + x % 4294967296 * (y / 4294967296)) * 4294967296 < x % 4294967296 * (y % 4294967296)) = true := decide_eq_true (by omega)
  go_enter Try.func13, Try.ntmps13
  go_wp2_with fail
  refine (size_pos x _ hx1 hx2).mono ?_
  rintro e w' ⟨rfl, rfl⟩
  go_wp2_with fail
  refine (size_pos y _ hy1 hy2).mono ?_
  rintro e w' ⟨rfl, rfl⟩
  go_wp2_with fail
  go_ret2
  exact ⟨rfl, rfl⟩
theorem prod_big_ppr (x y : Int) (w : World) (hx1 : 0 ≤ x) (hx2 : x ≤ 9223372036854775807) (hy1 : 0 ≤ y) (hy2 : y ≤ 9223372036854775807)
    (a1 : 0 ≤ x / 4294967296 * (y % 4294967296)) (a2 : x / 4294967296 * (y % 4294967296) ≤ 9223372034707292160) (b1 : 0 ≤ x % 4294967296 * (y / 4294967296)) (b2 : x % 4294967296 * (y / 4294967296) ≤ 9223372034707292160) (c1 : 0 ≤ x % 4294967296 * (y % 4294967296)) (c2 : x % 4294967296 * (y % 4294967296) ≤ 18446744065119617025)
    (e1 : 0 < x / 4294967296) (e2 : y / 4294967296 ≤ 0) (e3 : x / 4294967296 * (y % 4294967296) + x % 4294967296 * (y / 4294967296) ≤ 4294967295) (e4 : x % 4294967296 * (y % 4294967296) ≤ 18446744073709551615 - (x / 4294967296 * (y % 4294967296) + x % 4294967296 * (y / 4294967296)) * 4294967296) (e5 : 9223372036854775807 < x % 4294967296 * (y % 4294967296) + (x / 4294967296 * (y % 4294967296) + x % 4294967296 * (y / 4294967296)) * 4294967296) :
    Calls Try.prog 13 #[.int .i64 x, .int .i64 y] w fun e w' => e = .returned (.tuple #[.int .i64 0, .bool false]) ∧ w = w' := by
  have k0 : decide (x < 0) = false := decide_eq_false (by omega)
  have k1 : decide (y < 0) = false := decide_eq_false (by omega)
  have k2 : decide (0 < x / 4294967296) = true := decide_eq_true (by omega)
  have k3 : decide (0 < y / 4294967296) = false := decide_eq_false (by omega)
  have k4 : decide (4294967295 < x / 4294967296 * (y % 4294967296) + x % 4294967296 * (y / 4294967296)) = false := decide_eq_false (by omega)
  have k5 : decide (18446744073709551615 - (x / 4294967296 * (y % 4294967296) + x % 4294967296 * (y / 4294967296)) * 4294967296 < x % 4294967296 * (y % 4294967296)) = false := decide_eq_false (by omega)
  have k6 : decide (9223372036854775807 < x % 4294967296 * (y % 4294967296) + (x / 4294967296 * (y % 4294967296) + x % 4294967296 * (y / 4294967296)) * 4294967296) = true := decide_eq_true (by omega)
  go_enter Try.func13, Try.ntmps13
  go_wp2_with fail
  refine (size_pos x _ hx1 hx2).mono ?_
  rintro e w' ⟨rfl, rfl⟩
  go_wp2_with fail
  refine (size_pos y _ hy1 hy2).mono ?_
  rintro e w' ⟨rfl, rfl⟩
  go_wp2_with fail
  go_ret2
  exact ⟨rfl, rfl⟩
theorem prod_ok_ppr (x y : Int) (w : World) (hx1 : 0 ≤ x) (hx2 : x ≤ 9223372036854775807) (hy1 : 0 ≤ y) (hy2 : y ≤ 9223372036854775807)
    (a1 : 0 ≤ x / 4294967296 * (y % 4294967296)) (a2 : x / 4294967296 * (y % 4294967296) ≤ 9223372034707292160) (b1 : 0 ≤ x % 4294967296 * (y / 4294967296)) (b2 : x % 4294967296 * (y / 4294967296) ≤ 9223372034707292160) (c1 : 0 ≤ x % 4294967296 * (y % 4294967296)) (c2 : x % 4294967296 * (y % 4294967296) ≤ 18446744065119617025)
    (e1 : 0 < x / 4294967296) (e2 : y / 4294967296 ≤ 0) (e3 : x / 4294967296 * (y % 4294967296) + x % 4294967296 * (y / 4294967296) ≤ 4294967295) (e4 : x % 4294967296 * (y % 4294967296) ≤ 18446744073709551615 - (x / 4294967296 * (y % 4294967296) + x % 4294967296 * (y / 4294967296)) * 4294967296) (e5 : x % 4294967296 * (y % 4294967296) + (x / 4294967296 * (y % 4294967296) + x % 4294967296 * (y / 4294967296)) * 4294967296 ≤ 9223372036854775807) :
    Calls Try.prog 13 #[.int .i64 x, .int .i64 y] w fun e w' => e = .returned (.tuple #[.int .i64 (x % 4294967296 * (y % 4294967296) + (x / 4294967296 * (y % 4294967296) + x % 4294967296 * (y / 4294967296)) * 4294967296), .bool true]) ∧ w = w' := by
  have k0 : decide (x < 0) = false := decide_eq_false (by omega)
  have k1 : decide (y < 0) = false := decide_eq_false (by omega)
  have k2 : decide (0 < x / 4294967296) = true := decide_eq_true (by omega)
  have k3 : decide (0 < y / 4294967296) = false := decide_eq_false (by omega)
  have k4 : decide (4294967295 < x / 4294967296 * (y % 4294967296) + x % 4294967296 * (y / 4294967296)) = false := decide_eq_false (by omega)
  have k5 : decide (18446744073709551615 - (x / 4294967296 * (y % 4294967296) + x % 4294967296 * (y / 4294967296)) * 4294967296 < x % 4294967296 * (y % 4294967296)) = false := decide_eq_false (by omega)
  have k6 : decide (9223372036854775807 < x % 4294967296 * (y % 4294967296) + (x / 4294967296 * (y % 4294967296) + x % 4294967296 * (y / 4294967296)) * 4294967296) = false := decide_eq_false (by omega)
  go_enter Try.func13, Try.ntmps13
  go_wp2_with fail
  refine (size_pos x _ hx1 hx2).mono ?_
  rintro e w' ⟨rfl, rfl⟩
  go_wp2_with fail
  refine (size_pos y _ hy1 hy2).mono ?_
  rintro e w' ⟨rfl, rfl⟩
  go_wp2_with fail
  go_ret2
  exact ⟨res_int (by first | rfl | omega), rfl⟩
theorem prod_hi_np (x y : Int) (w : World) (hx1 : 1 ≤ x) (hx2 : x ≤ 9223372036854775808) (hy1 : 0 ≤ y) (hy2 : y ≤ 9223372036854775807)
    (a1 : 0 ≤ x / 4294967296 * (y % 4294967296)) (a2 : x / 4294967296 * (y % 4294967296) ≤ 9223372034707292160) (b1 : 0 ≤ x % 4294967296 * (y / 4294967296)) (b2 : x % 4294967296 * (y / 4294967296) ≤ 9223372034707292160) (c1 : 0 ≤ x % 4294967296 * (y % 4294967296)) (c2 : x % 4294967296 * (y % 4294967296) ≤ 18446744065119617025)
    (e1 : 0 < x / 4294967296) (e2 : 0 < y / 4294967296) :
    Calls Try.prog 13 #[.int .i64 (-x), .int .i64 y] w fun e w' => e = .returned (.tuple #[.int .i64 0, .bool false]) ∧ w = w' := by
  have k0 : decide (0 < x) = true := decide_eq_true (by omega)
  have k1 : decide (y < 0) = false := decide_eq_false (by omega)
  have k2 : decide (0 < x / 4294967296) = true := decide_eq_true (by omega)
  have k3 : decide (0 < y / 4294967296) = true := decide_eq_true (by omega)
  go_enter Try.func13, Try.ntmps13
  go_wp2_with fail
  refine (size_neg x _ hx1 hx2).mono ?_
  rintro e w' ⟨rfl, rfl⟩
  go_wp2_with fail
  refine (size_pos y _ hy1 hy2).mono ?_
  rintro e w' ⟨rfl, rfl⟩
  go_wp2_with fail
  go_ret2
  exact ⟨rfl, rfl⟩
theorem prod_mid_npl (x y : Int) (w : World) (hx1 : 1 ≤ x) (hx2 : x ≤ 9223372036854775808) (hy1 : 0 ≤ y) (hy2 : y ≤ 9223372036854775807)
    (a1 : 0 ≤ x / 4294967296 * (y % 4294967296)) (a2 : x / 4294967296 * (y % 4294967296) ≤ 9223372034707292160) (b1 : 0 ≤ x % 4294967296 * (y / 4294967296)) (b2 : x % 4294967296 * (y / 4294967296) ≤ 9223372034707292160) (c1 : 0 ≤ x % 4294967296 * (y % 4294967296)) (c2 : x % 4294967296 * (y % 4294967296) ≤ 18446744065119617025)
    (e1 : x / 4294967296 ≤ 0) (e3 : 4294967295 < x / 4294967296 * (y % 4294967296) + x % 4294967296 * (y / 4294967296)) :
    Calls Try.prog 13 #[.int .i64 (-x), .int .i64 y] w fun e w' => e = .returned (.tuple #[.int .i64 0, .bool false]) ∧ w = w' := by
  have k0 : decide (0 < x) = true := decide_eq_true (by omega)
  have k1 : decide (y < 0) = false := decide_eq_false (by omega)
  have k2 : decide (0 < x / 4294967296) = false := decide_eq_false (by omega)
  have k3 : decide (4294967295 < x / 4294967296 * (y % 4294967296) + x % 4294967296 * (y / 4294967296)) = true := decide_eq_true (by omega)
  go_enter Try.func13, Try.ntmps13
  go_wp2_with fail
  refine (size_neg x _ hx1 hx2).mono ?_
  rintro e w' ⟨rfl, rfl⟩
  go_wp2_with fail
  refine (size_pos y _ hy1 hy2).mono ?_
  rintro e w' ⟨rfl, rfl⟩
  go_wp2_with fail
  go_ret2
  exact ⟨rfl, rfl⟩
theorem prod_tail_npl (x y : Int) (w : World) (hx1 : 1 ≤ x) (hx2 : x ≤ 9223372036854775808) (hy1 : 0 ≤ y) (hy2 : y ≤ 9223372036854775807)
    (a1 : 0 ≤ x / 4294967296 * (y % 4294967296)) (a2 : x / 4294967296 * (y % 4294967296) ≤ 9223372034707292160) (b1 : 0 ≤ x % 4294967296 * (y / 4294967296)) (b2 : x % 4294967296 * (y / 4294967296) ≤ 9223372034707292160) (c1 : 0 ≤ x % 4294967296 * (y % 4294967296)) (c2 : x % 4294967296 * (y % 4294967296) ≤ 18446744065119617025)
    (e1 : x / 4294967296 ≤ 0) (e3 : x / 4294967296 * (y % 4294967296) + x % 4294967296 * (y / 4294967296) ≤ 4294967295) (e4 : 18446744073709551615 - (x / 4294967296 * (y % 4294967296) + x % 4294967296 * (y / 4294967296)) * 4294967296 < x % 4294967296 * (y % 4294967296)) :
    Calls Try.prog 13 #[.int .i64 (-x), .int .i64 y] w fun e w' => e = .returned (.tuple #[.int .i64 0, .bool false]) ∧ w = w' := by
  have k0 : decide (0 < x) = true := decide_eq_true (by omega)
  have k1 : decide (y < 0) = false := decide_eq_false (by omega)
  have k2 : decide (0 < x / 4294967296) = false := decide_eq_false (by omega)
  have k3 : decide (4294967295 < x / 4294967296 * (y % 4294967296) + x % 4294967296 * (y / 4294967296)) = false := decide_eq_false (by omega)
  have k4 : decide (18446744073709551615 - (x / 4294967296 * (y % 4294967296) + x % 4294967296 * (y / 4294967296)) * 4294967296 < x % 4294967296 * (y % 4294967296)) = true := decide_eq_true (by omega)
  go_enter Try.func13, Try.ntmps13
  go_wp2_with fail
  refine (size_neg x _ hx1 hx2).mono ?_
  rintro e w' ⟨rfl, rfl⟩
  go_wp2_with fail
  refine (size_pos y _ hy1 hy2).mono ?_
  rintro e w' ⟨rfl, rfl⟩
  go_wp2_with fail
  go_ret2
  exact ⟨rfl, rfl⟩
theorem prod_big_npl (x y : Int) (w : World) (hx1 : 1 ≤ x) (hx2 : x ≤ 9223372036854775808) (hy1 : 0 ≤ y) (hy2 : y ≤ 9223372036854775807)
    (a1 : 0 ≤ x / 4294967296 * (y % 4294967296)) (a2 : x / 4294967296 * (y % 4294967296) ≤ 9223372034707292160) (b1 : 0 ≤ x % 4294967296 * (y / 4294967296)) (b2 : x % 4294967296 * (y / 4294967296) ≤ 9223372034707292160) (c1 : 0 ≤ x % 4294967296 * (y % 4294967296)) (c2 : x % 4294967296 * (y % 4294967296) ≤ 18446744065119617025)
    (e1 : x / 4294967296 ≤ 0) (e3 : x / 4294967296 * (y % 4294967296) + x % 4294967296 * (y / 4294967296) ≤ 4294967295) (e4 : x % 4294967296 * (y % 4294967296) ≤ 18446744073709551615 - (x / 4294967296 * (y % 4294967296) + x % 4294967296 * (y / 4294967296)) * 4294967296) (e5 : 9223372036854775808 < x % 4294967296 * (y % 4294967296) + (x / 4294967296 * (y % 4294967296) + x % 4294967296 * (y / 4294967296)) * 4294967296) :
    Calls Try.prog 13 #[.int .i64 (-x), .int .i64 y] w fun e w' => e = .returned (.tuple #[.int .i64 0, .bool false]) ∧ w = w' := by
  have k0 : decide (0 < x) = true := decide_eq_true (by omega)
  have k1 : decide (y < 0) = false := decide_eq_false (by omega)
  have k2 : decide (0 < x / 4294967296) = false := decide_eq_false (by omega)
  have k3 : decide (4294967295 < x / 4294967296 * (y % 4294967296) + x % 4294967296 * (y / 4294967296)) = false := decide_eq_false (by omega)
  have k4 : decide (18446744073709551615 - (x / 4294967296 * (y % 4294967296) + x % 4294967296 * (y / 4294967296)) * 4294967296 < x % 4294967296 * (y % 4294967296)) = false := decide_eq_false (by omega)
  have k5 : decide (9223372036854775808 < x % 4294967296 * (y % 4294967296) + (x / 4294967296 * (y % 4294967296) + x % 4294967296 * (y / 4294967296)) * 4294967296) = true := decide_eq_true (by omega)
  go_enter Try.func13, Try.ntmps13
  go_wp2_with fail
  refine (size_neg x _ hx1 hx2).mono ?_
  rintro e w' ⟨rfl, rfl⟩
  go_wp2_with fail
  refine (size_pos y _ hy1 hy2).mono ?_
  rintro e w' ⟨rfl, rfl⟩
  go_wp2_with fail
  go_ret2
  exact ⟨rfl, rfl⟩
theorem prod_ok_npl (x y : Int) (w : World) (hx1 : 1 ≤ x) (hx2 : x ≤ 9223372036854775808) (hy1 : 0 ≤ y) (hy2 : y ≤ 9223372036854775807)
    (a1 : 0 ≤ x / 4294967296 * (y % 4294967296)) (a2 : x / 4294967296 * (y % 4294967296) ≤ 9223372034707292160) (b1 : 0 ≤ x % 4294967296 * (y / 4294967296)) (b2 : x % 4294967296 * (y / 4294967296) ≤ 9223372034707292160) (c1 : 0 ≤ x % 4294967296 * (y % 4294967296)) (c2 : x % 4294967296 * (y % 4294967296) ≤ 18446744065119617025)
    (e1 : x / 4294967296 ≤ 0) (e3 : x / 4294967296 * (y % 4294967296) + x % 4294967296 * (y / 4294967296) ≤ 4294967295) (e4 : x % 4294967296 * (y % 4294967296) ≤ 18446744073709551615 - (x / 4294967296 * (y % 4294967296) + x % 4294967296 * (y / 4294967296)) * 4294967296) (e5 : x % 4294967296 * (y % 4294967296) + (x / 4294967296 * (y % 4294967296) + x % 4294967296 * (y / 4294967296)) * 4294967296 ≤ 9223372036854775808) :
    Calls Try.prog 13 #[.int .i64 (-x), .int .i64 y] w fun e w' => e = .returned (.tuple #[.int .i64 (-(x % 4294967296 * (y % 4294967296) + (x / 4294967296 * (y % 4294967296) + x % 4294967296 * (y / 4294967296)) * 4294967296)), .bool true]) ∧ w = w' := by
  have k0 : decide (0 < x) = true := decide_eq_true (by omega)
  have k1 : decide (y < 0) = false := decide_eq_false (by omega)
  have k2 : decide (0 < x / 4294967296) = false := decide_eq_false (by omega)
  have k3 : decide (4294967295 < x / 4294967296 * (y % 4294967296) + x % 4294967296 * (y / 4294967296)) = false := decide_eq_false (by omega)
  have k4 : decide (18446744073709551615 - (x / 4294967296 * (y % 4294967296) + x % 4294967296 * (y / 4294967296)) * 4294967296 < x % 4294967296 * (y % 4294967296)) = false := decide_eq_false (by omega)
  have k5 : decide (9223372036854775808 < x % 4294967296 * (y % 4294967296) + (x / 4294967296 * (y % 4294967296) + x % 4294967296 * (y / 4294967296)) * 4294967296) = false := decide_eq_false (by omega)
  go_enter Try.func13, Try.ntmps13
  go_wp2_with fail
  refine (size_neg x _ hx1 hx2).mono ?_
  rintro e w' ⟨rfl, rfl⟩
  go_wp2_with fail
  refine (size_pos y _ hy1 hy2).mono ?_
  rintro e w' ⟨rfl, rfl⟩
  go_wp2_with fail
  go_ret2
  exact ⟨res_int (by first | rfl | exact neg_conv _ (by omega) (by omega)), rfl⟩
theorem prod_mid_npr (x y : Int) (w : World) (hx1 : 1 ≤ x) (hx2 : x ≤ 9223372036854775808) (hy1 : 0 ≤ y) (hy2 : y ≤ 9223372036854775807)
    (a1 : 0 ≤ x / 4294967296 * (y % 4294967296)) (a2 : x / 4294967296 * (y % 4294967296) ≤ 9223372034707292160) (b1 : 0 ≤ x % 4294967296 * (y / 4294967296)) (b2 : x % 4294967296 * (y / 4294967296) ≤ 9223372034707292160) (c1 : 0 ≤ x % 4294967296 * (y % 4294967296)) (c2 : x % 4294967296 * (y % 4294967296) ≤ 18446744065119617025)
    (e1 : 0 < x / 4294967296) (e2 : y / 4294967296 ≤ 0) (e3 : 4294967295 < x / 4294967296 * (y % 4294967296) + x % 4294967296 * (y / 4294967296)) :
    Calls Try.prog 13 #[.int .i64 (-x), .int .i64 y] w fun e w' => e = .returned (.tuple #[.int .i64 0, .bool false]) ∧ w = w' := by
  have k0 : decide (0 < x) = true := decide_eq_true (by omega)
  have k1 : decide (y < 0) = false := decide_eq_false (by omega)
  have k2 : decide (0 < x / 4294967296) = true := decide_eq_true (by omega)
  have k3 : decide (0 < y / 4294967296) = false := decide_eq_false (by omega)
  have k4 : decide (4294967295 < x / 4294967296 * (y % 4294967296) + x % 4294967296 * (y / 4294967296)) = true := decide_eq_true (by omega)
  go_enter Try.func13, Try.ntmps13
  go_wp2_with fail
  refine (size_neg x _ hx1 hx2).mono ?_
  rintro e w' ⟨rfl, rfl⟩
  go_wp2_with fail
  refine (size_pos y _ hy1 hy2).mono ?_
  rintro e w' ⟨rfl, rfl⟩
  go_wp2_with fail
  go_ret2
  exact ⟨rfl, rfl⟩
theorem prod_tail_npr (x y : Int) (w : World) (hx1 : 1 ≤ x) (hx2 : x ≤ 9223372036854775808) (hy1 : 0 ≤ y) (hy2 : y ≤ 9223372036854775807)
    (a1 : 0 ≤ x / 4294967296 * (y % 4294967296)) (a2 : x / 4294967296 * (y % 4294967296) ≤ 9223372034707292160) (b1 : 0 ≤ x % 4294967296 * (y / 4294967296)) (b2 : x % 4294967296 * (y / 4294967296) ≤ 9223372034707292160) (c1 : 0 ≤ x % 4294967296 * (y % 4294967296)) (c2 : x % 4294967296 * (y % 4294967296) ≤ 18446744065119617025)
    (e1 : 0 < x / 4294967296) (e2 : y / 4294967296 ≤ 0) (e3 : x / 4294967296 * (y % 4294967296) + x % 4294967296 * (y / 4294967296) ≤ 4294967295) (e4 : 18446744073709551615 - (x / 4294967296 * (y % 4294967296) + x % 4294967296 * (y / 4294967296)) * 4294967296 < x % 4294967296 * (y % 4294967296)) :
    Calls Try.prog 13 #[.int .i64 (-x), .int .i64 y] w fun e w' => e = .returned (.tuple #[.int .i64 0, .bool false]) ∧ w = w' := by
  have k0 : decide (0 < x) = true := decide_eq_true (by omega)
  have k1 : decide (y < 0) = false := decide_eq_false (by omega)
  have k2 : decide (0 < x / 4294967296) = true := decide_eq_true (by omega)
  have k3 : decide (0 < y / 4294967296) = false := decide_eq_false (by omega)
  have k4 : decide (4294967295 < x / 4294967296 * (y % 4294967296) + x % 4294967296 * (y / 4294967296)) = false := decide_eq_false (by omega)
  have k5 : decide (18446744073709551615 - (x / 4294967296 * (y % 4294967296) + x % 4294967296 * (y / 4294967296)) * 4294967296 < x % 4294967296 * (y % 4294967296)) = true := decide_eq_true (by omega)
  go_enter Try.func13, Try.ntmps13
  go_wp2_with fail
  refine (size_neg x _ hx1 hx2).mono ?_
  rintro e w' ⟨rfl, rfl⟩
  go_wp2_with fail
  refine (size_pos y _ hy1 hy2).mono ?_
  rintro e w' ⟨rfl, rfl⟩
  go_wp2_with fail
  go_ret2
  exact ⟨rfl, rfl⟩
theorem prod_big_npr (x y : Int) (w : World) (hx1 : 1 ≤ x) (hx2 : x ≤ 9223372036854775808) (hy1 : 0 ≤ y) (hy2 : y ≤ 9223372036854775807)
    (a1 : 0 ≤ x / 4294967296 * (y % 4294967296)) (a2 : x / 4294967296 * (y % 4294967296) ≤ 9223372034707292160) (b1 : 0 ≤ x % 4294967296 * (y / 4294967296)) (b2 : x % 4294967296 * (y / 4294967296) ≤ 9223372034707292160) (c1 : 0 ≤ x % 4294967296 * (y % 4294967296)) (c2 : x % 4294967296 * (y % 4294967296) ≤ 18446744065119617025)
    (e1 : 0 < x / 4294967296) (e2 : y / 4294967296 ≤ 0) (e3 : x / 4294967296 * (y % 4294967296) + x % 4294967296 * (y / 4294967296) ≤ 4294967295) (e4 : x % 4294967296 * (y % 4294967296) ≤ 18446744073709551615 - (x / 4294967296 * (y % 4294967296) + x % 4294967296 * (y / 4294967296)) * 4294967296) (e5 : 9223372036854775808 < x % 4294967296 * (y % 4294967296) + (x / 4294967296 * (y % 4294967296) + x % 4294967296 * (y / 4294967296)) * 4294967296) :
    Calls Try.prog 13 #[.int .i64 (-x), .int .i64 y] w fun e w' => e = .returned (.tuple #[.int .i64 0, .bool false]) ∧ w = w' := by
  have k0 : decide (0 < x) = true := decide_eq_true (by omega)
  have k1 : decide (y < 0) = false := decide_eq_false (by omega)
  have k2 : decide (0 < x / 4294967296) = true := decide_eq_true (by omega)
  have k3 : decide (0 < y / 4294967296) = false := decide_eq_false (by omega)
  have k4 : decide (4294967295 < x / 4294967296 * (y % 4294967296) + x % 4294967296 * (y / 4294967296)) = false := decide_eq_false (by omega)
  have k5 : decide (18446744073709551615 - (x / 4294967296 * (y % 4294967296) + x % 4294967296 * (y / 4294967296)) * 4294967296 < x % 4294967296 * (y % 4294967296)) = false := decide_eq_false (by omega)
  have k6 : decide (9223372036854775808 < x % 4294967296 * (y % 4294967296) + (x / 4294967296 * (y % 4294967296) + x % 4294967296 * (y / 4294967296)) * 4294967296) = true := decide_eq_true (by omega)
  go_enter Try.func13, Try.ntmps13
  go_wp2_with fail
  refine (size_neg x _ hx1 hx2).mono ?_
  rintro e w' ⟨rfl, rfl⟩
  go_wp2_with fail
  refine (size_pos y _ hy1 hy2).mono ?_
  rintro e w' ⟨rfl, rfl⟩
  go_wp2_with fail
  go_ret2
  exact ⟨rfl, rfl⟩
theorem prod_ok_npr (x y : Int) (w : World) (hx1 : 1 ≤ x) (hx2 : x ≤ 9223372036854775808) (hy1 : 0 ≤ y) (hy2 : y ≤ 9223372036854775807)
    (a1 : 0 ≤ x / 4294967296 * (y % 4294967296)) (a2 : x / 4294967296 * (y % 4294967296) ≤ 9223372034707292160) (b1 : 0 ≤ x % 4294967296 * (y / 4294967296)) (b2 : x % 4294967296 * (y / 4294967296) ≤ 9223372034707292160) (c1 : 0 ≤ x % 4294967296 * (y % 4294967296)) (c2 : x % 4294967296 * (y % 4294967296) ≤ 18446744065119617025)
    (e1 : 0 < x / 4294967296) (e2 : y / 4294967296 ≤ 0) (e3 : x / 4294967296 * (y % 4294967296) + x % 4294967296 * (y / 4294967296) ≤ 4294967295) (e4 : x % 4294967296 * (y % 4294967296) ≤ 18446744073709551615 - (x / 4294967296 * (y % 4294967296) + x % 4294967296 * (y / 4294967296)) * 4294967296) (e5 : x % 4294967296 * (y % 4294967296) + (x / 4294967296 * (y % 4294967296) + x % 4294967296 * (y / 4294967296)) * 4294967296 ≤ 9223372036854775808) :
    Calls Try.prog 13 #[.int .i64 (-x), .int .i64 y] w fun e w' => e = .returned (.tuple #[.int .i64 (-(x % 4294967296 * (y % 4294967296) + (x / 4294967296 * (y % 4294967296) + x % 4294967296 * (y / 4294967296)) * 4294967296)), .bool true]) ∧ w = w' := by
  have k0 : decide (0 < x) = true := decide_eq_true (by omega)
  have k1 : decide (y < 0) = false := decide_eq_false (by omega)
  have k2 : decide (0 < x / 4294967296) = true := decide_eq_true (by omega)
  have k3 : decide (0 < y / 4294967296) = false := decide_eq_false (by omega)
  have k4 : decide (4294967295 < x / 4294967296 * (y % 4294967296) + x % 4294967296 * (y / 4294967296)) = false := decide_eq_false (by omega)
  have k5 : decide (18446744073709551615 - (x / 4294967296 * (y % 4294967296) + x % 4294967296 * (y / 4294967296)) * 4294967296 < x % 4294967296 * (y % 4294967296)) = false := decide_eq_false (by omega)
  have k6 : decide (9223372036854775808 < x % 4294967296 * (y % 4294967296) + (x / 4294967296 * (y % 4294967296) + x % 4294967296 * (y / 4294967296)) * 4294967296) = false := decide_eq_false (by omega)
  go_enter Try.func13, Try.ntmps13
  go_wp2_with fail
  refine (size_neg x _ hx1 hx2).mono ?_
  rintro e w' ⟨rfl, rfl⟩
  go_wp2_with fail
  refine (size_pos y _ hy1 hy2).mono ?_
  rintro e w' ⟨rfl, rfl⟩
  go_wp2_with fail
  go_ret2
  exact ⟨res_int (by first | rfl | exact neg_conv _ (by omega) (by omega)), rfl⟩
theorem prod_hi_pn (x y : Int) (w : World) (hx1 : 0 ≤ x) (hx2 : x ≤ 9223372036854775807) (hy1 : 1 ≤ y) (hy2 : y ≤ 9223372036854775808)
    (a1 : 0 ≤ x / 4294967296 * (y % 4294967296)) (a2 : x / 4294967296 * (y % 4294967296) ≤ 9223372034707292160) (b1 : 0 ≤ x % 4294967296 * (y / 4294967296)) (b2 : x % 4294967296 * (y / 4294967296) ≤ 9223372034707292160) (c1 : 0 ≤ x % 4294967296 * (y % 4294967296)) (c2 : x % 4294967296 * (y % 4294967296) ≤ 18446744065119617025)
    (e1 : 0 < x / 4294967296) (e2 : 0 < y / 4294967296) :
    Calls Try.prog 13 #[.int .i64 x, .int .i64 (-y)] w fun e w' => e = .returned (.tuple #[.int .i64 0, .bool false]) ∧ w = w' := by
  have k0 : decide (x < 0) = false := decide_eq_false (by omega)
  have k1 : decide (0 < y) = true := decide_eq_true (by omega)
  have k2 : decide (0 < x / 4294967296) = true := decide_eq_true (by omega)
  have k3 : decide (0 < y / 4294967296) = true := decide_eq_true (by omega)
  go_enter Try.func13, Try.ntmps13
  go_wp2_with fail
  refine (size_pos x _ hx1 hx2).mono ?_
  rintro e w' ⟨rfl, rfl⟩
  go_wp2_with fail
  refine (size_neg y _ hy1 hy2).mono ?_
  rintro e w' ⟨rfl, rfl⟩
  go_wp2_with fail
  go_ret2
  exact ⟨rfl, rfl⟩
theorem prod_mid_pnl (x y : Int) (w : World) (hx1 : 0 ≤ x) (hx2 : x ≤ 9223372036854775807) (hy1 : 1 ≤ y) (hy2 : y ≤ 9223372036854775808)
    (a1 : 0 ≤ x / 4294967296 * (y % 4294967296)) (a2 : x / 4294967296 * (y % 4294967296) ≤ 9223372034707292160) (b1 : 0 ≤ x % 4294967296 * (y / 4294967296)) (b2 : x % 4294967296 * (y / 4294967296) ≤ 9223372034707292160) (c1 : 0 ≤ x % 4294967296 * (y % 4294967296)) (c2 : x % 4294967296 * (y % 4294967296) ≤ 18446744065119617025)
    (e1 : x / 4294967296 ≤ 0) (e3 : 4294967295 < x / 4294967296 * (y % 4294967296) + x % 4294967296 * (y / 4294967296)) :
    Calls Try.prog 13 #[.int .i64 x, .int .i64 (-y)] w fun e w' => e = .returned (.tuple #[.int .i64 0, .bool false]) ∧ w = w' := by
  have k0 : decide (x < 0) = false := decide_eq_false (by omega)
  have k1 : decide (0 < y) = true := decide_eq_true (by omega)
  have k2 : decide (0 < x / 4294967296) = false := decide_eq_false (by omega)
  have k3 : decide (4294967295 < x / 4294967296 * (y % 4294967296) + x % 4294967296 * (y / 4294967296)) = true := decide_eq_true (by omega)
  go_enter Try.func13, Try.ntmps13
  go_wp2_with fail
  refine (size_pos x _ hx1 hx2).mono ?_
  rintro e w' ⟨rfl, rfl⟩
  go_wp2_with fail
  refine (size_neg y _ hy1 hy2).mono ?_
  rintro e w' ⟨rfl, rfl⟩
  go_wp2_with fail
  go_ret2
  exact ⟨rfl, rfl⟩
theorem prod_tail_pnl (x y : Int) (w : World) (hx1 : 0 ≤ x) (hx2 : x ≤ 9223372036854775807) (hy1 : 1 ≤ y) (hy2 : y ≤ 9223372036854775808)
    (a1 : 0 ≤ x / 4294967296 * (y % 4294967296)) (a2 : x / 4294967296 * (y % 4294967296) ≤ 9223372034707292160) (b1 : 0 ≤ x % 4294967296 * (y / 4294967296)) (b2 : x % 4294967296 * (y / 4294967296) ≤ 9223372034707292160) (c1 : 0 ≤ x % 4294967296 * (y % 4294967296)) (c2 : x % 4294967296 * (y % 4294967296) ≤ 18446744065119617025)
    (e1 : x / 4294967296 ≤ 0) (e3 : x / 4294967296 * (y % 4294967296) + x % 4294967296 * (y / 4294967296) ≤ 4294967295) (e4 : 18446744073709551615 - (x / 4294967296 * (y % 4294967296) + x % 4294967296 * (y / 4294967296)) * 4294967296 < x % 4294967296 * (y % 4294967296)) :
    Calls Try.prog 13 #[.int .i64 x, .int .i64 (-y)] w fun e w' => e = .returned (.tuple #[.int .i64 0, .bool false]) ∧ w = w' := by
  have k0 : decide (x < 0) = false := decide_eq_false (by omega)
  have k1 : decide (0 < y) = true := decide_eq_true (by omega)
  have k2 : decide (0 < x / 4294967296) = false := decide_eq_false (by omega)
  have k3 : decide (4294967295 < x / 4294967296 * (y % 4294967296) + x % 4294967296 * (y / 4294967296)) = false := decide_eq_false (by omega)
  have k4 : decide (18446744073709551615 - (x / 4294967296 * (y % 4294967296) + x % 4294967296 * (y / 4294967296)) * 4294967296 < x % 4294967296 * (y % 4294967296)) = true := decide_eq_true (by omega)
  go_enter Try.func13, Try.ntmps13
  go_wp2_with fail
  refine (size_pos x _ hx1 hx2).mono ?_
  rintro e w' ⟨rfl, rfl⟩
  go_wp2_with fail
  refine (size_neg y _ hy1 hy2).mono ?_
  rintro e w' ⟨rfl, rfl⟩
  go_wp2_with fail
  go_ret2
  exact ⟨rfl, rfl⟩
theorem prod_big_pnl (x y : Int) (w : World) (hx1 : 0 ≤ x) (hx2 : x ≤ 9223372036854775807) (hy1 : 1 ≤ y) (hy2 : y ≤ 9223372036854775808)
    (a1 : 0 ≤ x / 4294967296 * (y % 4294967296)) (a2 : x / 4294967296 * (y % 4294967296) ≤ 9223372034707292160) (b1 : 0 ≤ x % 4294967296 * (y / 4294967296)) (b2 : x % 4294967296 * (y / 4294967296) ≤ 9223372034707292160) (c1 : 0 ≤ x % 4294967296 * (y % 4294967296)) (c2 : x % 4294967296 * (y % 4294967296) ≤ 18446744065119617025)
    (e1 : x / 4294967296 ≤ 0) (e3 : x / 4294967296 * (y % 4294967296) + x % 4294967296 * (y / 4294967296) ≤ 4294967295) (e4 : x % 4294967296 * (y % 4294967296) ≤ 18446744073709551615 - (x / 4294967296 * (y % 4294967296) + x % 4294967296 * (y / 4294967296)) * 4294967296) (e5 : 9223372036854775808 < x % 4294967296 * (y % 4294967296) + (x / 4294967296 * (y % 4294967296) + x % 4294967296 * (y / 4294967296)) * 4294967296) :
    Calls Try.prog 13 #[.int .i64 x, .int .i64 (-y)] w fun e w' => e = .returned (.tuple #[.int .i64 0, .bool false]) ∧ w = w' := by
  have k0 : decide (x < 0) = false := decide_eq_false (by omega)
  have k1 : decide (0 < y) = true := decide_eq_true (by omega)
  have k2 : decide (0 < x / 4294967296) = false := decide_eq_false (by omega)
  have k3 : decide (4294967295 < x / 4294967296 * (y % 4294967296) + x % 4294967296 * (y / 4294967296)) = false := decide_eq_false (by omega)
  have k4 : decide (18446744073709551615 - (x / 4294967296 * (y % 4294967296) + x % 4294967296 * (y / 4294967296)) * 4294967296 < x % 4294967296 * (y % 4294967296)) = false := decide_eq_false (by omega)
  have k5 : decide (9223372036854775808 < x % 4294967296 * (y % 4294967296) + (x / 4294967296 * (y % 4294967296) + x % 4294967296 * (y / 4294967296)) * 4294967296) = true := decide_eq_true (by omega)
  go_enter Try.func13, Try.ntmps13
  go_wp2_with fail
  refine (size_pos x _ hx1 hx2).mono ?_
  rintro e w' ⟨rfl, rfl⟩
  go_wp2_with fail
  refine (size_neg y _ hy1 hy2).mono ?_
  rintro e w' ⟨rfl, rfl⟩
  go_wp2_with fail
  go_ret2
  exact ⟨rfl, rfl⟩
theorem prod_ok_pnl (x y : Int) (w : World) (hx1 : 0 ≤ x) (hx2 : x ≤ 9223372036854775807) (hy1 : 1 ≤ y) (hy2 : y ≤ 9223372036854775808)
    (a1 : 0 ≤ x / 4294967296 * (y % 4294967296)) (a2 : x / 4294967296 * (y % 4294967296) ≤ 9223372034707292160) (b1 : 0 ≤ x % 4294967296 * (y / 4294967296)) (b2 : x % 4294967296 * (y / 4294967296) ≤ 9223372034707292160) (c1 : 0 ≤ x % 4294967296 * (y % 4294967296)) (c2 : x % 4294967296 * (y % 4294967296) ≤ 18446744065119617025)
    (e1 : x / 4294967296 ≤ 0) (e3 : x / 4294967296 * (y % 4294967296) + x % 4294967296 * (y / 4294967296) ≤ 4294967295) (e4 : x % 4294967296 * (y % 4294967296) ≤ 18446744073709551615 - (x / 4294967296 * (y % 4294967296) + x % 4294967296 * (y / 4294967296)) * 4294967296) (e5 : x % 4294967296 * (y % 4294967296) + (x / 4294967296 * (y % 4294967296) + x % 4294967296 * (y / 4294967296)) * 4294967296 ≤ 9223372036854775808) :
    Calls Try.prog 13 #[.int .i64 x, .int .i64 (-y)] w fun e w' => e = .returned (.tuple #[.int .i64 (-(x % 4294967296 * (y % 4294967296) + (x / 4294967296 * (y % 4294967296) + x % 4294967296 * (y / 4294967296)) * 4294967296)), .bool true]) ∧ w = w' := by
  have k0 : decide (x < 0) = false := decide_eq_false (by omega)
  have k1 : decide (0 < y) = true := decide_eq_true (by omega)
  have k2 : decide (0 < x / 4294967296) = false := decide_eq_false (by omega)
  have k3 : decide (4294967295 < x / 4294967296 * (y % 4294967296) + x % 4294967296 * (y / 4294967296)) = false := decide_eq_false (by omega)
  have k4 : decide (18446744073709551615 - (x / 4294967296 * (y % 4294967296) + x % 4294967296 * (y / 4294967296)) * 4294967296 < x % 4294967296 * (y % 4294967296)) = false := decide_eq_false (by omega)
  have k5 : decide (9223372036854775808 < x % 4294967296 * (y % 4294967296) + (x / 4294967296 * (y % 4294967296) + x % 4294967296 * (y / 4294967296)) * 4294967296) = false := decide_eq_false (by omega)
  go_enter Try.func13, Try.ntmps13
  go_wp2_with fail
  refine (size_pos x _ hx1 hx2).mono ?_
  rintro e w' ⟨rfl, rfl⟩
  go_wp2_with fail
  refine (size_neg y _ hy1 hy2).mono ?_
  rintro e w' ⟨rfl, rfl⟩
  go_wp2_with fail
  go_ret2
  exact ⟨res_int (by first | rfl | exact neg_conv _ (by omega) (by omega)), rfl⟩
theorem prod_mid_pnr (x y : Int) (w : World) (hx1 : 0 ≤ x) (hx2 : x ≤ 9223372036854775807) (hy1 : 1 ≤ y) (hy2 : y ≤ 9223372036854775808)
    (a1 : 0 ≤ x / 4294967296 * (y % 4294967296)) (a2 : x / 4294967296 * (y % 4294967296) ≤ 9223372034707292160) (b1 : 0 ≤ x % 4294967296 * (y / 4294967296)) (b2 : x % 4294967296 * (y / 4294967296) ≤ 9223372034707292160) (c1 : 0 ≤ x % 4294967296 * (y % 4294967296)) (c2 : x % 4294967296 * (y % 4294967296) ≤ 18446744065119617025)
    (e1 : 0 < x / 4294967296) (e2 : y / 4294967296 ≤ 0) (e3 : 4294967295 < x / 4294967296 * (y % 4294967296) + x % 4294967296 * (y / 4294967296)) :
    Calls Try.prog 13 #[.int .i64 x, .int .i64 (-y)] w fun e w' => e = .returned (.tuple #[.int .i64 0, .bool false]) ∧ w = w' := by
  have k0 : decide (x < 0) = false := decide_eq_false (by omega)
  have k1 : decide (0 < y) = true := decide_eq_true (by omega)
  have k2 : decide (0 < x / 4294967296) = true := decide_eq_true (by omega)
  have k3 : decide (0 < y / 4294967296) = false := decide_eq_false (by omega)
  have k4 : decide (4294967295 < x / 4294967296 * (y % 4294967296) + x % 4294967296 * (y / 4294967296)) = true := decide_eq_true (by omega)
  go_enter Try.func13, Try.ntmps13
  go_wp2_with fail
  refine (size_pos x _ hx1 hx2).mono ?_
  rintro e w' ⟨rfl, rfl⟩
  go_wp2_with fail
  refine (size_neg y _ hy1 hy2).mono ?_
  rintro e w' ⟨rfl, rfl⟩
  go_wp2_with fail
  go_ret2
  exact ⟨rfl, rfl⟩
theorem prod_tail_pnr (x y : Int) (w : World) (hx1 : 0 ≤ x) (hx2 : x ≤ 9223372036854775807) (hy1 : 1 ≤ y) (hy2 : y ≤ 9223372036854775808)
    (a1 : 0 ≤ x / 4294967296 * (y % 4294967296)) (a2 : x / 4294967296 * (y % 4294967296) ≤ 9223372034707292160) (b1 : 0 ≤ x % 4294967296 * (y / 4294967296)) (b2 : x % 4294967296 * (y / 4294967296) ≤ 9223372034707292160) (c1 : 0 ≤ x % 4294967296 * (y % 4294967296)) (c2 : x % 4294967296 * (y % 4294967296) ≤ 18446744065119617025)
    (e1 : 0 < x / 4294967296) (e2 : y / 4294967296 ≤ 0) (e3 : x / 4294967296 * (y % 4294967296) + x % 4294967296 * (y / 4294967296) ≤ 4294967295) (e4 : 18446744073709551615 - (x / 4294967296 * (y % 4294967296) + x % 4294967296 * (y / 4294967296)) * 4294967296 < x % 4294967296 * (y % 4294967296)) :
    Calls Try.prog 13 #[.int .i64 x, .int .i64 (-y)] w fun e w' => e = .returned (.tuple #[.int .i64 0, .bool false]) ∧ w = w' := by
  have k0 : decide (x < 0) = false := decide_eq_false (by omega)
  have k1 : decide (0 < y) = true := decide_eq_true (by omega)
  have k2 : decide (0 < x / 4294967296) = true := decide_eq_true (by omega)
  have k3 : decide (0 < y / 4294967296) = false := decide_eq_false (by omega)
  have k4 : decide (4294967295 < x / 4294967296 * (y % 4294967296) + x % 4294967296 * (y / 4294967296)) = false := decide_eq_false (by omega)
  have k5 : decide (18446744073709551615 - (x / 4294967296 * (y % 4294967296) + x % 4294967296 * (y / 4294967296)) * 4294967296 < x % 4294967296 * (y % 4294967296)) = true := decide_eq_true (by omega)
  go_enter Try.func13, Try.ntmps13
  go_wp2_with fail
  refine (size_pos x _ hx1 hx2).mono ?_
  rintro e w' ⟨rfl, rfl⟩
  go_wp2_with fail
  refine (size_neg y _ hy1 hy2).mono ?_
  rintro e w' ⟨rfl, rfl⟩
  go_wp2_with fail
  go_ret2
  exact ⟨rfl, rfl⟩
theorem prod_big_pnr (x y : Int) (w : World) (hx1 : 0 ≤ x) (hx2 : x ≤ 9223372036854775807) (hy1 : 1 ≤ y) (hy2 : y ≤ 9223372036854775808)
    (a1 : 0 ≤ x / 4294967296 * (y % 4294967296)) (a2 : x / 4294967296 * (y % 4294967296) ≤ 9223372034707292160) (b1 : 0 ≤ x % 4294967296 * (y / 4294967296)) (b2 : x % 4294967296 * (y / 4294967296) ≤ 9223372034707292160) (c1 : 0 ≤ x % 4294967296 * (y % 4294967296)) (c2 : x % 4294967296 * (y % 4294967296) ≤ 18446744065119617025)
    (e1 : 0 < x / 4294967296) (e2 : y / 4294967296 ≤ 0) (e3 : x / 4294967296 * (y % 4294967296) + x % 4294967296 * (y / 4294967296) ≤ 4294967295) (e4 : x % 4294967296 * (y % 4294967296) ≤ 18446744073709551615 - (x / 4294967296 * (y % 4294967296) + x % 4294967296 * (y / 4294967296)) * 4294967296) (e5 : 9223372036854775808 < x % 4294967296 * (y % 4294967296) + (x / 4294967296 * (y % 4294967296) + x % 4294967296 * (y / 4294967296)) * 4294967296) :
    Calls Try.prog 13 #[.int .i64 x, .int .i64 (-y)] w fun e w' => e = .returned (.tuple #[.int .i64 0, .bool false]) ∧ w = w' := by
  have k0 : decide (x < 0) = false := decide_eq_false (by omega)
  have k1 : decide (0 < y) = true := decide_eq_true (by omega)
  have k2 : decide (0 < x / 4294967296) = true := decide_eq_true (by omega)
  have k3 : decide (0 < y / 4294967296) = false := decide_eq_false (by omega)
  have k4 : decide (4294967295 < x / 4294967296 * (y % 4294967296) + x % 4294967296 * (y / 4294967296)) = false := decide_eq_false (by omega)
  have k5 : decide (18446744073709551615 - (x / 4294967296 * (y % 4294967296) + x % 4294967296 * (y / 4294967296)) * 4294967296 < x % 4294967296 * (y % 4294967296)) = false := decide_eq_false (by omega)
  have k6 : decide (9223372036854775808 < x % 4294967296 * (y % 4294967296) + (x / 4294967296 * (y % 4294967296) + x % 4294967296 * (y / 4294967296)) * 4294967296) = true := decide_eq_true (by omega)
  go_enter Try.func13, Try.ntmps13
  go_wp2_with fail
  refine (size_pos x _ hx1 hx2).mono ?_
  rintro e w' ⟨rfl, rfl⟩
  go_wp2_with fail
  refine (size_neg y _ hy1 hy2).mono ?_
  rintro e w' ⟨rfl, rfl⟩
  go_wp2_with fail
  go_ret2
  exact ⟨rfl, rfl⟩
theorem prod_ok_pnr (x y : Int) (w : World) (hx1 : 0 ≤ x) (hx2 : x ≤ 9223372036854775807) (hy1 : 1 ≤ y) (hy2 : y ≤ 9223372036854775808)
    (a1 : 0 ≤ x / 4294967296 * (y % 4294967296)) (a2 : x / 4294967296 * (y % 4294967296) ≤ 9223372034707292160) (b1 : 0 ≤ x % 4294967296 * (y / 4294967296)) (b2 : x % 4294967296 * (y / 4294967296) ≤ 9223372034707292160) (c1 : 0 ≤ x % 4294967296 * (y % 4294967296)) (c2 : x % 4294967296 * (y % 4294967296) ≤ 18446744065119617025)
    (e1 : 0 < x / 4294967296) (e2 : y / 4294967296 ≤ 0) (e3 : x / 4294967296 * (y % 4294967296) + x % 4294967296 * (y / 4294967296) ≤ 4294967295) (e4 : x % 4294967296 * (y % 4294967296) ≤ 18446744073709551615 - (x / 4294967296 * (y % 4294967296) + x % 4294967296 * (y / 4294967296)) * 4294967296) (e5 : x % 4294967296 * (y % 4294967296) + (x / 4294967296 * (y % 4294967296) + x % 4294967296 * (y / 4294967296)) * 4294967296 ≤ 9223372036854775808) :
    Calls Try.prog 13 #[.int .i64 x, .int .i64 (-y)] w fun e w' => e = .returned (.tuple #[.int .i64 (-(x % 4294967296 * (y % 4294967296) + (x / 4294967296 * (y % 4294967296) + x % 4294967296 * (y / 4294967296)) * 4294967296)), .bool true]) ∧ w = w' := by
  have k0 : decide (x < 0) = false := decide_eq_false (by omega)
  have k1 : decide (0 < y) = true := decide_eq_true (by omega)
  have k2 : decide (0 < x / 4294967296) = true := decide_eq_true (by omega)
  have k3 : decide (0 < y / 4294967296) = false := decide_eq_false (by omega)
  have k4 : decide (4294967295 < x / 4294967296 * (y % 4294967296) + x % 4294967296 * (y / 4294967296)) = false := decide_eq_false (by omega)
  have k5 : decide (18446744073709551615 - (x / 4294967296 * (y % 4294967296) + x % 4294967296 * (y / 4294967296)) * 4294967296 < x % 4294967296 * (y % 4294967296)) = false := decide_eq_false (by omega)
  have k6 : decide (9223372036854775808 < x % 4294967296 * (y % 4294967296) + (x / 4294967296 * (y % 4294967296) + x % 4294967296 * (y / 4294967296)) * 4294967296) = false := decide_eq_false (by omega)
  go_enter Try.func13, Try.ntmps13
  go_wp2_with fail
  refine (size_pos x _ hx1 hx2).mono ?_
  rintro e w' ⟨rfl, rfl⟩
  go_wp2_with fail
  refine (size_neg y _ hy1 hy2).mono ?_
  rintro e w' ⟨rfl, rfl⟩
  go_wp2_with fail
  go_ret2
  exact ⟨res_int (by first | rfl | exact neg_conv _ (by omega) (by omega)), rfl⟩
theorem prod_hi_nn (x y : Int) (w : World) (hx1 : 1 ≤ x) (hx2 : x ≤ 9223372036854775808) (hy1 : 1 ≤ y) (hy2 : y ≤ 9223372036854775808)
    (a1 : 0 ≤ x / 4294967296 * (y % 4294967296)) (a2 : x / 4294967296 * (y % 4294967296) ≤ 9223372034707292160) (b1 : 0 ≤ x % 4294967296 * (y / 4294967296)) (b2 : x % 4294967296 * (y / 4294967296) ≤ 9223372034707292160) (c1 : 0 ≤ x % 4294967296 * (y % 4294967296)) (c2 : x % 4294967296 * (y % 4294967296) ≤ 18446744065119617025)
    (e1 : 0 < x / 4294967296) (e2 : 0 < y / 4294967296) :
    Calls Try.prog 13 #[.int .i64 (-x), .int .i64 (-y)] w fun e w' => e = .returned (.tuple #[.int .i64 0, .bool false]) ∧ w = w' := by
  have k0 : decide (0 < x) = true := decide_eq_true (by omega)
  have k1 : decide (0 < y) = true := decide_eq_true (by omega)
  have k2 : decide (0 < x / 4294967296) = true := decide_eq_true (by omega)
  have k3 : decide (0 < y / 4294967296) = true := decide_eq_true (by omega)
  go_enter Try.func13, Try.ntmps13
  go_wp2_with fail
  refine (size_neg x _ hx1 hx2).mono ?_
  rintro e w' ⟨rfl, rfl⟩
  go_wp2_with fail
  refine (size_neg y _ hy1 hy2).mono ?_
  rintro e w' ⟨rfl, rfl⟩
  go_wp2_with fail
  go_ret2
  exact ⟨rfl, rfl⟩
theorem prod_mid_nnl (x y : Int) (w : World) (hx1 : 1 ≤ x) (hx2 : x ≤ 9223372036854775808) (hy1 : 1 ≤ y) (hy2 : y ≤ 9223372036854775808)
    (a1 : 0 ≤ x / 4294967296 * (y % 4294967296)) (a2 : x / 4294967296 * (y % 4294967296) ≤ 9223372034707292160) (b1 : 0 ≤ x % 4294967296 * (y / 4294967296)) (b2 : x % 4294967296 * (y / 4294967296) ≤ 9223372034707292160) (c1 : 0 ≤ x % 4294967296 * (y % 4294967296)) (c2 : x % 4294967296 * (y % 4294967296) ≤ 18446744065119617025)
    (e1 : x / 4294967296 ≤ 0) (e3 : 4294967295 < x / 4294967296 * (y % 4294967296) + x % 4294967296 * (y / 4294967296)) :
    Calls Try.prog 13 #[.int .i64 (-x), .int .i64 (-y)] w fun e w' => e = .returned (.tuple #[.int .i64 0, .bool false]) ∧ w = w' := by
  have k0 : decide (0 < x) = true := decide_eq_true (by omega)
  have k1 : decide (0 < y) = true := decide_eq_true (by omega)
  have k2 : decide (0 < x / 4294967296) = false := decide_eq_false (by omega)
  have k3 : decide (4294967295 < x / 4294967296 * (y % 4294967296) + x % 4294967296 * (y / 4294967296)) = true := decide_eq_true (by omega)
  go_enter Try.func13, Try.ntmps13
  go_wp2_with fail
  refine (size_neg x _ hx1 hx2).mono ?_
  rintro e w' ⟨rfl, rfl⟩
  go_wp2_with fail
  refine (size_neg y _ hy1 hy2).mono ?_
  rintro e w' ⟨rfl, rfl⟩
  go_wp2_with fail
  go_ret2
  exact ⟨rfl, rfl⟩
theorem prod_tail_nnl (x y : Int) (w : World) (hx1 : 1 ≤ x) (hx2 : x ≤ 9223372036854775808) (hy1 : 1 ≤ y) (hy2 : y ≤ 9223372036854775808)
    (a1 : 0 ≤ x / 4294967296 * (y % 4294967296)) (a2 : x / 4294967296 * (y % 4294967296) ≤ 9223372034707292160) (b1 : 0 ≤ x % 4294967296 * (y / 4294967296)) (b2 : x % 4294967296 * (y / 4294967296) ≤ 9223372034707292160) (c1 : 0 ≤ x % 4294967296 * (y % 4294967296)) (c2 : x % 4294967296 * (y % 4294967296) ≤ 18446744065119617025)
    (e1 : x / 4294967296 ≤ 0) (e3 : x / 4294967296 * (y % 4294967296) + x % 4294967296 * (y / 4294967296) ≤ 4294967295) (e4 : 18446744073709551615 - (x / 4294967296 * (y % 4294967296) + x % 4294967296 * (y / 4294967296)) * 4294967296 < x % 4294967296 * (y % 4294967296)) :
    Calls Try.prog 13 #[.int .i64 (-x), .int .i64 (-y)] w fun e w' => e = .returned (.tuple #[.int .i64 0, .bool false]) ∧ w = w' := by
  have k0 : decide (0 < x) = true := decide_eq_true (by omega)
  have k1 : decide (0 < y) = true := decide_eq_true (by omega)
  have k2 : decide (0 < x / 4294967296) = false := decide_eq_false (by omega)
  have k3 : decide (4294967295 < x / 4294967296 * (y % 4294967296) + x % 4294967296 * (y / 4294967296)) = false := decide_eq_false (by omega)
  have k4 : decide (18446744073709551615 - (x / 4294967296 * (y % 4294967296) + x % 4294967296 * (y / 4294967296)) * 4294967296 < x % 4294967296 * (y % 4294967296)) = true := decide_eq_true (by omega)
  go_enter Try.func13, Try.ntmps13
  go_wp2_with fail
  refine (size_neg x _ hx1 hx2).mono ?_
  rintro e w' ⟨rfl, rfl⟩
  go_wp2_with fail
  refine (size_neg y _ hy1 hy2).mono ?_
  rintro e w' ⟨rfl, rfl⟩
  go_wp2_with fail
  go_ret2
  exact ⟨rfl, rfl⟩
theorem prod_big_nnl (x y : Int) (w : World) (hx1 : 1 ≤ x) (hx2 : x ≤ 9223372036854775808) (hy1 : 1 ≤ y) (hy2 : y ≤ 9223372036854775808)
    (a1 : 0 ≤ x / 4294967296 * (y % 4294967296)) (a2 : x / 4294967296 * (y % 4294967296) ≤ 9223372034707292160) (b1 : 0 ≤ x % 4294967296 * (y / 4294967296)) (b2 : x % 4294967296 * (y / 4294967296) ≤ 9223372034707292160) (c1 : 0 ≤ x % 4294967296 * (y % 4294967296)) (c2 : x % 4294967296 * (y % 4294967296) ≤ 18446744065119617025)
    (e1 : x / 4294967296 ≤ 0) (e3 : x / 4294967296 * (y % 4294967296) + x % 4294967296 * (y / 4294967296) ≤ 4294967295) (e4 : x % 4294967296 * (y % 4294967296) ≤ 18446744073709551615 - (x / 4294967296 * (y % 4294967296) + x % 4294967296 * (y / 4294967296)) * 4294967296) (e5 : 9223372036854775807 < x % 4294967296 * (y % 4294967296) + (x / 4294967296 * (y % 4294967296) + x % 4294967296 * (y / 4294967296)) * 4294967296) :
    Calls Try.prog 13 #[.int .i64 (-x), .int .i64 (-y)] w fun e w' => e = .returned (.tuple #[.int .i64 0, .bool false]) ∧ w = w' := by
  have k0 : decide (0 < x) = true := decide_eq_true (by omega)
  have k1 : decide (0 < y) = true := decide_eq_true (by omega)
  have k2 : decide (0 < x / 4294967296) = false := decide_eq_false (by omega)
  have k3 : decide (4294967295 < x / 4294967296 * (y % 4294967296) + x % 4294967296 * (y / 4294967296)) = false := decide_eq_false (by omega)
  have k4 : decide (18446744073709551615 - (x / 4294967296 * (y % 4294967296) + x % 4294967296 * (y / 4294967296)) * 4294967296 < x % 4294967296 * (y % 4294967296)) = false := decide_eq_false (by omega)
  have k5 : decide (9223372036854775807 < x % 4294967296 * (y % 4294967296) + (x / 4294967296 * (y % 4294967296) + x % 4294967296 * (y / 4294967296)) * 4294967296) = true := decide_eq_true (by omega)
  go_enter Try.func13, Try.ntmps13
  go_wp2_with fail
  refine (size_neg x _ hx1 hx2).mono ?_
  rintro e w' ⟨rfl, rfl⟩
  go_wp2_with fail
  refine (size_neg y _ hy1 hy2).mono ?_
  rintro e w' ⟨rfl, rfl⟩
  go_wp2_with fail
  go_ret2
  exact ⟨rfl, rfl⟩
theorem prod_ok_nnl (x y : Int) (w : World) (hx1 : 1 ≤ x) (hx2 : x ≤ 9223372036854775808) (hy1 : 1 ≤ y) (hy2 : y ≤ 9223372036854775808)
    (a1 : 0 ≤ x / 4294967296 * (y % 4294967296)) (a2 : x / 4294967296 * (y % 4294967296) ≤ 9223372034707292160) (b1 : 0 ≤ x % 4294967296 * (y / 4294967296)) (b2 : x % 4294967296 * (y / 4294967296) ≤ 9223372034707292160) (c1 : 0 ≤ x % 4294967296 * (y % 4294967296)) (c2 : x % 4294967296 * (y % 4294967296) ≤ 18446744065119617025)
    (e1 : x / 4294967296 ≤ 0) (e3 : x / 4294967296 * (y % 4294967296) + x % 4294967296 * (y / 4294967296) ≤ 4294967295) (e4 : x % 4294967296 * (y % 4294967296) ≤ 18446744073709551615 - (x / 4294967296 * (y % 4294967296) + x % 4294967296 * (y / 4294967296)) * 4294967296) (e5 : x % 4294967296 * (y % 4294967296) + (x / 4294967296 * (y % 4294967296) + x % 4294967296 * (y / 4294967296)) * 4294967296 ≤ 9223372036854775807) :
    Calls Try.prog 13 #[.int .i64 (-x), .int .i64 (-y)] w fun e w' => e = .returned (.tuple #[.int .i64 (x % 4294967296 * (y % 4294967296) + (x / 4294967296 * (y % 4294967296) + x % 4294967296 * (y / 4294967296)) * 4294967296), .bool true]) ∧ w = w' := by
  have k0 : decide (0 < x) = true := decide_eq_true (by omega)
  have k1 : decide (0 < y) = true := decide_eq_true (by omega)
  have k2 : decide (0 < x / 4294967296) = false := decide_eq_false (by omega)
  have k3 : decide (4294967295 < x / 4294967296 * (y % 4294967296) + x % 4294967296 * (y / 4294967296)) = false := decide_eq_false (by omega)
  have k4 : decide (18446744073709551615 - (x / 4294967296 * (y % 4294967296) + x % 4294967296 * (y / 4294967296)) * 4294967296 < x % 4294967296 * (y % 4294967296)) = false := decide_eq_false (by omega)
  have k5 : decide (9223372036854775807 < x % 4294967296 * (y % 4294967296) + (x / 4294967296 * (y % 4294967296) + x % 4294967296 * (y / 4294967296)) * 4294967296) = false := decide_eq_false (by omega)
  go_enter Try.func13, Try.ntmps13
  go_wp2_with fail
  refine (size_neg x _ hx1 hx2).mono ?_
  rintro e w' ⟨rfl, rfl⟩
  go_wp2_with fail
  refine (size_neg y _ hy1 hy2).mono ?_
  rintro e w' ⟨rfl, rfl⟩
  go_wp2_with fail
  go_ret2
  exact ⟨res_int (by first | rfl | omega), rfl⟩
theorem prod_mid_nnr (x y : Int) (w : World) (hx1 : 1 ≤ x) (hx2 : x ≤ 9223372036854775808) (hy1 : 1 ≤ y) (hy2 : y ≤ 9223372036854775808)
    (a1 : 0 ≤ x / 4294967296 * (y % 4294967296)) (a2 : x / 4294967296 * (y % 4294967296) ≤ 9223372034707292160) (b1 : 0 ≤ x % 4294967296 * (y / 4294967296)) (b2 : x % 4294967296 * (y / 4294967296) ≤ 9223372034707292160) (c1 : 0 ≤ x % 4294967296 * (y % 4294967296)) (c2 : x % 4294967296 * (y % 4294967296) ≤ 18446744065119617025)
    (e1 : 0 < x / 4294967296) (e2 : y / 4294967296 ≤ 0) (e3 : 4294967295 < x / 4294967296 * (y % 4294967296) + x % 4294967296 * (y / 4294967296)) :
    Calls Try.prog 13 #[.int .i64 (-x), .int .i64 (-y)] w fun e w' => e = .returned (.tuple #[.int .i64 0, .bool false]) ∧ w = w' := by
  have k0 : decide (0 < x) = true := decide_eq_true (by omega)
  have k1 : decide (0 < y) = true := decide_eq_true (by omega)
  have k2 : decide (0 < x / 4294967296) = true := decide_eq_true (by omega)
  have k3 : decide (0 < y / 4294967296) = false := decide_eq_false (by omega)
  have k4 : decide (4294967295 < x / 4294967296 * (y % 4294967296) + x % 4294967296 * (y / 4294967296)) = true := decide_eq_true (by omega)
  go_enter Try.func13, Try.ntmps13
  go_wp2_with fail
  refine (size_neg x _ hx1 hx2).mono ?_
  rintro e w' ⟨rfl, rfl⟩
  go_wp2_with fail
  refine (size_neg y _ hy1 hy2).mono ?_
  rintro e w' ⟨rfl, rfl⟩
  go_wp2_with fail
  go_ret2
  exact ⟨rfl, rfl⟩
theorem prod_tail_nnr (x y : Int) (w : World) (hx1 : 1 ≤ x) (hx2 : x ≤ 9223372036854775808) (hy1 : 1 ≤ y) (hy2 : y ≤ 9223372036854775808)
    (a1 : 0 ≤ x / 4294967296 * (y % 4294967296)) (a2 : x / 4294967296 * (y % 4294967296) ≤ 9223372034707292160) (b1 : 0 ≤ x % 4294967296 * (y / 4294967296)) (b2 : x % 4294967296 * (y / 4294967296) ≤ 9223372034707292160) (c1 : 0 ≤ x % 4294967296 * (y % 4294967296)) (c2 : x % 4294967296 * (y % 4294967296) ≤ 18446744065119617025)
    (e1 : 0 < x / 4294967296) (e2 : y / 4294967296 ≤ 0) (e3 : x / 4294967296 * (y % 4294967296) + x % 4294967296 * (y / 4294967296) ≤ 4294967295) (e4 : 18446744073709551615 - (x / 4294967296 * (y % 4294967296) + x % 4294967296 * (y / 4294967296)) * 4294967296 < x % 4294967296 * (y % 4294967296)) :
    Calls Try.prog 13 #[.int .i64 (-x), .int .i64 (-y)] w fun e w' => e = .returned (.tuple #[.int .i64 0, .bool false]) ∧ w = w' := by
  have k0 : decide (0 < x) = true := decide_eq_true (by omega)
  have k1 : decide (0 < y) = true := decide_eq_true (by omega)
  have k2 : decide (0 < x / 4294967296) = true := decide_eq_true (by omega)
  have k3 : decide (0 < y / 4294967296) = false := decide_eq_false (by omega)
  have k4 : decide (4294967295 < x / 4294967296 * (y % 4294967296) + x % 4294967296 * (y / 4294967296)) = false := decide_eq_false (by omega)
  have k5 : decide (18446744073709551615 - (x / 4294967296 * (y % 4294967296) + x % 4294967296 * (y / 4294967296)) * 4294967296 < x % 4294967296 * (y % 4294967296)) = true := decide_eq_true (by omega)
  go_enter Try.func13, Try.ntmps13
  go_wp2_with fail
  refine (size_neg x _ hx1 hx2).mono ?_
  rintro e w' ⟨rfl, rfl⟩
  go_wp2_with fail
  refine (size_neg y _ hy1 hy2).mono ?_
  rintro e w' ⟨rfl, rfl⟩
  go_wp2_with fail
  go_ret2
  exact ⟨rfl, rfl⟩
theorem prod_big_nnr (x y : Int) (w : World) (hx1 : 1 ≤ x) (hx2 : x ≤ 9223372036854775808) (hy1 : 1 ≤ y) (hy2 : y ≤ 9223372036854775808)
    (a1 : 0 ≤ x / 4294967296 * (y % 4294967296)) (a2 : x / 4294967296 * (y % 4294967296) ≤ 9223372034707292160) (b1 : 0 ≤ x % 4294967296 * (y / 4294967296)) (b2 : x % 4294967296 * (y / 4294967296) ≤ 9223372034707292160) (c1 : 0 ≤ x % 4294967296 * (y % 4294967296)) (c2 : x % 4294967296 * (y % 4294967296) ≤ 18446744065119617025)
    (e1 : 0 < x / 4294967296) (e2 : y / 4294967296 ≤ 0) (e3 : x / 4294967296 * (y % 4294967296) + x % 4294967296 * (y / 4294967296) ≤ 4294967295) (e4 : x % 4294967296 * (y % 4294967296) ≤ 18446744073709551615 - (x / 4294967296 * (y % 4294967296) + x % 4294967296 * (y / 4294967296)) * 4294967296) (e5 : 9223372036854775807 < x % 4294967296 * (y % 4294967296) + (x / 4294967296 * (y % 4294967296) + x % 4294967296 * (y / 4294967296)) * 4294967296) :
    Calls Try.prog 13 #[.int .i64 (-x), .int .i64 (-y)] w fun e w' => e = .returned (.tuple #[.int .i64 0, .bool false]) ∧ w = w' := by
  have k0 : decide (0 < x) = true := decide_eq_true (by omega)
  have k1 : decide (0 < y) = true := decide_eq_true (by omega)
  have k2 : decide (0 < x / 4294967296) = true := decide_eq_true (by omega)
  have k3 : decide (0 < y / 4294967296) = false := decide_eq_false (by omega)
  have k4 : decide (4294967295 < x / 4294967296 * (y % 4294967296) + x % 4294967296 * (y / 4294967296)) = false := decide_eq_false (by omega)
  have k5 : decide (18446744073709551615 - (x / 4294967296 * (y % 4294967296) + x % 4294967296 * (y / 4294967296)) * 4294967296 < x % 4294967296 * (y % 4294967296)) = false := decide_eq_false (by omega)
  have k6 : decide (9223372036854775807 < x % 4294967296 * (y % 4294967296) + (x / 4294967296 * (y % 4294967296) + x % 4294967296 * (y / 4294967296)) * 4294967296) = true := decide_eq_true (by omega)
  go_enter Try.func13, Try.ntmps13
  go_wp2_with fail
  refine (size_neg x _ hx1 hx2).mono ?_
  rintro e w' ⟨rfl, rfl⟩
  go_wp2_with fail
  refine (size_neg y _ hy1 hy2).mono ?_
  rintro e w' ⟨rfl, rfl⟩
  go_wp2_with fail
  go_ret2
  exact ⟨rfl, rfl⟩
theorem prod_ok_nnr (x y : Int) (w : World) (hx1 : 1 ≤ x) (hx2 : x ≤ 9223372036854775808) (hy1 : 1 ≤ y) (hy2 : y ≤ 9223372036854775808)
    (a1 : 0 ≤ x / 4294967296 * (y % 4294967296)) (a2 : x / 4294967296 * (y % 4294967296) ≤ 9223372034707292160) (b1 : 0 ≤ x % 4294967296 * (y / 4294967296)) (b2 : x % 4294967296 * (y / 4294967296) ≤ 9223372034707292160) (c1 : 0 ≤ x % 4294967296 * (y % 4294967296)) (c2 : x % 4294967296 * (y % 4294967296) ≤ 18446744065119617025)
    (e1 : 0 < x / 4294967296) (e2 : y / 4294967296 ≤ 0) (e3 : x / 4294967296 * (y % 4294967296) + x % 4294967296 * (y / 4294967296) ≤ 4294967295) (e4 : x % 4294967296 * (y % 4294967296) ≤ 18446744073709551615 - (x / 4294967296 * (y % 4294967296) + x % 4294967296 * (y / 4294967296)) * 4294967296) (e5 : x % 4294967296 * (y % 4294967296) + (x / 4294967296 * (y % 4294967296) + x % 4294967296 * (y / 4294967296)) * 4294967296 ≤ 9223372036854775807) :
    Calls Try.prog 13 #[.int .i64 (-x), .int .i64 (-y)] w fun e w' => e = .returned (.tuple #[.int .i64 (x % 4294967296 * (y % 4294967296) + (x / 4294967296 * (y % 4294967296) + x % 4294967296 * (y / 4294967296)) * 4294967296), .bool true]) ∧ w = w' := by
  have k0 : decide (0 < x) = true := decide_eq_true (by omega)
  have k1 : decide (0 < y) = true := decide_eq_true (by omega)
  have k2 : decide (0 < x / 4294967296) = true := decide_eq_true (by omega)
  have k3 : decide (0 < y / 4294967296) = false := decide_eq_false (by omega)
  have k4 : decide (4294967295 < x / 4294967296 * (y % 4294967296) + x % 4294967296 * (y / 4294967296)) = false := decide_eq_false (by omega)
  have k5 : decide (18446744073709551615 - (x / 4294967296 * (y % 4294967296) + x % 4294967296 * (y / 4294967296)) * 4294967296 < x % 4294967296 * (y % 4294967296)) = false := decide_eq_false (by omega)
  have k6 : decide (9223372036854775807 < x % 4294967296 * (y % 4294967296) + (x / 4294967296 * (y % 4294967296) + x % 4294967296 * (y / 4294967296)) * 4294967296) = false := decide_eq_false (by omega)
  go_enter Try.func13, Try.ntmps13
  go_wp2_with fail
  refine (size_neg x _ hx1 hx2).mono ?_
  rintro e w' ⟨rfl, rfl⟩
  go_wp2_with fail
  refine (size_neg y _ hy1 hy2).mono ?_
  rintro e w' ⟨rfl, rfl⟩
  go_wp2_with fail
  go_ret2
  exact ⟨res_int (by first | rfl | omega), rfl⟩
end Go.Proofs.Ytapphelmnkbfiaa.Exact
