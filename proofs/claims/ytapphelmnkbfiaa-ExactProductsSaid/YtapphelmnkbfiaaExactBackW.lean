/- The reference's Product at all ints; the walks of ExactProducts and ExactBack. -/
import Derived.Test.YtapphelmnkbfiaaExactProd
namespace Go.Proofs.Ytapphelmnkbfiaa.Exact
open Go.RowKit
set_option linter.unusedVariables false

theorem product_pp (x y : Int) (w : World) (hx1 : 0 ≤ x) (hx2 : x ≤ 9223372036854775807) (hy1 : 0 ≤ y) (hy2 : y ≤ 9223372036854775807) :
    Calls Try.prog 13 #[.int .i64 x, .int .i64 y] w fun e w' => e = .returned (.tuple #[.int .i64 (prodV (x * y)), .bool (prodB (x * y))]) ∧ w = w' := by
  have hP : x * y = x * y := rfl
  rw [hP]
  have hm := halves_mul x y
  obtain ⟨a1, a2, b1, b2, c1, c2⟩ := halves_bounds x y (by omega) (by omega) (by omega) (by omega)
  by_cases t : 0 < x / 4294967296 ∧ 0 < y / 4294967296
  · have := tops_mul x y t.1 t.2 (by omega) (by omega)
    rw [← res_no (P := x * y) (by omega)]
    exact prod_hi_pp x y w hx1 hx2 hy1 hy2 a1 a2 b1 b2 c1 c2 t.1 t.2
  have hz := tops_none x y t (by omega) (by omega)
  have hm2 : x * y = x % 4294967296 * (y % 4294967296) + (x / 4294967296 * (y % 4294967296) + x % 4294967296 * (y / 4294967296)) * 4294967296 := by rw [hm, hz]; omega
  have g : (x / 4294967296 ≤ 0) ∨ (0 < x / 4294967296 ∧ y / 4294967296 ≤ 0) := by omega
  by_cases e3 : 4294967295 < x / 4294967296 * (y % 4294967296) + x % 4294967296 * (y / 4294967296)
  · rw [← res_no (P := x * y) (by omega)]
    rcases g with g | ⟨g1, g2⟩
    · exact prod_mid_ppl x y w hx1 hx2 hy1 hy2 a1 a2 b1 b2 c1 c2 g e3
    · exact prod_mid_ppr x y w hx1 hx2 hy1 hy2 a1 a2 b1 b2 c1 c2 g1 g2 e3
  have e3' : x / 4294967296 * (y % 4294967296) + x % 4294967296 * (y / 4294967296) ≤ 4294967295 := by omega
  by_cases e4 : 18446744073709551615 - (x / 4294967296 * (y % 4294967296) + x % 4294967296 * (y / 4294967296)) * 4294967296 < x % 4294967296 * (y % 4294967296)
  · rw [← res_no (P := x * y) (by omega)]
    rcases g with g | ⟨g1, g2⟩
    · exact prod_tail_ppl x y w hx1 hx2 hy1 hy2 a1 a2 b1 b2 c1 c2 g e3' e4
    · exact prod_tail_ppr x y w hx1 hx2 hy1 hy2 a1 a2 b1 b2 c1 c2 g1 g2 e3' e4
  have e4' : x % 4294967296 * (y % 4294967296) ≤ 18446744073709551615 - (x / 4294967296 * (y % 4294967296) + x % 4294967296 * (y / 4294967296)) * 4294967296 := by omega
  by_cases e5 : 9223372036854775807 < x % 4294967296 * (y % 4294967296) + (x / 4294967296 * (y % 4294967296) + x % 4294967296 * (y / 4294967296)) * 4294967296
  · rw [← res_no (P := x * y) (by omega)]
    rcases g with g | ⟨g1, g2⟩
    · exact prod_big_ppl x y w hx1 hx2 hy1 hy2 a1 a2 b1 b2 c1 c2 g e3' e4' e5
    · exact prod_big_ppr x y w hx1 hx2 hy1 hy2 a1 a2 b1 b2 c1 c2 g1 g2 e3' e4' e5
  · have e5' : x % 4294967296 * (y % 4294967296) + (x / 4294967296 * (y % 4294967296) + x % 4294967296 * (y / 4294967296)) * 4294967296 ≤ 9223372036854775807 := by omega
    rw [← res_yes (P := x * y) (by omega) (by omega), hm2]
    rcases g with g | ⟨g1, g2⟩
    · exact prod_ok_ppl x y w hx1 hx2 hy1 hy2 a1 a2 b1 b2 c1 c2 g e3' e4' e5'
    · exact prod_ok_ppr x y w hx1 hx2 hy1 hy2 a1 a2 b1 b2 c1 c2 g1 g2 e3' e4' e5'

theorem product_np (x y : Int) (w : World) (hx1 : 1 ≤ x) (hx2 : x ≤ 9223372036854775808) (hy1 : 0 ≤ y) (hy2 : y ≤ 9223372036854775807) :
    Calls Try.prog 13 #[.int .i64 (-x), .int .i64 y] w fun e w' => e = .returned (.tuple #[.int .i64 (prodV ((-x) * y)), .bool (prodB ((-x) * y))]) ∧ w = w' := by
  have hP : (-x) * y = -(x * y) := Int.neg_mul x y
  rw [hP]
  have hm := halves_mul x y
  obtain ⟨a1, a2, b1, b2, c1, c2⟩ := halves_bounds x y (by omega) (by omega) (by omega) (by omega)
  by_cases t : 0 < x / 4294967296 ∧ 0 < y / 4294967296
  · have := tops_mul x y t.1 t.2 (by omega) (by omega)
    rw [← res_no (P := -(x * y)) (by omega)]
    exact prod_hi_np x y w hx1 hx2 hy1 hy2 a1 a2 b1 b2 c1 c2 t.1 t.2
  have hz := tops_none x y t (by omega) (by omega)
  have hm2 : x * y = x % 4294967296 * (y % 4294967296) + (x / 4294967296 * (y % 4294967296) + x % 4294967296 * (y / 4294967296)) * 4294967296 := by rw [hm, hz]; omega
  have g : (x / 4294967296 ≤ 0) ∨ (0 < x / 4294967296 ∧ y / 4294967296 ≤ 0) := by omega
  by_cases e3 : 4294967295 < x / 4294967296 * (y % 4294967296) + x % 4294967296 * (y / 4294967296)
  · rw [← res_no (P := -(x * y)) (by omega)]
    rcases g with g | ⟨g1, g2⟩
    · exact prod_mid_npl x y w hx1 hx2 hy1 hy2 a1 a2 b1 b2 c1 c2 g e3
    · exact prod_mid_npr x y w hx1 hx2 hy1 hy2 a1 a2 b1 b2 c1 c2 g1 g2 e3
  have e3' : x / 4294967296 * (y % 4294967296) + x % 4294967296 * (y / 4294967296) ≤ 4294967295 := by omega
  by_cases e4 : 18446744073709551615 - (x / 4294967296 * (y % 4294967296) + x % 4294967296 * (y / 4294967296)) * 4294967296 < x % 4294967296 * (y % 4294967296)
  · rw [← res_no (P := -(x * y)) (by omega)]
    rcases g with g | ⟨g1, g2⟩
    · exact prod_tail_npl x y w hx1 hx2 hy1 hy2 a1 a2 b1 b2 c1 c2 g e3' e4
    · exact prod_tail_npr x y w hx1 hx2 hy1 hy2 a1 a2 b1 b2 c1 c2 g1 g2 e3' e4
  have e4' : x % 4294967296 * (y % 4294967296) ≤ 18446744073709551615 - (x / 4294967296 * (y % 4294967296) + x % 4294967296 * (y / 4294967296)) * 4294967296 := by omega
  by_cases e5 : 9223372036854775808 < x % 4294967296 * (y % 4294967296) + (x / 4294967296 * (y % 4294967296) + x % 4294967296 * (y / 4294967296)) * 4294967296
  · rw [← res_no (P := -(x * y)) (by omega)]
    rcases g with g | ⟨g1, g2⟩
    · exact prod_big_npl x y w hx1 hx2 hy1 hy2 a1 a2 b1 b2 c1 c2 g e3' e4' e5
    · exact prod_big_npr x y w hx1 hx2 hy1 hy2 a1 a2 b1 b2 c1 c2 g1 g2 e3' e4' e5
  · have e5' : x % 4294967296 * (y % 4294967296) + (x / 4294967296 * (y % 4294967296) + x % 4294967296 * (y / 4294967296)) * 4294967296 ≤ 9223372036854775808 := by omega
    rw [← res_yes (P := -(x * y)) (by omega) (by omega), hm2]
    rcases g with g | ⟨g1, g2⟩
    · exact prod_ok_npl x y w hx1 hx2 hy1 hy2 a1 a2 b1 b2 c1 c2 g e3' e4' e5'
    · exact prod_ok_npr x y w hx1 hx2 hy1 hy2 a1 a2 b1 b2 c1 c2 g1 g2 e3' e4' e5'

theorem product_pn (x y : Int) (w : World) (hx1 : 0 ≤ x) (hx2 : x ≤ 9223372036854775807) (hy1 : 1 ≤ y) (hy2 : y ≤ 9223372036854775808) :
    Calls Try.prog 13 #[.int .i64 x, .int .i64 (-y)] w fun e w' => e = .returned (.tuple #[.int .i64 (prodV (x * (-y))), .bool (prodB (x * (-y)))]) ∧ w = w' := by
  have hP : x * (-y) = -(x * y) := Int.mul_neg x y
  rw [hP]
  have hm := halves_mul x y
  obtain ⟨a1, a2, b1, b2, c1, c2⟩ := halves_bounds x y (by omega) (by omega) (by omega) (by omega)
  by_cases t : 0 < x / 4294967296 ∧ 0 < y / 4294967296
  · have := tops_mul x y t.1 t.2 (by omega) (by omega)
    rw [← res_no (P := -(x * y)) (by omega)]
    exact prod_hi_pn x y w hx1 hx2 hy1 hy2 a1 a2 b1 b2 c1 c2 t.1 t.2
  have hz := tops_none x y t (by omega) (by omega)
  have hm2 : x * y = x % 4294967296 * (y % 4294967296) + (x / 4294967296 * (y % 4294967296) + x % 4294967296 * (y / 4294967296)) * 4294967296 := by rw [hm, hz]; omega
  have g : (x / 4294967296 ≤ 0) ∨ (0 < x / 4294967296 ∧ y / 4294967296 ≤ 0) := by omega
  by_cases e3 : 4294967295 < x / 4294967296 * (y % 4294967296) + x % 4294967296 * (y / 4294967296)
  · rw [← res_no (P := -(x * y)) (by omega)]
    rcases g with g | ⟨g1, g2⟩
    · exact prod_mid_pnl x y w hx1 hx2 hy1 hy2 a1 a2 b1 b2 c1 c2 g e3
    · exact prod_mid_pnr x y w hx1 hx2 hy1 hy2 a1 a2 b1 b2 c1 c2 g1 g2 e3
  have e3' : x / 4294967296 * (y % 4294967296) + x % 4294967296 * (y / 4294967296) ≤ 4294967295 := by omega
  by_cases e4 : 18446744073709551615 - (x / 4294967296 * (y % 4294967296) + x % 4294967296 * (y / 4294967296)) * 4294967296 < x % 4294967296 * (y % 4294967296)
  · rw [← res_no (P := -(x * y)) (by omega)]
    rcases g with g | ⟨g1, g2⟩
    · exact prod_tail_pnl x y w hx1 hx2 hy1 hy2 a1 a2 b1 b2 c1 c2 g e3' e4
    · exact prod_tail_pnr x y w hx1 hx2 hy1 hy2 a1 a2 b1 b2 c1 c2 g1 g2 e3' e4
  have e4' : x % 4294967296 * (y % 4294967296) ≤ 18446744073709551615 - (x / 4294967296 * (y % 4294967296) + x % 4294967296 * (y / 4294967296)) * 4294967296 := by omega
  by_cases e5 : 9223372036854775808 < x % 4294967296 * (y % 4294967296) + (x / 4294967296 * (y % 4294967296) + x % 4294967296 * (y / 4294967296)) * 4294967296
  · rw [← res_no (P := -(x * y)) (by omega)]
    rcases g with g | ⟨g1, g2⟩
    · exact prod_big_pnl x y w hx1 hx2 hy1 hy2 a1 a2 b1 b2 c1 c2 g e3' e4' e5
    · exact prod_big_pnr x y w hx1 hx2 hy1 hy2 a1 a2 b1 b2 c1 c2 g1 g2 e3' e4' e5
  · have e5' : x % 4294967296 * (y % 4294967296) + (x / 4294967296 * (y % 4294967296) + x % 4294967296 * (y / 4294967296)) * 4294967296 ≤ 9223372036854775808 := by omega
    rw [← res_yes (P := -(x * y)) (by omega) (by omega), hm2]
    rcases g with g | ⟨g1, g2⟩
    · exact prod_ok_pnl x y w hx1 hx2 hy1 hy2 a1 a2 b1 b2 c1 c2 g e3' e4' e5'
    · exact prod_ok_pnr x y w hx1 hx2 hy1 hy2 a1 a2 b1 b2 c1 c2 g1 g2 e3' e4' e5'

theorem product_nn (x y : Int) (w : World) (hx1 : 1 ≤ x) (hx2 : x ≤ 9223372036854775808) (hy1 : 1 ≤ y) (hy2 : y ≤ 9223372036854775808) :
    Calls Try.prog 13 #[.int .i64 (-x), .int .i64 (-y)] w fun e w' => e = .returned (.tuple #[.int .i64 (prodV ((-x) * (-y))), .bool (prodB ((-x) * (-y)))]) ∧ w = w' := by
  have hP : (-x) * (-y) = x * y := Int.neg_mul_neg x y
  rw [hP]
  have hm := halves_mul x y
  obtain ⟨a1, a2, b1, b2, c1, c2⟩ := halves_bounds x y (by omega) (by omega) (by omega) (by omega)
  by_cases t : 0 < x / 4294967296 ∧ 0 < y / 4294967296
  · have := tops_mul x y t.1 t.2 (by omega) (by omega)
    rw [← res_no (P := x * y) (by omega)]
    exact prod_hi_nn x y w hx1 hx2 hy1 hy2 a1 a2 b1 b2 c1 c2 t.1 t.2
  have hz := tops_none x y t (by omega) (by omega)
  have hm2 : x * y = x % 4294967296 * (y % 4294967296) + (x / 4294967296 * (y % 4294967296) + x % 4294967296 * (y / 4294967296)) * 4294967296 := by rw [hm, hz]; omega
  have g : (x / 4294967296 ≤ 0) ∨ (0 < x / 4294967296 ∧ y / 4294967296 ≤ 0) := by omega
  by_cases e3 : 4294967295 < x / 4294967296 * (y % 4294967296) + x % 4294967296 * (y / 4294967296)
  · rw [← res_no (P := x * y) (by omega)]
    rcases g with g | ⟨g1, g2⟩
    · exact prod_mid_nnl x y w hx1 hx2 hy1 hy2 a1 a2 b1 b2 c1 c2 g e3
    · exact prod_mid_nnr x y w hx1 hx2 hy1 hy2 a1 a2 b1 b2 c1 c2 g1 g2 e3
  have e3' : x / 4294967296 * (y % 4294967296) + x % 4294967296 * (y / 4294967296) ≤ 4294967295 := by omega
  by_cases e4 : 18446744073709551615 - (x / 4294967296 * (y % 4294967296) + x % 4294967296 * (y / 4294967296)) * 4294967296 < x % 4294967296 * (y % 4294967296)
  · rw [← res_no (P := x * y) (by omega)]
    rcases g with g | ⟨g1, g2⟩
    · exact prod_tail_nnl x y w hx1 hx2 hy1 hy2 a1 a2 b1 b2 c1 c2 g e3' e4
    · exact prod_tail_nnr x y w hx1 hx2 hy1 hy2 a1 a2 b1 b2 c1 c2 g1 g2 e3' e4
  have e4' : x % 4294967296 * (y % 4294967296) ≤ 18446744073709551615 - (x / 4294967296 * (y % 4294967296) + x % 4294967296 * (y / 4294967296)) * 4294967296 := by omega
  by_cases e5 : 9223372036854775807 < x % 4294967296 * (y % 4294967296) + (x / 4294967296 * (y % 4294967296) + x % 4294967296 * (y / 4294967296)) * 4294967296
  · rw [← res_no (P := x * y) (by omega)]
    rcases g with g | ⟨g1, g2⟩
    · exact prod_big_nnl x y w hx1 hx2 hy1 hy2 a1 a2 b1 b2 c1 c2 g e3' e4' e5
    · exact prod_big_nnr x y w hx1 hx2 hy1 hy2 a1 a2 b1 b2 c1 c2 g1 g2 e3' e4' e5
  · have e5' : x % 4294967296 * (y % 4294967296) + (x / 4294967296 * (y % 4294967296) + x % 4294967296 * (y / 4294967296)) * 4294967296 ≤ 9223372036854775807 := by omega
    rw [← res_yes (P := x * y) (by omega) (by omega), hm2]
    rcases g with g | ⟨g1, g2⟩
    · exact prod_ok_nnl x y w hx1 hx2 hy1 hy2 a1 a2 b1 b2 c1 c2 g e3' e4' e5'
    · exact prod_ok_nnr x y w hx1 hx2 hy1 hy2 a1 a2 b1 b2 c1 c2 g1 g2 e3' e4' e5'

theorem product_any (a b : Int) (w : World) (ha1 : -9223372036854775808 ≤ a) (ha2 : a ≤ 9223372036854775807) (hb1 : -9223372036854775808 ≤ b) (hb2 : b ≤ 9223372036854775807) :
    Calls Try.prog 13 #[.int .i64 a, .int .i64 b] w fun e w' => e = .returned (.tuple #[.int .i64 (prodV (a * b)), .bool (prodB (a * b))]) ∧ w = w' := by
  by_cases ha : a < 0
  · obtain ⟨x, rfl⟩ : ∃ x, a = -x := ⟨-a, by omega⟩
    by_cases hb : b < 0
    · obtain ⟨y, rfl⟩ : ∃ y, b = -y := ⟨-b, by omega⟩
      exact product_nn x y w (by omega) (by omega) (by omega) (by omega)
    · exact product_np x b w (by omega) (by omega) (by omega) (by omega)
  · by_cases hb : b < 0
    · obtain ⟨y, rfl⟩ : ∃ y, b = -y := ⟨-b, by omega⟩
      exact product_pn a y w (by omega) (by omega) (by omega) (by omega)
    · exact product_pp a b w (by omega) (by omega) (by omega) (by omega)

theorem products_walk (a b : Int) (w0 : (Lit.int .i64 a).wf = true) (w1 : (Lit.int .i64 b).wf = true) (w : World) :
    Calls Try.prog 4 #[.int .i64 a, .int .i64 b] w fun e w' => e = .returned (.bool true) ∧ Grown w w' := by
  obtain ⟨ha1, ha2⟩ := bounds_i64 w0
  obtain ⟨hb1, hb2⟩ := bounds_i64 w1
  clear w0 w1
  go_enter Try.func4, Try.ntmps4
  go_wp2_with fail
  refine (awake_any _).mono ?_
  rintro e w' ⟨rfl, rfl⟩
  go_wp2_with fail
  refine (mul_any _ _ _ ha1 ha2 hb1 hb2).mono ?_
  rintro e w' ⟨rfl, rfl⟩
  go_wp2_with fail
  refine (product_any _ _ _ ha1 ha2 hb1 hb2).mono ?_
  rintro e w' ⟨rfl, rfl⟩
  go_wp2_with fail
  go_ret
  exact ⟨rfl, Grown.refl _⟩

theorem add_sw_yes (a b : Int) (w : World) (ha1 : -9223372036854775808 ≤ a) (ha2 : a ≤ 9223372036854775807) (hb1 : -9223372036854775808 ≤ b) (hb2 : b ≤ 9223372036854775807)
    (h1 : -9223372036854775808 ≤ a + b) (h2 : a + b ≤ 9223372036854775807) :
    Calls Try.prog 9 #[.int .i64 b, .int .i64 a] w fun e w' => e = .returned (.tuple #[.int .i64 (a + b), .bool true]) ∧ w = w' := by
  rw [Int.add_comm a b]; exact add_yes b a w hb1 hb2 ha1 ha2 (by omega) (by omega)
theorem mul_yes (a b : Int) (w : World) (ha1 : -9223372036854775808 ≤ a) (ha2 : a ≤ 9223372036854775807) (hb1 : -9223372036854775808 ≤ b) (hb2 : b ≤ 9223372036854775807)
    (h1 : -9223372036854775808 ≤ a * b) (h2 : a * b ≤ 9223372036854775807) :
    Calls Try.prog 12 #[.int .i64 a, .int .i64 b] w fun e w' => e = .returned (.tuple #[.int .i64 (a * b), .bool true]) ∧ w = w' := by
  have h := mul_any a b w ha1 ha2 hb1 hb2
  rw [← res_yes h1 h2] at h; exact h
theorem mul_no (a b : Int) (w : World) (ha1 : -9223372036854775808 ≤ a) (ha2 : a ≤ 9223372036854775807) (hb1 : -9223372036854775808 ≤ b) (hb2 : b ≤ 9223372036854775807)
    (hp : a * b < -9223372036854775808 ∨ 9223372036854775807 < a * b) :
    Calls Try.prog 12 #[.int .i64 a, .int .i64 b] w fun e w' => e = .returned (.tuple #[.int .i64 0, .bool false]) ∧ w = w' := by
  have h := mul_any a b w ha1 ha2 hb1 hb2
  rw [← res_no hp] at h; exact h
theorem mul_sw_yes (a b : Int) (w : World) (ha1 : -9223372036854775808 ≤ a) (ha2 : a ≤ 9223372036854775807) (hb1 : -9223372036854775808 ≤ b) (hb2 : b ≤ 9223372036854775807)
    (h1 : -9223372036854775808 ≤ a * b) (h2 : a * b ≤ 9223372036854775807) :
    Calls Try.prog 12 #[.int .i64 b, .int .i64 a] w fun e w' => e = .returned (.tuple #[.int .i64 (a * b), .bool true]) ∧ w = w' := by
  rw [Int.mul_comm a b] at *; exact mul_yes b a w hb1 hb2 ha1 ha2 h1 h2
theorem mul_sw_no (a b : Int) (w : World) (ha1 : -9223372036854775808 ≤ a) (ha2 : a ≤ 9223372036854775807) (hb1 : -9223372036854775808 ≤ b) (hb2 : b ≤ 9223372036854775807)
    (hp : a * b < -9223372036854775808 ∨ 9223372036854775807 < a * b) :
    Calls Try.prog 12 #[.int .i64 b, .int .i64 a] w fun e w' => e = .returned (.tuple #[.int .i64 0, .bool false]) ∧ w = w' := by
  rw [Int.mul_comm a b] at *; exact mul_no b a w hb1 hb2 ha1 ha2 hp
theorem sub_back (a b : Int) (w : World) (ha1 : -9223372036854775808 ≤ a) (ha2 : a ≤ 9223372036854775807) (hb1 : -9223372036854775808 ≤ b) (hb2 : b ≤ 9223372036854775807)
    (h1 : -9223372036854775808 ≤ a + b) (h2 : a + b ≤ 9223372036854775807) :
    Calls Try.prog 11 #[.int .i64 (a + b), .int .i64 b] w fun e w' => e = .returned (.tuple #[.int .i64 a, .bool true]) ∧ w = w' := by
  have h := sub_yes (a + b) b w h1 h2 hb1 hb2 (by omega) (by omega)
  rw [show a + b - b = a from by omega] at h; exact h
theorem add_sw_no (a b : Int) (w : World) (ha1 : -9223372036854775808 ≤ a) (ha2 : a ≤ 9223372036854775807) (hb1 : -9223372036854775808 ≤ b) (hb2 : b ≤ 9223372036854775807)
    (h : a + b < -9223372036854775808 ∨ 9223372036854775807 < a + b) :
    Calls Try.prog 9 #[.int .i64 b, .int .i64 a] w fun e w' => e = .returned (.tuple #[.int .i64 0, .bool false]) ∧ w = w' :=
  add_no b a w hb1 hb2 ha1 ha2 (by omega)

theorem back_walk (a b : Int) (w0 : (Lit.int .i64 a).wf = true) (w1 : (Lit.int .i64 b).wf = true) (w : World) :
    Calls Try.prog 7 #[.int .i64 a, .int .i64 b] w fun e w' => e = .returned (.bool true) ∧ Grown w w' := by
  obtain ⟨ha1, ha2⟩ := bounds_i64 w0
  obtain ⟨hb1, hb2⟩ := bounds_i64 w1
  clear w0 w1
  by_cases hs : -9223372036854775808 ≤ a + b ∧ a + b ≤ 9223372036854775807
  · obtain ⟨hs1, hs2⟩ := hs
    by_cases hp : -9223372036854775808 ≤ a * b ∧ a * b ≤ 9223372036854775807
    · obtain ⟨hp1, hp2⟩ := hp
      by_cases hb : b = 0
      · have z2 : (b == 0) = true := beq_iff_eq.2 hb
        clear hb
        go_enter Try.func7, Try.ntmps7
        go_wp2_with fail
        refine (awake_any _).mono ?_
        rintro e w' ⟨rfl, rfl⟩
        go_wp2_with fail
        refine (add_yes _ _ _ ha1 ha2 hb1 hb2 hs1 hs2).mono ?_
        rintro e w' ⟨rfl, rfl⟩
        go_wp2_with fail
        refine (add_sw_yes _ _ _ ha1 ha2 hb1 hb2 hs1 hs2).mono ?_
        rintro e w' ⟨rfl, rfl⟩
        go_wp2_with fail
        refine (sub_back _ _ _ ha1 ha2 hb1 hb2 hs1 hs2).mono ?_
        rintro e w' ⟨rfl, rfl⟩
        go_wp2_with fail
        refine (mul_yes _ _ _ ha1 ha2 hb1 hb2 hp1 hp2).mono ?_
        rintro e w' ⟨rfl, rfl⟩
        go_wp2_with fail
        refine (mul_sw_yes _ _ _ ha1 ha2 hb1 hb2 hp1 hp2).mono ?_
        rintro e w' ⟨rfl, rfl⟩
        go_wp2_with fail
        go_ret
        exact ⟨rfl, Grown.refl _⟩
      · have z2 : (b == 0) = false := beq_eq_false_iff_ne.2 hb
        have hq : (a * b).tdiv b = a := mul_fits_back a b hb
        have hr : (a * b).tmod b = 0 := Int.mul_tmod_left a b
        have hw : wrap64 a = a := IntWalk.wrap64_in _ ⟨ha1, ha2⟩
        go_enter Try.func7, Try.ntmps7
        go_wp2_with fail
        refine (awake_any _).mono ?_
        rintro e w' ⟨rfl, rfl⟩
        go_wp2_with fail
        refine (add_yes _ _ _ ha1 ha2 hb1 hb2 hs1 hs2).mono ?_
        rintro e w' ⟨rfl, rfl⟩
        go_wp2_with fail
        refine (add_sw_yes _ _ _ ha1 ha2 hb1 hb2 hs1 hs2).mono ?_
        rintro e w' ⟨rfl, rfl⟩
        go_wp2_with fail
        refine (sub_back _ _ _ ha1 ha2 hb1 hb2 hs1 hs2).mono ?_
        rintro e w' ⟨rfl, rfl⟩
        go_wp2_with fail
        refine (mul_yes _ _ _ ha1 ha2 hb1 hb2 hp1 hp2).mono ?_
        rintro e w' ⟨rfl, rfl⟩
        go_wp2_with fail
        refine (mul_sw_yes _ _ _ ha1 ha2 hb1 hb2 hp1 hp2).mono ?_
        rintro e w' ⟨rfl, rfl⟩
        go_wp2_with fail
        go_ret
        exact ⟨rfl, Grown.refl _⟩
    · have HP : Hid (a * b < -9223372036854775808 ∨ 9223372036854775807 < a * b) := by show _ ∨ _; omega
      clear hp
      go_enter Try.func7, Try.ntmps7
      go_wp2_with fail
      refine (awake_any _).mono ?_
      rintro e w' ⟨rfl, rfl⟩
      go_wp2_with fail
      refine (add_yes _ _ _ ha1 ha2 hb1 hb2 hs1 hs2).mono ?_
      rintro e w' ⟨rfl, rfl⟩
      go_wp2_with fail
      refine (add_sw_yes _ _ _ ha1 ha2 hb1 hb2 hs1 hs2).mono ?_
      rintro e w' ⟨rfl, rfl⟩
      go_wp2_with fail
      refine (sub_back _ _ _ ha1 ha2 hb1 hb2 hs1 hs2).mono ?_
      rintro e w' ⟨rfl, rfl⟩
      go_wp2_with fail
      refine (mul_no _ _ _ ha1 ha2 hb1 hb2 HP.out).mono ?_
      rintro e w' ⟨rfl, rfl⟩
      go_wp2_with fail
      refine (mul_sw_no _ _ _ ha1 ha2 hb1 hb2 HP.out).mono ?_
      rintro e w' ⟨rfl, rfl⟩
      go_wp2_with fail
      go_ret
      exact ⟨rfl, Grown.refl _⟩
  · have HS : Hid (a + b < -9223372036854775808 ∨ 9223372036854775807 < a + b) := by show _ ∨ _; omega
    clear hs
    by_cases hp : -9223372036854775808 ≤ a * b ∧ a * b ≤ 9223372036854775807
    · obtain ⟨hp1, hp2⟩ := hp
      by_cases hb : b = 0
      · have z2 : (b == 0) = true := beq_iff_eq.2 hb
        clear hb
        go_enter Try.func7, Try.ntmps7
        go_wp2_with fail
        refine (awake_any _).mono ?_
        rintro e w' ⟨rfl, rfl⟩
        go_wp2_with fail
        refine (add_no _ _ _ ha1 ha2 hb1 hb2 HS.out).mono ?_
        rintro e w' ⟨rfl, rfl⟩
        go_wp2_with fail
        refine (add_sw_no _ _ _ ha1 ha2 hb1 hb2 HS.out).mono ?_
        rintro e w' ⟨rfl, rfl⟩
        go_wp2_with fail
        refine (mul_yes _ _ _ ha1 ha2 hb1 hb2 hp1 hp2).mono ?_
        rintro e w' ⟨rfl, rfl⟩
        go_wp2_with fail
        refine (mul_sw_yes _ _ _ ha1 ha2 hb1 hb2 hp1 hp2).mono ?_
        rintro e w' ⟨rfl, rfl⟩
        go_wp2_with fail
        go_ret
        exact ⟨rfl, Grown.refl _⟩
      · have z2 : (b == 0) = false := beq_eq_false_iff_ne.2 hb
        have hq : (a * b).tdiv b = a := mul_fits_back a b hb
        have hr : (a * b).tmod b = 0 := Int.mul_tmod_left a b
        have hw : wrap64 a = a := IntWalk.wrap64_in _ ⟨ha1, ha2⟩
        go_enter Try.func7, Try.ntmps7
        go_wp2_with fail
        refine (awake_any _).mono ?_
        rintro e w' ⟨rfl, rfl⟩
        go_wp2_with fail
        refine (add_no _ _ _ ha1 ha2 hb1 hb2 HS.out).mono ?_
        rintro e w' ⟨rfl, rfl⟩
        go_wp2_with fail
        refine (add_sw_no _ _ _ ha1 ha2 hb1 hb2 HS.out).mono ?_
        rintro e w' ⟨rfl, rfl⟩
        go_wp2_with fail
        refine (mul_yes _ _ _ ha1 ha2 hb1 hb2 hp1 hp2).mono ?_
        rintro e w' ⟨rfl, rfl⟩
        go_wp2_with fail
        refine (mul_sw_yes _ _ _ ha1 ha2 hb1 hb2 hp1 hp2).mono ?_
        rintro e w' ⟨rfl, rfl⟩
        go_wp2_with fail
        go_ret
        exact ⟨rfl, Grown.refl _⟩
    · have HP : Hid (a * b < -9223372036854775808 ∨ 9223372036854775807 < a * b) := by show _ ∨ _; omega
      clear hp
      go_enter Try.func7, Try.ntmps7
      go_wp2_with fail
      refine (awake_any _).mono ?_
      rintro e w' ⟨rfl, rfl⟩
      go_wp2_with fail
      refine (add_no _ _ _ ha1 ha2 hb1 hb2 HS.out).mono ?_
      rintro e w' ⟨rfl, rfl⟩
      go_wp2_with fail
      refine (add_sw_no _ _ _ ha1 ha2 hb1 hb2 HS.out).mono ?_
      rintro e w' ⟨rfl, rfl⟩
      go_wp2_with fail
      refine (mul_no _ _ _ ha1 ha2 hb1 hb2 HP.out).mono ?_
      rintro e w' ⟨rfl, rfl⟩
      go_wp2_with fail
      refine (mul_sw_no _ _ _ ha1 ha2 hb1 hb2 HP.out).mono ?_
      rintro e w' ⟨rfl, rfl⟩
      go_wp2_with fail
      go_ret
      exact ⟨rfl, Grown.refl _⟩
end Go.Proofs.Ytapphelmnkbfiaa.Exact
