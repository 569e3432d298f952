/- Plain facts on products of layer 1: when a wrapped product is divided back, and long multiplication in two halves. -/
import Derived.Test.YtapphelmnkbfiaaExactPlain
namespace Go.Proofs.Ytapphelmnkbfiaa.Exact
open Go.RowKit (wrap32 wrap64)

def prodV (P : Int) : Int := if -9223372036854775808 ≤ P ∧ P ≤ 9223372036854775807 then P else 0
def prodB (P : Int) : Bool := decide (-9223372036854775808 ≤ P ∧ P ≤ 9223372036854775807)

theorem prod_yes {P : Int} (h1 : -9223372036854775808 ≤ P) (h2 : P ≤ 9223372036854775807) : prodV P = P ∧ prodB P = true := by
  unfold prodV prodB; rw [if_pos ⟨h1, h2⟩]; exact ⟨rfl, by simp; omega⟩
theorem prod_no {P : Int} (h : P < -9223372036854775808 ∨ 9223372036854775807 < P) : prodV P = 0 ∧ prodB P = false := by
  unfold prodV prodB; rw [if_neg (by omega)]; exact ⟨rfl, by simp; omega⟩

theorem res_yes {P : Int} (h1 : -9223372036854775808 ≤ P) (h2 : P ≤ 9223372036854775807) :
    Ending.returned (.tuple #[.int .i64 P, .bool true]) = Ending.returned (.tuple #[.int .i64 (prodV P), .bool (prodB P)]) := by
  rw [(prod_yes h1 h2).1, (prod_yes h1 h2).2]
theorem res_eq {P Q : Int} (h : Q = P) (h1 : -9223372036854775808 ≤ P) (h2 : P ≤ 9223372036854775807) :
    Ending.returned (.tuple #[.int .i64 Q, .bool true]) = Ending.returned (.tuple #[.int .i64 (prodV P), .bool (prodB P)]) := by
  subst h; exact res_yes h1 h2
theorem res_no {P : Int} (h : P < -9223372036854775808 ∨ 9223372036854775807 < P) :
    Ending.returned (.tuple #[.int .i64 0, .bool false]) = Ending.returned (.tuple #[.int .i64 (prodV P), .bool (prodB P)]) := by
  rw [(prod_no h).1, (prod_no h).2]

theorem mul_fits_back (a b : Int) (hb : b ≠ 0) : (a * b).tdiv b = a := Int.mul_tdiv_cancel a hb

theorem mul_wraps (a b : Int) (ha1 : -9223372036854775808 ≤ a) (ha2 : a ≤ 9223372036854775807) (hb1 : -9223372036854775808 ≤ b) (hb2 : b ≤ 9223372036854775807)
    (hb : b ≠ 0) (hm : ¬ (a = -9223372036854775808 ∧ b = -1)) (h : a * b < -9223372036854775808 ∨ 9223372036854775807 < a * b) :
    wrap64 ((wrap64 (a * b)).tdiv b) ≠ a := by
  intro he
  have hp : -9223372036854775808 ≤ wrap64 (a * b) ∧ wrap64 (a * b) ≤ 9223372036854775807 := by unfold wrap64; omega
  have hk : ∃ k : Int, wrap64 (a * b) = a * b - 18446744073709551616 * k := by
    refine ⟨(a * b + 9223372036854775808) / 18446744073709551616, ?_⟩
    unfold wrap64; omega
  obtain ⟨k, hk⟩ := hk
  generalize hpp : wrap64 (a * b) = p at *
  have hqr := Int.mul_tdiv_add_tmod p b
  have hq : (p.tdiv b).natAbs = p.natAbs / b.natAbs := Int.natAbs_tdiv p b
  have hr : (p.tmod b).natAbs = p.natAbs % b.natAbs := Int.natAbs_tmod p b
  have hq2 : p.natAbs / b.natAbs ≤ p.natAbs := Nat.div_le_self _ _
  have hr2 : p.natAbs % b.natAbs < b.natAbs := Nat.mod_lt _ (by omega)
  by_cases hb1' : b = -1
  · subst hb1'
    have e : p.tdiv (-1) = -p := by rw [Int.tdiv_neg, Int.tdiv_one]
    rw [e] at he
    unfold wrap64 at he
    omega
  · have hq3 : (p.tdiv b).natAbs < 9223372036854775808 ∨ p.tdiv b = p := by
      by_cases hb3 : b = 1
      · subst hb3; right; exact Int.tdiv_one p
      · left
        have : p.natAbs / b.natAbs ≤ p.natAbs / 2 := Nat.div_le_div_left (by omega) (by decide)
        omega
    have hq4 : -9223372036854775808 ≤ p.tdiv b ∧ p.tdiv b ≤ 9223372036854775807 := by omega
    have : wrap64 (p.tdiv b) = p.tdiv b := IntWalk.wrap64_in _ hq4
    rw [this] at he
    rw [he, Int.mul_comm] at hqr
    have : (p.tmod b).natAbs < 9223372036854775809 := by omega
    omega

/-- Long multiplication: the halves' products. -/
theorem halves_mul (x y : Int) : x * y = x / 4294967296 * (y / 4294967296) * 18446744073709551616 + (x / 4294967296 * (y % 4294967296) + x % 4294967296 * (y / 4294967296)) * 4294967296 + x % 4294967296 * (y % 4294967296) := by
  have hx : x = x / 4294967296 * 4294967296 + x % 4294967296 := by omega
  have hy : y = y / 4294967296 * 4294967296 + y % 4294967296 := by omega
  generalize x / 4294967296 = h at *
  generalize x % 4294967296 = l at *
  generalize y / 4294967296 = t at *
  generalize y % 4294967296 = u at *
  subst hx hy
  simp only [Int.add_mul, Int.mul_add]
  have e1 : h * 4294967296 * (t * 4294967296) = h * t * 18446744073709551616 := by
    rw [Int.mul_assoc, Int.mul_left_comm 4294967296 t, ← Int.mul_assoc h t, show (4294967296 : Int) * 4294967296 = 18446744073709551616 from rfl]
  have e2 : h * 4294967296 * u = h * u * 4294967296 := by rw [Int.mul_assoc, Int.mul_comm 4294967296 u, ← Int.mul_assoc]
  have e3 : l * (t * 4294967296) = l * t * 4294967296 := by rw [← Int.mul_assoc]
  rw [e1, e2, e3]; omega

theorem mul_nonneg_le {x y m n : Int} (hx : 0 ≤ x) (hy : 0 ≤ y) (hm : x ≤ m) (hn : y ≤ n) : 0 ≤ x * y ∧ x * y ≤ m * n :=
  ⟨Int.mul_nonneg hx hy, Int.mul_le_mul hm hn hy (by omega)⟩

/-- The bounds that the walk of Product wants, for sizes up to 2^63. -/
theorem halves_bounds (x y : Int) (hx : 0 ≤ x) (hx2 : x ≤ 9223372036854775808) (hy : 0 ≤ y) (hy2 : y ≤ 9223372036854775808) :
    0 ≤ x / 4294967296 * (y % 4294967296) ∧ x / 4294967296 * (y % 4294967296) ≤ 9223372034707292160 ∧
    0 ≤ x % 4294967296 * (y / 4294967296) ∧ x % 4294967296 * (y / 4294967296) ≤ 9223372034707292160 ∧
    0 ≤ x % 4294967296 * (y % 4294967296) ∧ x % 4294967296 * (y % 4294967296) ≤ 18446744065119617025 := by
  have h1 := mul_nonneg_le (x := x / 4294967296) (y := y % 4294967296) (m := 2147483648) (n := 4294967295) (by omega) (by omega) (by omega) (by omega)
  have h2 := mul_nonneg_le (x := x % 4294967296) (y := y / 4294967296) (m := 4294967295) (n := 2147483648) (by omega) (by omega) (by omega) (by omega)
  have h3 := mul_nonneg_le (x := x % 4294967296) (y := y % 4294967296) (m := 4294967295) (n := 4294967295) (by omega) (by omega) (by omega) (by omega)
  omega

theorem tops_mul (x y : Int) (hx : 0 < x / 4294967296) (hy : 0 < y / 4294967296) (hx0 : 0 ≤ x) (hy0 : 0 ≤ y) : 18446744073709551616 ≤ x * y := by
  have h1 := Int.mul_le_mul (a := 4294967296) (b := 4294967296) (c := x) (d := y) (by omega) (by omega) (by omega) (by omega)
  omega

theorem tops_none (x y : Int) (h : ¬ (0 < x / 4294967296 ∧ 0 < y / 4294967296)) (hx0 : 0 ≤ x) (hy0 : 0 ≤ y) : x / 4294967296 * (y / 4294967296) = 0 := by
  rcases (by omega : x / 4294967296 = 0 ∨ y / 4294967296 = 0) with e | e
  · rw [e, Int.zero_mul]
  · rw [e, Int.mul_zero]

theorem neg_conv (z : Int) (h1 : 0 ≤ z) (h2 : z ≤ 9223372036854775808) : wrap64 (IntKind.u64.wrap (-z)) = -z := by
  unfold wrap64; rw [IntKind.wrap_u64]; omega
end Go.Proofs.Ytapphelmnkbfiaa.Exact
