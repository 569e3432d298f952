/- Plain facts of layer 1, no program in sight: signs of and, xor on 64 bits; half a sum by bits; when a product is divided back. -/
import Derived.WalkKit
import Derived.Laws.BitsAllLaws
namespace Go.Proofs.Ytapphelmnkbfiaa.Exact
open Go.RowKit (wrap32 wrap64)

theorem toInt_wrap (x : BitVec 64) : IntKind.i64.wrap (x.toNat : Int) = x.toInt := by
  have h := x.isLt
  rw [IntKind.wrap_i64, BitVec.toInt_eq_toNat_cond]
  split <;> omega

theorem bits_xor (a b : Int) : bits .xor .i64 a b = (BitVec.ofInt 64 a ^^^ BitVec.ofInt 64 b).toInt := toInt_wrap _
theorem bits_and (a b : Int) : bits .and .i64 a b = (BitVec.ofInt 64 a &&& BitVec.ofInt 64 b).toInt := toInt_wrap _

theorem ofInt_back (x : BitVec 64) : BitVec.ofInt 64 x.toInt = x := BitVec.ofInt_toInt

theorem msb_ofInt (a : Int) (h1 : -9223372036854775808 ≤ a) (h2 : a ≤ 9223372036854775807) : (BitVec.ofInt 64 a).msb = decide (a < 0) := by
  rw [BitVec.msb_eq_toInt, BitVec.toInt_ofInt_eq_self (by decide) (by omega) (by omega)]

theorem neg_iff (x : BitVec 64) : x.toInt < 0 ↔ x.msb = true := by
  rw [BitVec.msb_eq_toInt]; simp

/-- The sign of what Add and Sub test. -/
theorem sign_test (a b c d : Int) (ha1 : -9223372036854775808 ≤ a) (ha2 : a ≤ 9223372036854775807) (hb1 : -9223372036854775808 ≤ b) (hb2 : b ≤ 9223372036854775807)
    (hc1 : -9223372036854775808 ≤ c) (hc2 : c ≤ 9223372036854775807) (hd1 : -9223372036854775808 ≤ d) (hd2 : d ≤ 9223372036854775807) :
    bits .and .i64 (bits .xor .i64 a b) (bits .xor .i64 c d) < 0 ↔ (a < 0 ↔ 0 ≤ b) ∧ (c < 0 ↔ 0 ≤ d) := by
  rw [bits_and, bits_xor, bits_xor, ofInt_back, ofInt_back, neg_iff, BitVec.msb_and, BitVec.msb_xor, BitVec.msb_xor, msb_ofInt a ha1 ha2, msb_ofInt b hb1 hb2, msb_ofInt c hc1 hc2, msb_ofInt d hd1 hd2]
  by_cases h1 : a < 0 <;> by_cases h2 : b < 0 <;> by_cases h3 : c < 0 <;> by_cases h4 : d < 0 <;> simp [h1, h2, h3, h4] <;> omega

theorem nat_and_xor (x : Nat) : ∀ y : Nat, x + y = 2 * (x &&& y) + (x ^^^ y) := by
  induction x using Nat.strongRecOn with
  | ind x ih =>
    intro y
    by_cases h : x = 0
    · subst h; simp
    · have := ih (x / 2) (by omega) (y / 2)
      have e1 : (x &&& y) / 2 = x / 2 &&& y / 2 := Nat.and_div_two
      have e2 : (x ^^^ y) / 2 = x / 2 ^^^ y / 2 := Nat.xor_div_two
      have e3 : (x &&& y) % 2 = (x % 2) &&& (y % 2) := by simpa using (Nat.and_mod_two_pow (a := x) (b := y) (n := 1))
      have e4 : (x ^^^ y) % 2 = (x % 2) ^^^ (y % 2) := by simpa using (Nat.xor_mod_two_pow (a := x) (b := y) (n := 1))
      have hx : x % 2 = 0 ∨ x % 2 = 1 := by omega
      have hy : y % 2 = 0 ∨ y % 2 = 1 := by omega
      rcases hx with hx | hx <;> rcases hy with hy | hy <;> rw [hx, hy] at e3 e4
      · have f3 : (x &&& y) % 2 = 0 := e3
        have f4 : (x ^^^ y) % 2 = 0 := e4
        omega
      · have f3 : (x &&& y) % 2 = 0 := e3
        have f4 : (x ^^^ y) % 2 = 1 := e4
        omega
      · have f3 : (x &&& y) % 2 = 0 := e3
        have f4 : (x ^^^ y) % 2 = 1 := e4
        omega
      · have f3 : (x &&& y) % 2 = 1 := e3
        have f4 : (x ^^^ y) % 2 = 0 := e4
        omega

theorem half_bits (a b : Int) (ha1 : -9223372036854775808 ≤ a) (ha2 : a ≤ 9223372036854775807) (hb1 : -9223372036854775808 ≤ b) (hb2 : b ≤ 9223372036854775807) :
    a + b = 2 * bits .and .i64 a b + bits .xor .i64 a b := by
  rw [bits_and, bits_xor]
  have ea : (BitVec.ofInt 64 a).toInt = a := BitVec.toInt_ofInt_eq_self (by decide) (by omega) (by omega)
  have eb : (BitVec.ofInt 64 b).toInt = b := BitVec.toInt_ofInt_eq_self (by decide) (by omega) (by omega)
  generalize BitVec.ofInt 64 a = x at *
  generalize BitVec.ofInt 64 b = y at *
  subst ea eb
  have h := nat_and_xor x.toNat y.toNat
  rw [BitVec.toInt_eq_msb_cond, BitVec.toInt_eq_msb_cond, BitVec.toInt_eq_msb_cond, BitVec.toInt_eq_msb_cond, BitVec.msb_and, BitVec.msb_xor, BitVec.toNat_and, BitVec.toNat_xor]
  cases x.msb <;> cases y.msb <;> simp <;> omega

theorem bits_and_range (a b : Int) : -9223372036854775808 ≤ bits .and .i64 a b ∧ bits .and .i64 a b ≤ 9223372036854775807 := by
  rw [bits_and]
  have h1 := BitVec.le_toInt (BitVec.ofInt 64 a &&& BitVec.ofInt 64 b)
  have h2 := @BitVec.toInt_lt 64 (BitVec.ofInt 64 a &&& BitVec.ofInt 64 b)
  omega
theorem bits_xor_range (a b : Int) : -9223372036854775808 ≤ bits .xor .i64 a b ∧ bits .xor .i64 a b ≤ 9223372036854775807 := by
  rw [bits_xor]
  have h1 := BitVec.le_toInt (BitVec.ofInt 64 a ^^^ BitVec.ofInt 64 b)
  have h2 := @BitVec.toInt_lt 64 (BitVec.ofInt 64 a ^^^ BitVec.ofInt 64 b)
  omega

/-- What Mid computes. -/
theorem mid_eq (a b : Int) (ha1 : -9223372036854775808 ≤ a) (ha2 : a ≤ 9223372036854775807) (hb1 : -9223372036854775808 ≤ b) (hb2 : b ≤ 9223372036854775807) :
    bits .and .i64 a b + bits .xor .i64 a b / 2 = (a + b) / 2 := by
  have h := half_bits a b ha1 ha2 hb1 hb2
  omega

end Go.Proofs.Ytapphelmnkbfiaa.Exact
