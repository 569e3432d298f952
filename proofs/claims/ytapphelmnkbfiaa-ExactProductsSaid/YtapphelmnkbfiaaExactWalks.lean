/- The walks of layer 1's statements: each law, at all ints, returns true and leaves the world alone. -/
import Derived.Test.YtapphelmnkbfiaaExactCalls
import Derived.OpenShut
namespace Go.Proofs.Ytapphelmnkbfiaa.Exact
open Go.RowKit
set_option linter.unusedVariables false

theorem ret_int {k : IntKind} {a b : Int} (h : a = b) : Ending.returned (.int k a) = .returned (.int k b) := by rw [h]
theorem ret_true {c : Bool} (h : c = true) : Ending.returned (.bool c) = .returned (.bool true) := by rw [h]
theorem halves (a : Int) (ha1 : -9223372036854775808 ≤ a) (ha2 : a ≤ 9223372036854775807) :
    a ≤ 2 * a.tdiv 2 + a.tmod 2 ∧ 2 * a.tdiv 2 + a.tmod 2 ≤ a ∧ -1 ≤ a.tmod 2 ∧ a.tmod 2 ≤ 1 ∧ -4611686018427387904 ≤ a.tdiv 2 ∧ a.tdiv 2 ≤ 4611686018427387903 := by
  have h := Int.mul_tdiv_add_tmod a 2
  have h1 := Int.tmod_lt_of_pos a (b := 2) (by decide)
  have h2 := Int.lt_tmod_of_pos a (b := 2) (by decide)
  have h3 : 0 ≤ a → 0 ≤ a.tmod 2 := fun h => Int.tmod_nonneg 2 h
  omega
theorem half_any (a b : Int) (w : World) (ha1 : -9223372036854775808 ≤ a) (ha2 : a ≤ 9223372036854775807) (hb1 : -9223372036854775808 ≤ b) (hb2 : b ≤ 9223372036854775807) :
    Calls Try.prog 15 #[.int .i64 a, .int .i64 b] w fun e w' => e = .returned (.int .i64 ((a + b) / 2)) ∧ w = w' := by
  obtain ⟨p1, p2, p3, p4, p5, p6⟩ := halves a ha1 ha2
  obtain ⟨q1, q2, q3, q4, q5, q6⟩ := halves b hb1 hb2
  have hc : 2 ≤ a.tmod 2 + b.tmod 2 ∨ a.tmod 2 + b.tmod 2 ≤ -2 ∨ (-1 ≤ a.tmod 2 + b.tmod 2 ∧ a.tmod 2 + b.tmod 2 ≤ -1) ∨ (0 ≤ a.tmod 2 + b.tmod 2 ∧ a.tmod 2 + b.tmod 2 ≤ 1) := by omega
  rcases hc with hc | hc | ⟨hc, hc'⟩ | ⟨hc, hc'⟩
  · have t2 : (a.tmod 2 + b.tmod 2 == 2) = true := beq_iff_eq.2 (by omega)
    go_enter Try.func15, Try.ntmps15
    go_wp2
    go_ret
    exact ⟨ret_int (by omega), rfl⟩
  · have t2 : (a.tmod 2 + b.tmod 2 == 2) = false := beq_eq_false_iff_ne.2 (by omega)
    have tm2 : (a.tmod 2 + b.tmod 2 == -2) = true := beq_iff_eq.2 (by omega)
    go_enter Try.func15, Try.ntmps15
    go_wp2
    go_ret
    exact ⟨ret_int (by omega), rfl⟩
  · have t2 : (a.tmod 2 + b.tmod 2 == 2) = false := beq_eq_false_iff_ne.2 (by omega)
    have tm2 : (a.tmod 2 + b.tmod 2 == -2) = false := beq_eq_false_iff_ne.2 (by omega)
    have tm1 : (a.tmod 2 + b.tmod 2 == -1) = true := beq_iff_eq.2 (by omega)
    go_enter Try.func15, Try.ntmps15
    go_wp2
    go_ret
    exact ⟨ret_int (by omega), rfl⟩
  · have t2 : (a.tmod 2 + b.tmod 2 == 2) = false := beq_eq_false_iff_ne.2 (by omega)
    have tm2 : (a.tmod 2 + b.tmod 2 == -2) = false := beq_eq_false_iff_ne.2 (by omega)
    have tm1 : (a.tmod 2 + b.tmod 2 == -1) = false := beq_eq_false_iff_ne.2 (by omega)
    go_enter Try.func15, Try.ntmps15
    go_wp2
    go_ret
    exact ⟨ret_int (by omega), rfl⟩

theorem sums_walk (a b : Int) (w0 : (Lit.int .i64 a).wf = true) (w1 : (Lit.int .i64 b).wf = true) (w : World) :
    Calls Try.prog 3 #[.int .i64 a, .int .i64 b] w fun e w' => e = .returned (.bool true) ∧ Grown w w' := by
  obtain ⟨ha1, ha2⟩ := bounds_i64 w0
  obtain ⟨hb1, hb2⟩ := bounds_i64 w1
  clear w0 w1
  by_cases hl : b = -9223372036854775808
  · have hl' : b ≤ -9223372036854775808 := by omega
    clear hl
    by_cases hs : -9223372036854775808 ≤ a + b ∧ a + b ≤ 9223372036854775807
    · obtain ⟨hs1, hs2⟩ := hs
      have hl2 : decide (a < 0) = false := by simp; omega
      have HD : Hid (a - b < -9223372036854775808 ∨ 9223372036854775807 < a - b) := by show _ ∨ _; omega
      go_enter Try.func3, Try.ntmps3
      go_wp2_with fail
      refine (awake_any _).mono ?_
      rintro e w' ⟨rfl, rfl⟩
      go_wp2_with fail
      refine (add_yes _ _ _ ha1 ha2 hb1 hb2 hs1 hs2).mono ?_
      rintro e w' ⟨rfl, rfl⟩
      go_wp2_with fail
      refine (fits_yes _ _ _ ha1 ha2 hb1 hb2 hs1 hs2).mono ?_
      rintro e w' ⟨rfl, rfl⟩
      go_wp2_with fail
      refine (sub_no _ _ _ ha1 ha2 hb1 hb2 HD.out).mono ?_
      rintro e w' ⟨rfl, rfl⟩
      go_wp2_with fail
      go_ret
      exact ⟨rfl, Grown.refl _⟩
    · have HS : Hid (a + b < -9223372036854775808 ∨ 9223372036854775807 < a + b) := by show _ ∨ _; omega
      have hl2 : a < 0 := by omega
      clear hs
      have hd1 : -9223372036854775808 ≤ a - b := by omega
      have hd2 : a - b ≤ 9223372036854775807 := by omega
      go_enter Try.func3, Try.ntmps3
      go_wp2_with fail
      refine (awake_any _).mono ?_
      rintro e w' ⟨rfl, rfl⟩
      go_wp2_with fail
      refine (add_no _ _ _ ha1 ha2 hb1 hb2 HS.out).mono ?_
      rintro e w' ⟨rfl, rfl⟩
      go_wp2_with fail
      refine (fits_no _ _ _ ha1 ha2 hb1 hb2 HS.out).mono ?_
      rintro e w' ⟨rfl, rfl⟩
      go_wp2_with fail
      refine (sub_yes _ _ _ ha1 ha2 hb1 hb2 hd1 hd2).mono ?_
      rintro e w' ⟨rfl, rfl⟩
      go_wp2_with fail
      go_ret
      exact ⟨rfl, Grown.refl _⟩
  · have hl' : -9223372036854775808 < b := by omega
    clear hl
    by_cases hs : -9223372036854775808 ≤ a + b ∧ a + b ≤ 9223372036854775807
    · obtain ⟨hs1, hs2⟩ := hs
      by_cases hd : -9223372036854775808 ≤ a - b ∧ a - b ≤ 9223372036854775807
      · obtain ⟨hd1, hd2⟩ := hd
        go_enter Try.func3, Try.ntmps3
        go_wp2_with fail
        refine (awake_any _).mono ?_
        rintro e w' ⟨rfl, rfl⟩
        go_wp2_with fail
        refine (add_yes _ _ _ ha1 ha2 hb1 hb2 hs1 hs2).mono ?_
        rintro e w' ⟨rfl, rfl⟩
        go_wp2_with fail
        refine (fits_yes _ _ _ ha1 ha2 hb1 hb2 hs1 hs2).mono ?_
        rintro e w' ⟨rfl, rfl⟩
        go_wp2_with fail
        refine (sub_yes _ _ _ ha1 ha2 hb1 hb2 hd1 hd2).mono ?_
        rintro e w' ⟨rfl, rfl⟩
        go_wp2_with fail
        refine (fits_yes _ _ _ ha1 ha2 (by omega) (by omega) (by omega) (by omega)).mono ?_
        rintro e w' ⟨rfl, rfl⟩
        go_wp2_with fail
        go_ret
        exact ⟨rfl, Grown.refl _⟩
      · have HD : Hid (a - b < -9223372036854775808 ∨ 9223372036854775807 < a - b) := by show _ ∨ _; omega
        clear hd
        go_enter Try.func3, Try.ntmps3
        go_wp2_with fail
        refine (awake_any _).mono ?_
        rintro e w' ⟨rfl, rfl⟩
        go_wp2_with fail
        refine (add_yes _ _ _ ha1 ha2 hb1 hb2 hs1 hs2).mono ?_
        rintro e w' ⟨rfl, rfl⟩
        go_wp2_with fail
        refine (fits_yes _ _ _ ha1 ha2 hb1 hb2 hs1 hs2).mono ?_
        rintro e w' ⟨rfl, rfl⟩
        go_wp2_with fail
        refine (sub_no _ _ _ ha1 ha2 hb1 hb2 HD.out).mono ?_
        rintro e w' ⟨rfl, rfl⟩
        go_wp2_with fail
        refine (fits_no _ _ _ ha1 ha2 (by omega) (by omega) (by have := HD.out; omega)).mono ?_
        rintro e w' ⟨rfl, rfl⟩
        go_wp2_with fail
        go_ret
        exact ⟨rfl, Grown.refl _⟩
    · have HS : Hid (a + b < -9223372036854775808 ∨ 9223372036854775807 < a + b) := by show _ ∨ _; omega
      clear hs
      by_cases hd : -9223372036854775808 ≤ a - b ∧ a - b ≤ 9223372036854775807
      · obtain ⟨hd1, hd2⟩ := hd
        go_enter Try.func3, Try.ntmps3
        go_wp2_with fail
        refine (awake_any _).mono ?_
        rintro e w' ⟨rfl, rfl⟩
        go_wp2_with fail
        refine (add_no _ _ _ ha1 ha2 hb1 hb2 HS.out).mono ?_
        rintro e w' ⟨rfl, rfl⟩
        go_wp2_with fail
        refine (fits_no _ _ _ ha1 ha2 hb1 hb2 HS.out).mono ?_
        rintro e w' ⟨rfl, rfl⟩
        go_wp2_with fail
        refine (sub_yes _ _ _ ha1 ha2 hb1 hb2 hd1 hd2).mono ?_
        rintro e w' ⟨rfl, rfl⟩
        go_wp2_with fail
        refine (fits_yes _ _ _ ha1 ha2 (by omega) (by omega) (by omega) (by omega)).mono ?_
        rintro e w' ⟨rfl, rfl⟩
        go_wp2_with fail
        go_ret
        exact ⟨rfl, Grown.refl _⟩
      · have HD : Hid (a - b < -9223372036854775808 ∨ 9223372036854775807 < a - b) := by show _ ∨ _; omega
        clear hd
        go_enter Try.func3, Try.ntmps3
        go_wp2_with fail
        refine (awake_any _).mono ?_
        rintro e w' ⟨rfl, rfl⟩
        go_wp2_with fail
        refine (add_no _ _ _ ha1 ha2 hb1 hb2 HS.out).mono ?_
        rintro e w' ⟨rfl, rfl⟩
        go_wp2_with fail
        refine (fits_no _ _ _ ha1 ha2 hb1 hb2 HS.out).mono ?_
        rintro e w' ⟨rfl, rfl⟩
        go_wp2_with fail
        refine (sub_no _ _ _ ha1 ha2 hb1 hb2 HD.out).mono ?_
        rintro e w' ⟨rfl, rfl⟩
        go_wp2_with fail
        refine (fits_no _ _ _ ha1 ha2 (by omega) (by omega) (by have := HD.out; omega)).mono ?_
        rintro e w' ⟨rfl, rfl⟩
        go_wp2_with fail
        go_ret
        exact ⟨rfl, Grown.refl _⟩

theorem steps_walk (n : Int) (w0 : (Lit.int .i64 n).wf = true) (w : World) :
    Calls Try.prog 6 #[.int .i64 n] w fun e w' => e = .returned (.bool true) ∧ Grown w w' := by
  obtain ⟨h1, h2⟩ := bounds_i64 w0
  clear w0
  by_cases hm : n = 9223372036854775807
  · have h3 : 9223372036854775807 ≤ n := by omega
    have HM := Lib.hid hm
    clear hm
    go_enter Try.func6, Try.ntmps6
    go_wp2_with fail
    refine (awake_any _).mono ?_
    rintro e w' ⟨rfl, rfl⟩
    go_wp2_with fail
    refine (next_no _ _ HM.out).mono ?_
    rintro e w' ⟨rfl, rfl⟩
    go_wp2_with fail
    refine (prior_yes _ _ (by omega) h2).mono ?_
    rintro e w' ⟨rfl, rfl⟩
    go_wp2_with fail
    go_ret
    exact ⟨rfl, Grown.refl _⟩
  · by_cases hl : n = -9223372036854775808
    · have h3 : n ≤ -9223372036854775808 := by omega
      have HL := Lib.hid hl
      clear hl hm
      go_enter Try.func6, Try.ntmps6
      go_wp2_with fail
      refine (awake_any _).mono ?_
      rintro e w' ⟨rfl, rfl⟩
      go_wp2_with fail
      refine (next_yes _ _ h1 (by omega)).mono ?_
      rintro e w' ⟨rfl, rfl⟩
      go_wp2_with fail
      refine (prior_no _ _ HL.out).mono ?_
      rintro e w' ⟨rfl, rfl⟩
      go_wp2_with fail
      go_ret
      exact ⟨rfl, Grown.refl _⟩
    · have h3 : -9223372036854775808 < n := by omega
      have h4 : n < 9223372036854775807 := by omega
      clear hl hm
      go_enter Try.func6, Try.ntmps6
      go_wp2_with fail
      refine (awake_any _).mono ?_
      rintro e w' ⟨rfl, rfl⟩
      go_wp2_with fail
      refine (next_yes _ _ h1 h4).mono ?_
      rintro e w' ⟨rfl, rfl⟩
      go_wp2_with fail
      refine (prior_yes _ _ h3 h2).mono ?_
      rintro e w' ⟨rfl, rfl⟩
      go_wp2_with fail
      go_ret
      exact ⟨rfl, Grown.refl _⟩

theorem mid_sw (a b : Int) (w : World) (ha1 : -9223372036854775808 ≤ a) (ha2 : a ≤ 9223372036854775807) (hb1 : -9223372036854775808 ≤ b) (hb2 : b ≤ 9223372036854775807) :
    Calls Try.prog 14 #[.int .i64 b, .int .i64 a] w fun e w' => e = .returned (.int .i64 ((a + b) / 2)) ∧ w = w' := by
  rw [Int.add_comm a b]; exact mid_any b a w hb1 hb2 ha1 ha2

theorem mids_walk (a b : Int) (w0 : (Lit.int .i64 a).wf = true) (w1 : (Lit.int .i64 b).wf = true) (w : World) :
    Calls Try.prog 5 #[.int .i64 a, .int .i64 b] w fun e w' => e = .returned (.bool true) ∧ Grown w w' := by
  obtain ⟨ha1, ha2⟩ := bounds_i64 w0
  obtain ⟨hb1, hb2⟩ := bounds_i64 w1
  clear w0 w1
  by_cases hab : a ≤ b
  · go_enter Try.func5, Try.ntmps5
    go_wp2_with fail
    refine (awake_any _).mono ?_
    rintro e w' ⟨rfl, rfl⟩
    go_wp2_with fail
    refine (mid_any _ _ _ ha1 ha2 hb1 hb2).mono ?_
    rintro e w' ⟨rfl, rfl⟩
    go_wp2_with fail
    refine (half_any _ _ _ ha1 ha2 hb1 hb2).mono ?_
    rintro e w' ⟨rfl, rfl⟩
    go_wp2_with fail
    refine (mid_sw _ _ _ ha1 ha2 hb1 hb2).mono ?_
    rintro e w' ⟨rfl, rfl⟩
    go_wp2_with fail
    all_goals go_ret
    all_goals exact ⟨ret_true (by simp; omega), Grown.refl _⟩
  · go_enter Try.func5, Try.ntmps5
    go_wp2_with fail
    refine (awake_any _).mono ?_
    rintro e w' ⟨rfl, rfl⟩
    go_wp2_with fail
    refine (mid_any _ _ _ ha1 ha2 hb1 hb2).mono ?_
    rintro e w' ⟨rfl, rfl⟩
    go_wp2_with fail
    refine (half_any _ _ _ ha1 ha2 hb1 hb2).mono ?_
    rintro e w' ⟨rfl, rfl⟩
    go_wp2_with fail
    refine (mid_sw _ _ _ ha1 ha2 hb1 hb2).mono ?_
    rintro e w' ⟨rfl, rfl⟩
    go_wp2_with fail
    all_goals go_ret
    all_goals exact ⟨ret_true (by simp; omega), Grown.refl _⟩
end Go.Proofs.Ytapphelmnkbfiaa.Exact
