/- Sets of slots, a bit of each; the least one. Nothing of the program. -/
import Derived.Test.YtobdpddamdkabaaDoorRxP
namespace Go.Proofs.YtobdpddamdkabaaDoor.Tg
open Go.RowKit
set_option linter.unusedVariables false
/-- the least bit of a number: 64 if there is none -/
def tzN (x : Nat) : Nat := (List.range 64).findIdx (fun k => x.testBit k)
theorem tzN_le (x : Nat) : tzN x ≤ 64 := by
  have := List.findIdx_le_length (xs := List.range 64) (p := fun k => x.testBit k)
  simpa [tzN] using this
theorem tzN_lt {x : Nat} (h : tzN x < 64) : x.testBit (tzN x) = true ∧ ∀ j, j < tzN x → x.testBit j = false := by
  have hl : (List.range 64).findIdx (fun k => x.testBit k) < (List.range 64).length := by simpa [tzN] using h
  refine ⟨?_, fun j hj => ?_⟩
  · have := List.findIdx_getElem (w := hl)
    simpa [tzN] using this
  · have hj' : j < (List.range 64).findIdx (fun k => x.testBit k) := hj
    have := List.not_of_lt_findIdx hj'
    simpa using this
theorem tzN_eq {x k : Nat} (hk : k < 64) (h1 : x.testBit k = true) (h2 : ∀ j, j < k → x.testBit j = false) : tzN x = k := by
  rcases Nat.lt_trichotomy (tzN x) k with h | h | h
  · have := (tzN_lt (x := x) (by omega)).1
    rw [h2 _ h] at this
    cases this
  · exact h
  · have hk' : k < (List.range 64).findIdx (fun k => x.testBit k) := h
    have := List.not_of_lt_findIdx hk'
    simp [h1] at this
theorem tzN_some {x : Nat} (h : x < 2 ^ 64) (h0 : x ≠ 0) : tzN x < 64 := by
  obtain ⟨i, hi⟩ := Nat.exists_testBit_of_ne_zero h0
  have hi64 : i < 64 := by
    rcases Nat.lt_or_ge i 64 with h1 | h1
    · exact h1
    · rw [Nat.testBit_lt_two_pow (Nat.lt_of_lt_of_le h (Nat.pow_le_pow_right (by decide) h1))] at hi
      cases hi
  have := List.findIdx_lt_length_of_exists (xs := List.range 64) (p := fun k => x.testBit k) ⟨i, by simpa using hi64, hi⟩
  simpa [tzN] using this
theorem low_bit {x : Nat} (h : x < 2 ^ 64) (h0 : x ≠ 0) : x &&& (2 ^ 64 - x) = 2 ^ tzN x := by
  have hk := tzN_some h h0
  obtain ⟨h1, h2⟩ := tzN_lt hk
  generalize tzN x = k at *
  have hx : x = 2 ^ k * (x / 2 ^ k) := by
    apply Nat.eq_of_testBit_eq
    intro i
    rw [Nat.testBit_two_pow_mul, Nat.testBit_div_two_pow]
    by_cases hi : k ≤ i
    · simp [hi]
    · simp [hi, h2 i (by omega)]
  have hodd : (x / 2 ^ k).testBit 0 = true := by rw [Nat.testBit_div_two_pow]; simpa using h1
  have ho : x / 2 ^ k = 2 * (x / 2 ^ k / 2) + 1 := by
    have : (x / 2 ^ k) % 2 = 1 := by simpa [Nat.testBit_zero] using hodd
    omega
  generalize hq : x / 2 ^ k / 2 = q at ho
  rw [ho] at hx
  apply Nat.eq_of_testBit_eq
  intro i
  rw [Nat.testBit_and, Nat.testBit_two_pow]
  have e1 : 2 ^ 64 - x = 2 ^ 64 - ((x - 1) + 1) := by omega
  rw [e1, Nat.testBit_two_pow_sub_succ (by omega)]
  have e2 : x - 1 = 2 ^ k * (2 * q) + (2 ^ k - 1) := by
    have : 0 < 2 ^ k := Nat.two_pow_pos k
    rw [hx, Nat.mul_add]; omega
  rw [e2, Nat.testBit_two_pow_mul_add _ (by have := Nat.two_pow_pos k; omega)]
  by_cases hi : i < k
  · rw [h2 i hi]; simp; omega
  · rw [if_neg hi]
    have e3 : x.testBit i = (2 * q + 1).testBit (i - k) := by
      conv => lhs; rw [hx]
      rw [Nat.testBit_two_pow_mul]
      simp [show k ≤ i by omega]
    rw [e3]
    by_cases hik : i = k
    · subst hik
      have : (2 * q + 1).testBit 0 = true := by rw [Nat.testBit_zero]; simp
      simp [this, hk, Nat.testBit_zero]
    · obtain ⟨j, hj⟩ : ∃ j, i - k = j + 1 := ⟨i - k - 1, by omega⟩
      rw [hj, Nat.testBit_succ, Nat.testBit_succ]
      have a1 : (2 * q + 1) / 2 = q := by omega
      have a2 : 2 * q / 2 = q := by omega
      rw [a1, a2]
      have : ¬ k = i := fun e => hik e.symm
      cases q.testBit j <;> simp [this]
/-- the least bit, of what a word holds -/
def tz (x : Int) : Int := tzN x.toNat
/-- is the slot among them -/
def bitW (wo : List Int) (i : Nat) : Bool := (wo.getD (i / 64) 0).toNat.testBit (i % 64)
def okW (wo : List Int) : Prop := ∀ x ∈ wo, 0 ≤ x ∧ x < 18446744073709551616
theorem getD_ok {wo : List Int} (h : okW wo) (k : Nat) : 0 ≤ wo.getD k 0 ∧ wo.getD k 0 < 18446744073709551616 := by
  rcases Nat.lt_or_ge k wo.length with hk | hk
  · exact h _ (Rx.getD_mem hk)
  · rw [List.getD_eq_getElem?_getD, List.getElem?_eq_none hk]; simp
/-- words enough, a slot more, a slot less -/
def growW (wo : List Int) (n : Nat) : List Int := wo ++ List.replicate (n + 1 - wo.length) 0
def withW (wo : List Int) (s : Nat) : List Int := (growW wo (s / 64)).set (s / 64) (bits .or .u64 ((growW wo (s / 64)).getD (s / 64) 0) (2 ^ (s % 64)))
def lessW (wo : List Int) (s : Nat) : List Int := if s / 64 < wo.length then wo.set (s / 64) (bits .andNot .u64 (wo.getD (s / 64) 0) (2 ^ (s % 64))) else wo
theorem ofInt_nat (a : Nat) (h : a < 18446744073709551616) : (BitVec.ofInt 64 (a : Int)).toNat = a := by
  rw [BitVec.toNat_ofInt]
  have : ((a : Int) % ((2 ^ 64 : Nat) : Int)) = a := Int.emod_eq_of_lt (by omega) (by exact_mod_cast h)
  rw [this]; rfl
theorem wrap_nat (a : Nat) (h : a < 18446744073709551616) : IntKind.u64.wrap (a : Int) = a := by
  simp [IntKind.wrap, IntKind.bits, IntKind.signed]; omega
theorem bits_or (a b : Int) (ha : 0 ≤ a) (ha' : a < 18446744073709551616) (hb : 0 ≤ b) (hb' : b < 18446744073709551616) : bits .or .u64 a b = ((a.toNat ||| b.toNat : Nat) : Int) := by
  obtain ⟨a, rfl⟩ := Int.eq_ofNat_of_zero_le ha
  obtain ⟨b, rfl⟩ := Int.eq_ofNat_of_zero_le hb
  have h1 : a < 18446744073709551616 := by omega
  have h2 : b < 18446744073709551616 := by omega
  have e : bits .or .u64 (a : Int) (b : Int) = IntKind.u64.wrap (((BitVec.ofInt 64 (a : Int) ||| BitVec.ofInt 64 (b : Int)).toNat : Nat) : Int) := rfl
  rw [e, BitVec.toNat_or, ofInt_nat a h1, ofInt_nat b h2, wrap_nat _ (Nat.or_lt_two_pow (n := 64) h1 h2)]
  rfl
theorem bits_andNot (a b : Int) (ha : 0 ≤ a) (ha' : a < 18446744073709551616) (hb : 0 ≤ b) (hb' : b < 18446744073709551616) :
    0 ≤ bits .andNot .u64 a b ∧ bits .andNot .u64 a b < 18446744073709551616 ∧ ∀ i, (bits .andNot .u64 a b).toNat.testBit i = (a.toNat.testBit i && !b.toNat.testBit i) := by
  obtain ⟨a, rfl⟩ := Int.eq_ofNat_of_zero_le ha
  obtain ⟨b, rfl⟩ := Int.eq_ofNat_of_zero_le hb
  have h1 : a < 18446744073709551616 := by omega
  have h2 : b < 18446744073709551616 := by omega
  have e : bits .andNot .u64 (a : Int) (b : Int) = IntKind.u64.wrap (((BitVec.ofInt 64 (a : Int) &&& ~~~BitVec.ofInt 64 (b : Int)).toNat : Nat) : Int) := rfl
  have hlt := (BitVec.ofInt 64 (a : Int) &&& ~~~BitVec.ofInt 64 (b : Int)).isLt
  rw [wrap_nat _ hlt] at e
  rw [e]
  refine ⟨Int.natCast_nonneg _, Int.ofNat_lt.2 hlt, fun i => ?_⟩
  rw [Int.toNat_natCast, ← BitVec.getLsbD, BitVec.getLsbD_and, BitVec.getLsbD_not]
  have g1 : (BitVec.ofInt 64 (a : Int)).getLsbD i = a.testBit i := by rw [BitVec.getLsbD, ofInt_nat a h1]
  have g2 : (BitVec.ofInt 64 (b : Int)).getLsbD i = b.testBit i := by rw [BitVec.getLsbD, ofInt_nat b h2]
  rw [g1, g2, Int.toNat_natCast, Int.toNat_natCast]
  by_cases hi : i < 64
  · simp [hi]
  · rw [Nat.testBit_lt_two_pow (Nat.lt_of_lt_of_le h1 (Nat.pow_le_pow_right (n := 2) (by decide) (Nat.le_of_not_lt hi)))]
    simp
theorem pow_u64 {k : Nat} (h : k < 64) : (2 ^ k : Int) < 18446744073709551616 := by
  have h1 : (2 ^ k : Nat) < 2 ^ 64 := Nat.pow_lt_pow_right (by decide) h
  have h2 := Int.ofNat_lt.2 h1
  rw [Int.natCast_pow] at h2
  exact h2
theorem pow_nn (k : Nat) : (0 : Int) ≤ 2 ^ k := by
  have : (0 : Int) < 2 ^ k := Int.pow_pos (by decide)
  omega
theorem pow_toNat (k : Nat) : ((2 : Int) ^ k).toNat = 2 ^ k := by
  have : ((2 : Int) ^ k) = ((2 ^ k : Nat) : Int) := by simp
  rw [this]; rfl
theorem grow_get (wo : List Int) (n k : Nat) : (growW wo n).getD k 0 = wo.getD k 0 := by
  unfold growW
  rw [List.getD_eq_getElem?_getD, List.getD_eq_getElem?_getD]
  rcases Nat.lt_or_ge k wo.length with h | h
  · rw [List.getElem?_append_left h]
  · rw [List.getElem?_append_right h, List.getElem?_eq_none h, List.getElem?_replicate]
    split <;> rfl
theorem grow_len (wo : List Int) (n : Nat) : n < (growW wo n).length := by unfold growW; simp; omega
theorem grow_ok {wo : List Int} (h : okW wo) (n : Nat) : okW (growW wo n) := by
  intro x hx
  unfold growW at hx
  rcases List.mem_append.1 hx with hx | hx
  · exact h x hx
  · rw [(List.mem_replicate.1 hx).2]; omega
theorem with_ok {wo : List Int} (h : okW wo) (s : Nat) : okW (withW wo s) := by
  intro x hx
  rcases List.mem_or_eq_of_mem_set hx with hx | rfl
  · exact grow_ok h _ x hx
  · obtain ⟨g1, g2⟩ := getD_ok (grow_ok h (s / 64)) (s / 64)
    have hk := pow_u64 (k := s % 64) (by omega)
    rw [bits_or _ _ g1 g2 (pow_nn _) hk]
    refine ⟨Int.natCast_nonneg _, ?_⟩
    have := Nat.or_lt_two_pow (n := 64) (x := ((growW wo (s / 64)).getD (s / 64) 0).toNat) (y := ((2 : Int) ^ (s % 64)).toNat) (by omega) (by omega)
    exact Int.ofNat_lt.2 this
theorem with_bit {wo : List Int} (h : okW wo) (s i : Nat) : bitW (withW wo s) i = (bitW wo i || decide (i = s)) := by
  obtain ⟨g1, g2⟩ := getD_ok (grow_ok h (s / 64)) (s / 64)
  have hk := pow_u64 (k := s % 64) (by omega)
  unfold bitW withW
  rw [Rx.getD_set]
  by_cases hq : s / 64 = i / 64
  · rw [if_pos ⟨hq, grow_len _ _⟩, bits_or _ _ g1 g2 (pow_nn _) hk, Int.toNat_natCast, Nat.testBit_or, grow_get, pow_toNat, Nat.testBit_two_pow, hq]
    congr 1
    by_cases he : i = s
    · subst he; simp
    · have : ¬ s % 64 = i % 64 := by omega
      simp [he, this]
  · rw [if_neg (fun e => hq e.1), grow_get]
    have : ¬ i = s := by intro e; subst e; exact hq rfl
    simp [this]
theorem less_ok {wo : List Int} (h : okW wo) (s : Nat) : okW (lessW wo s) := by
  unfold lessW
  split
  · intro x hx
    rcases List.mem_or_eq_of_mem_set hx with hx | rfl
    · exact h x hx
    · obtain ⟨g1, g2⟩ := getD_ok h (s / 64)
      obtain ⟨h1, h2, _⟩ := bits_andNot _ _ g1 g2 (pow_nn (s % 64)) (pow_u64 (by omega))
      exact ⟨h1, h2⟩
  · exact h
theorem less_bit {wo : List Int} (h : okW wo) (s i : Nat) : bitW (lessW wo s) i = (bitW wo i && !decide (i = s)) := by
  obtain ⟨g1, g2⟩ := getD_ok h (s / 64)
  obtain ⟨_, _, h3⟩ := bits_andNot _ _ g1 g2 (pow_nn (s % 64)) (pow_u64 (by omega))
  unfold lessW
  split
  · rename_i hl
    unfold bitW
    rw [Rx.getD_set]
    by_cases hq : s / 64 = i / 64
    · rw [if_pos ⟨hq, hl⟩, h3, pow_toNat, Nat.testBit_two_pow, hq]
      congr 2
      by_cases he : i = s
      · subst he; simp
      · have : ¬ s % 64 = i % 64 := by omega
        simp [he, this]
    · rw [if_neg (fun e => hq e.1)]
      have : ¬ i = s := by intro e; subst e; exact hq rfl
      simp [this]
  · rename_i hl
    by_cases he : i = s
    · subst he
      unfold bitW
      rw [List.getD_eq_getElem?_getD, List.getElem?_eq_none (by omega)]
      simp
    · simp [he]
/-- the first word that has a bit, from one on -/
def firstW (wo : List Int) (fr : Nat) : Nat := fr + ((wo.drop fr).takeWhile (fun x => x == 0)).length
theorem firstW_lt {wo : List Int} {fr : Nat} (h : fr < wo.length) (h0 : wo.getD fr 0 = 0) : firstW wo fr = firstW wo (fr + 1) := by
  unfold firstW
  rw [List.drop_eq_getElem_cons h, List.takeWhile_cons]
  have e : wo[fr] = 0 := by rw [List.getD_eq_getElem?_getD, List.getElem?_eq_getElem h] at h0; exact h0
  simp [e]; omega
theorem firstW_at {wo : List Int} {fr : Nat} (h : fr < wo.length) (h0 : wo.getD fr 0 ≠ 0) : firstW wo fr = fr := by
  unfold firstW
  rw [List.drop_eq_getElem_cons h, List.takeWhile_cons]
  have e : wo[fr] ≠ 0 := by rw [List.getD_eq_getElem?_getD, List.getElem?_eq_getElem h] at h0; exact h0
  simp [e]
theorem firstW_end {wo : List Int} {fr : Nat} (h : wo.length ≤ fr) : firstW wo fr = fr := by
  unfold firstW
  rw [List.drop_eq_nil_of_le h]; rfl
/-- the least one: whether there is one, and which -/
def leastW (wo : List Int) (fr : Nat) : Int := if firstW wo fr < wo.length then (firstW wo fr : Int) * 64 + tz (wo.getD (firstW wo fr) 0) else 0
def anyW (wo : List Int) (fr : Nat) : Bool := decide (firstW wo fr < wo.length)
theorem firstW_zero {wo : List Int} : ∀ (n fr : Nat), wo.length - fr = n → ∀ j, fr ≤ j → j < firstW wo fr → wo.getD j 0 = 0
  | 0, fr, hn, j, h1, h2 => by rw [firstW_end (by omega)] at h2; omega
  | n + 1, fr, hn, j, h1, h2 => by
    by_cases h0 : wo.getD fr 0 = 0
    · rw [firstW_lt (by omega) h0] at h2
      by_cases hj : j = fr
      · rw [hj]; exact h0
      · exact firstW_zero n (fr + 1) (by omega) j (by omega) h2
    · rw [firstW_at (by omega) h0] at h2; omega
theorem firstW_ne {wo : List Int} : ∀ (n fr : Nat), wo.length - fr = n → firstW wo fr < wo.length → wo.getD (firstW wo fr) 0 ≠ 0
  | 0, fr, hn, h => by rw [firstW_end (by omega)] at h; omega
  | n + 1, fr, hn, h => by
    by_cases h0 : wo.getD fr 0 = 0
    · rw [firstW_lt (by omega) h0] at h ⊢; exact firstW_ne n (fr + 1) (by omega) h
    · rw [firstW_at (by omega) h0]; exact h0
theorem firstW_ge (wo : List Int) (fr : Nat) : fr ≤ firstW wo fr := by unfold firstW; omega
theorem firstW_le {wo : List Int} {fr : Nat} (h : fr ≤ wo.length) : firstW wo fr ≤ wo.length := by
  unfold firstW
  have := (List.takeWhile_sublist (l := wo.drop fr) (fun x => x == 0)).length_le
  rw [List.length_drop] at this
  omega
/-- the least slot of the set -/
theorem least_is {wo : List Int} {fr : Nat} (h : okW wo) (hf : ∀ j, j < fr → wo.getD j 0 = 0) (ha : anyW wo fr = true) :
    ∃ s : Nat, leastW wo fr = s ∧ s / 64 = firstW wo fr ∧ bitW wo s = true ∧ ∀ i, i < s → bitW wo i = false := by
  have hl : firstW wo fr < wo.length := by simpa [anyW] using ha
  have hne := firstW_ne _ fr rfl hl
  obtain ⟨g1, g2⟩ := getD_ok h (firstW wo fr)
  have h0 : (wo.getD (firstW wo fr) 0).toNat ≠ 0 := by omega
  have hk := tzN_some (x := (wo.getD (firstW wo fr) 0).toNat) (by omega) h0
  obtain ⟨k1, k2⟩ := tzN_lt hk
  refine ⟨firstW wo fr * 64 + tzN (wo.getD (firstW wo fr) 0).toNat, ?_, by omega, ?_, fun i hi => ?_⟩
  · unfold leastW tz
    rw [if_pos hl]; omega
  · unfold bitW
    rw [show (firstW wo fr * 64 + tzN (wo.getD (firstW wo fr) 0).toNat) / 64 = firstW wo fr by omega, show (firstW wo fr * 64 + tzN (wo.getD (firstW wo fr) 0).toNat) % 64 = tzN (wo.getD (firstW wo fr) 0).toNat by omega]
    exact k1
  · unfold bitW
    by_cases hq : i / 64 = firstW wo fr
    · rw [hq]
      exact k2 _ (by omega)
    · have hz : wo.getD (i / 64) 0 = 0 := by
        by_cases hlt : i / 64 < fr
        · exact hf _ hlt
        · exact firstW_zero _ fr rfl _ (by omega) (by omega)
      rw [hz]; simp
theorem none_is {wo : List Int} {fr : Nat} (hf : ∀ j, j < fr → wo.getD j 0 = 0) (ha : anyW wo fr = false) (i : Nat) : bitW wo i = false := by
  have hl : wo.length ≤ firstW wo fr := by simpa [anyW] using ha
  unfold bitW
  have hz : wo.getD (i / 64) 0 = 0 := by
    by_cases hlt : i / 64 < fr
    · exact hf _ hlt
    · rcases Nat.lt_or_ge (i / 64) wo.length with h1 | h1
      · exact firstW_zero _ fr rfl _ (by omega) (by omega)
      · rw [List.getD_eq_getElem?_getD, List.getElem?_eq_none h1]; rfl
  rw [hz]; simp
end Go.Proofs.YtobdpddamdkabaaDoor.Tg
