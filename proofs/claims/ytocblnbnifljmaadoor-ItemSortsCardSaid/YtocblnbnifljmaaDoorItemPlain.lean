/- Numerals and texts of items: plain facts on lists of bytes; nothing of the program. -/
import Derived.Lib.ItoaLen
import Derived.Lib.AtoiAllCases
import Derived.Lib.IndexMore
import Derived.RowKit
namespace Go.Proofs.YtocblnbnifljmaaDoor.Item
open Go Go.Lib Go.RowKit

/-- the digits of u, none for 0 -/
def dd0 (u : Nat) : List UInt8 := if u = 0 then [] else decDigits u
theorem dd0_step (u : Nat) (h : u ≠ 0) : dd0 u = dd0 (u / 10) ++ [UInt8.ofNat (48 + u % 10)] := by
  unfold dd0
  rw [if_neg h]
  by_cases h10 : u < 10
  · rw [if_pos (by omega), decDigits_one h10, Nat.mod_eq_of_lt h10]; rfl
  · rw [if_neg (by omega), decDigits, dif_neg h10]

theorem itoa_dd0 (n : Int) (h : n ≠ 0) : itoa n = (if n < 0 then [45] else []) ++ dd0 n.natAbs := by
  unfold itoa dd0
  by_cases hn : n < 0
  · rw [if_pos hn, if_pos hn, if_neg (by omega)]; rfl
  · rw [if_neg hn, if_neg hn, if_neg (by omega), show n.toNat = n.natAbs by omega]; rfl
theorem itoa_zero : itoa 0 = [48] := by
  unfold itoa; rw [if_neg (by omega)]; exact decDigits_one (by decide)

/-- every byte of a numeral is a digit -/
theorem decDigits_digits (u : Nat) : ∀ c ∈ decDigits u, 48 ≤ c.toNat ∧ c.toNat ≤ 57 := by
  rw [decDigits_eq]
  intro c hc
  simp only [List.mem_map] at hc
  obtain ⟨t, _, rfl⟩ := hc
  unfold dg
  have : u / 10 ^ (nDigits u - 1 - t) % 10 < 10 := Nat.mod_lt _ (by decide)
  generalize u / 10 ^ (nDigits u - 1 - t) % 10 = d at this
  rw [UInt8.toNat_ofNat']
  omega
theorem decDigits_ne (u : Nat) : decDigits u ≠ [] := by
  intro h
  have := decDigits_length u
  have := nDigits_pos u
  rw [h] at *
  simp at *
  omega

/-- value of a list of digits, from acc on -/
def valNat (acc : Nat) : List UInt8 → Nat
  | [] => acc
  | c :: r => valNat (acc * 10 + (c.toNat - 48)) r
theorem valNat_append (acc : Nat) (l m : List UInt8) : valNat acc (l ++ m) = valNat (valNat acc l) m := by
  induction l generalizing acc with
  | nil => rfl
  | cons c r ih => exact ih _
theorem ofNat_digit (d : Nat) (h : d < 10) : (UInt8.ofNat (48 + d)).toNat = 48 + d := by
  rw [UInt8.toNat_ofNat']; omega
theorem valNat_dec (u : Nat) : valNat 0 (decDigits u) = u := by
  induction u using Nat.strongRecOn with
  | _ u ih =>
    by_cases h : u < 10
    · rw [decDigits_one h]
      show 0 * 10 + ((UInt8.ofNat (48 + u)).toNat - 48) = u
      rw [ofNat_digit u h]; omega
    · rw [decDigits, dif_neg h, valNat_append, ih (u / 10) (by omega)]
      show u / 10 * 10 + ((UInt8.ofNat (48 + u % 10)).toNat - 48) = u
      rw [ofNat_digit _ (Nat.mod_lt _ (by decide))]
      omega
theorem valNat_mono (l : List UInt8) : ∀ acc, acc ≤ valNat acc l := by
  induction l with
  | nil => intro acc; exact Nat.le_refl _
  | cons c r ih => intro acc; exact Nat.le_trans (by omega) (ih _)
/-- the first k digits' value is not above the whole one's -/
theorem valNat_take_le (l : List UInt8) (k : Nat) : valNat 0 (l.take k) ≤ valNat 0 l := by
  have h := valNat_append 0 (l.take k) (l.drop k)
  rw [List.take_append_drop] at h
  rw [h]; exact valNat_mono _ _

theorem parse_digits (l : List UInt8) : ∀ acc, (∀ c ∈ l, 48 ≤ c.toNat ∧ c.toNat ≤ 57) → valNat acc l < 18446744073709551616 → parseUint10 acc l = .ok (valNat acc l) := by
  induction l with
  | nil => intro acc _ _; rfl
  | cons c r ih =>
    intro acc hd hv
    have hc := hd c (by simp)
    have hm := valNat_mono r (acc * 10 + (c.toNat - 48))
    have ev : valNat acc (c :: r) = valNat (acc * 10 + (c.toNat - 48)) r := rfl
    rw [ev] at hv ⊢
    unfold parseUint10
    rw [if_pos hc, if_neg (by omega), if_neg (by omega)]
    exact ih _ (fun x hx => hd x (by simp [hx])) hv

theorem atoiAll_itoa (n : Int) (h0 : -9223372036854775808 ≤ n) (h1 : n ≤ 9223372036854775807) : atoiAll (itoa n) = .ok n := by
  by_cases hneg : n < 0
  · obtain ⟨u, rfl⟩ : ∃ u : Nat, n = -(u : Int) := ⟨n.natAbs, by omega⟩
    rw [itoa_neg u (by omega), atoiAll_minus]
    have hp := parse_digits (decDigits u) 0 (decDigits_digits u) (by rw [valNat_dec]; omega)
    rw [valNat_dec] at hp
    unfold parseMag
    rw [if_neg (decDigits_ne u), hp]
    simp only [signed]
    rw [if_neg (by omega)]
  · obtain ⟨u, rfl⟩ : ∃ u : Nat, n = u := ⟨n.toNat, by omega⟩
    rw [itoa_nonneg]
    have hp := parse_digits (decDigits u) 0 (decDigits_digits u) (by rw [valNat_dec]; omega)
    rw [valNat_dec] at hp
    have hdig := decDigits_digits u
    have hne := decDigits_ne u
    cases hl : decDigits u with
    | nil => exact absurd hl hne
    | cons c r =>
      rw [hl] at hdig hp
      have hc := hdig c (by simp)
      rw [atoiAll_plain c r (by omega) (by omega)]
      unfold parseMag
      rw [if_neg (by simp), hp]
      simp only [signless]
      rw [if_neg (by omega)]
theorem itoa_inj {a b : Int} (ha : -9223372036854775808 ≤ a ∧ a ≤ 9223372036854775807) (hb : -9223372036854775808 ≤ b ∧ b ≤ 9223372036854775807) (h : itoa a = itoa b) : a = b := by
  have h1 := atoiAll_itoa a ha.1 ha.2
  rw [h, atoiAll_itoa b hb.1 hb.2] at h1
  injection h1 with h1
  exact h1.symm

theorem itoa_len (n : Int) (h0 : -9223372036854775808 ≤ n) (h1 : n ≤ 9223372036854775807) : (itoa n).length ≤ 20 := by
  have key : ∀ u : Nat, u ≤ 9223372036854775808 → (decDigits u).length ≤ 19 := by
    intro u hu
    rw [decDigits_length]
    rcases Nat.lt_or_ge (nDigits u) 20 with h | h
    · omega
    · exfalso
      obtain ⟨k, hk⟩ : ∃ k, nDigits u = 20 + k := ⟨nDigits u - 20, by omega⟩
      have e : ∀ (j v : Nat), nDigits v = j + 1 → 10 ^ j ≤ v ∨ j = 0 := by
        intro j
        induction j with
        | zero => intro v _; exact Or.inr rfl
        | succ j ih =>
          intro v hv
          left
          by_cases h10 : v < 10
          · rw [nDigits_small h10] at hv; omega
          · rw [nDigits_big h10] at hv
            rcases ih (v / 10) (by omega) with h | h
            · rw [Nat.pow_succ]; omega
            · subst h; simp; omega
      rcases e (19 + k) u (by omega) with h2 | h2
      · have : 10 ^ 19 ≤ 10 ^ (19 + k) := Nat.pow_le_pow_right (by decide) (by omega)
        have e19 : (10 : Nat) ^ 19 = 10000000000000000000 := by decide
        omega
      · omega
  by_cases hneg : n < 0
  · obtain ⟨u, rfl⟩ : ∃ u : Nat, n = -(u : Int) := ⟨n.natAbs, by omega⟩
    rw [itoa_neg u (by omega), List.length_cons]
    have := key u (by omega)
    omega
  · obtain ⟨u, rfl⟩ : ∃ u : Nat, n = u := ⟨n.toNat, by omega⟩
    rw [itoa_nonneg]
    have := key u (by omega)
    omega
theorem itoa_no35 (n : Int) : ∀ c ∈ itoa n, c ≠ 35 := by
  have key : ∀ u : Nat, ∀ c ∈ decDigits u, c ≠ 35 := by
    intro u c hc h
    have := decDigits_digits u c hc
    subst h
    revert this; decide
  unfold itoa
  intro c hc
  split at hc
  · rcases List.mem_cons.1 hc with rfl | h
    · decide
    · exact key _ c h
  · exact key _ c hc
theorem itoa_ne (n : Int) : itoa n ≠ [] := by
  unfold itoa; split
  · simp
  · exact decDigits_ne _

/-! ### the loop of Value -/
/-- what the loop holds after k rounds -/
def valTo (l : List UInt8) : Nat → Int
  | 0 => 0
  | k + 1 =>
    if 0 < k ∨ l.getD 0 0 ≠ 45 then
      wrap64 (wrap64 (valTo l k * 10) + (if l.getD 0 0 = 45 then -((l.getD k 0).toNat - 48 : Int) else ((l.getD k 0).toNat - 48 : Int)))
    else valTo l k
theorem wrap64_in (n : Int) (h0 : -9223372036854775808 ≤ n) (h1 : n ≤ 9223372036854775807) : wrap64 n = n := by unfold wrap64; omega
theorem wrap64_bounds (n : Int) : -9223372036854775808 ≤ wrap64 n ∧ wrap64 n ≤ 9223372036854775807 := by unfold wrap64; omega
theorem valTo_bounds (l : List UInt8) (k : Nat) : -9223372036854775808 ≤ valTo l k ∧ valTo l k ≤ 9223372036854775807 := by
  induction k with
  | zero => simp [valTo]
  | succ k ih =>
    simp only [valTo]
    split
    · exact wrap64_bounds _
    · exact ih

theorem valNat_snoc (acc : Nat) (l : List UInt8) (c : UInt8) : valNat acc (l ++ [c]) = valNat acc l * 10 + (c.toNat - 48) := by
  rw [valNat_append]; rfl
theorem take_snoc' (l : List UInt8) (k : Nat) (h : k < l.length) : l.take (k + 1) = l.take k ++ [l[k]] := List.take_succ_eq_append_getElem h

theorem valTo_pos (l : List UInt8) (hd : ∀ c ∈ l, 48 ≤ c.toNat ∧ c.toNat ≤ 57) (hv : valNat 0 l ≤ 9223372036854775807) : ∀ k, k ≤ l.length → valTo l k = (valNat 0 (l.take k) : Int) := by
  intro k
  induction k with
  | zero => intro _; rfl
  | succ k ih =>
    intro hk
    have h45 : l.getD 0 0 ≠ 45 := by
      intro h
      have hc := hd (l[0]'(by omega)) (List.getElem_mem _)
      rw [List.getD_eq_getElem?_getD, List.getElem?_eq_getElem (by omega)] at h
      simp only [Option.getD_some] at h
      rw [h] at hc; revert hc; decide
    rw [valTo, if_pos (Or.inr h45), if_neg h45, ih (by omega)]
    have hle := valNat_take_le l (k + 1)
    rw [take_snoc' l k (by omega), valNat_snoc] at hle ⊢
    have hc := hd (l[k]'(by omega)) (List.getElem_mem _)
    have hg : l.getD k 0 = l[k]'(by omega) := by rw [List.getD_eq_getElem?_getD, List.getElem?_eq_getElem (by omega)]; rfl
    rw [hg]
    rw [wrap64_in (_ * 10) (by omega) (by omega)]
    rw [wrap64_in _ (by omega) (by omega)]
    omega

theorem valTo_neg (l : List UInt8) (hd : ∀ c ∈ l, 48 ≤ c.toNat ∧ c.toNat ≤ 57) (hv : valNat 0 l ≤ 9223372036854775808) : ∀ k, k ≤ l.length → valTo (45 :: l) (k + 1) = -(valNat 0 (l.take k) : Int) := by
  intro k
  induction k with
  | zero => intro _; rfl
  | succ k ih =>
    intro hk
    have ih := ih (by omega)
    rw [valTo, if_pos (Or.inl (by omega)), if_pos (by simp), ih]
    have hle := valNat_take_le l (k + 1)
    rw [take_snoc' l k (by omega), valNat_snoc] at hle ⊢
    have hc := hd (l[k]'(by omega)) (List.getElem_mem _)
    have hg : (45 :: l).getD (k + 1) 0 = l[k]'(by omega) := by rw [List.getD_eq_getElem?_getD, List.getElem?_cons_succ, List.getElem?_eq_getElem (by omega)]; rfl
    rw [hg]
    rw [wrap64_in (_ * 10) (by omega) (by omega)]
    rw [wrap64_in _ (by omega) (by omega)]
    omega

theorem valTo_itoa (n : Int) (h0 : -9223372036854775808 ≤ n) (h1 : n ≤ 9223372036854775807) : valTo (itoa n) (itoa n).length = n := by
  by_cases hneg : n < 0
  · obtain ⟨u, rfl⟩ : ∃ u : Nat, n = -(u : Int) := ⟨n.natAbs, by omega⟩
    rw [itoa_neg u (by omega), List.length_cons, valTo_neg _ (decDigits_digits u) (by rw [valNat_dec]; omega) _ (Nat.le_refl _), List.take_length, valNat_dec]
  · obtain ⟨u, rfl⟩ : ∃ u : Nat, n = u := ⟨n.toNat, by omega⟩
    rw [itoa_nonneg, valTo_pos _ (decDigits_digits u) (by rw [valNat_dec]; omega) _ (Nat.le_refl _), List.take_length, valNat_dec]

/-- the int whose numeral a text just is -/
def numOf (l : List UInt8) : Option Int :=
  match atoiAll l with
  | .ok v => if itoa v = l then some v else none
  | _ => none
theorem numOf_itoa (n : Int) (h0 : -9223372036854775808 ≤ n) (h1 : n ≤ 9223372036854775807) : numOf (itoa n) = some n := by
  unfold numOf; rw [atoiAll_itoa n h0 h1]; simp
theorem numOf_some {l : List UInt8} {v : Int} (h : numOf l = some v) : itoa v = l ∧ (-9223372036854775808 ≤ v ∧ v ≤ 9223372036854775807) := by
  unfold numOf at h
  split at h
  · rename_i w hw
    split at h
    · rename_i hi
      injection h with h
      subst h
      exact ⟨hi, atoiAll_bounds hw⟩
    · cases h
  · cases h
/-- Value: its answer -/
theorem numOf_value (l : List UInt8) (n : Int) (hb : -9223372036854775808 ≤ n ∧ n ≤ 9223372036854775807) (h : itoa n = l) : numOf l = some n := by
  subst h; exact numOf_itoa n hb.1 hb.2
theorem numOf_none (l : List UInt8) (h : itoa (valTo l l.length) ≠ l) : numOf l = none := by
  cases hn : numOf l with
  | none => rfl
  | some v =>
    obtain ⟨e, hb⟩ := numOf_some hn
    subst e
    rw [valTo_itoa v hb.1 hb.2] at h
    exact absurd rfl h
theorem numOf_long (l : List UInt8) (h : 20 < l.length) : numOf l = none := by
  cases hn : numOf l with
  | none => rfl
  | some v =>
    obtain ⟨e, hb⟩ := numOf_some hn
    subst e
    have := itoa_len v hb.1 hb.2
    omega

/-! ### texts of items -/
def textL (x : Int × Int) : List UInt8 := itoa x.1 ++ 35 :: itoa x.2
/-- the item whose text l just is -/
def readL (l : List UInt8) : Option (Int × Int) :=
  match numOf (l.takeWhile (· != 35)), numOf ((l.dropWhile (· != 35)).drop 1) with
  | some a, some b => if 35 ∈ l then some (a, b) else none
  | _, _ => none

theorem takeWhile_no35 (a r : List UInt8) (h : ∀ c ∈ a, c ≠ 35) : (a ++ 35 :: r).takeWhile (· != 35) = a ∧ (a ++ 35 :: r).dropWhile (· != 35) = 35 :: r := by
  induction a with
  | nil => simp
  | cons c t ih =>
    have hc := h c (by simp)
    have := ih (fun x hx => h x (by simp [hx]))
    simp [hc, this]

theorem index35_none (l : List UInt8) (h : ∀ c ∈ l, c ≠ 35) : index l [35] = -1 := by
  induction l with
  | nil => rfl
  | cons c r ih =>
    rw [index, ih (fun x hx => h x (by simp [hx]))]
    have := h c (by simp)
    simp [List.isPrefixOf, Ne.symm this]
theorem index35_at (a r : List UInt8) (h : ∀ c ∈ a, c ≠ 35) : index (a ++ 35 :: r) [35] = a.length := by
  induction a with
  | nil => simp [index, List.isPrefixOf]
  | cons c t ih =>
    rw [List.cons_append, index, ih (fun x hx => h x (by simp [hx]))]
    have := h c (by simp)
    have h2 : ((t.length : Int) == -1) = false := by rw [beq_eq_false_iff_ne]; omega
    simp [List.isPrefixOf, Ne.symm this, h2]
theorem cut35_none (l : List UInt8) (h : ∀ c ∈ l, c ≠ 35) : cut l [35] = (l, [], false) := by
  unfold cut; rw [index35_none l h]; rfl
theorem cut35_at (a r : List UInt8) (h : ∀ c ∈ a, c ≠ 35) : cut (a ++ 35 :: r) [35] = (a, r, true) := by
  unfold cut; rw [index35_at a r h, if_pos (by omega)]
  simp
theorem split35 (l : List UInt8) : (∀ c ∈ l, c ≠ 35) ∨ ∃ a r, l = a ++ 35 :: r ∧ ∀ c ∈ a, c ≠ 35 := by
  induction l with
  | nil => left; simp
  | cons c t ih =>
    by_cases hc : c = 35
    · right; exact ⟨[], t, by simp [hc], by simp⟩
    · rcases ih with h | ⟨a, r, e, h⟩
      · left; intro x hx; rcases List.mem_cons.1 hx with rfl | hx
        · exact hc
        · exact h x hx
      · right; refine ⟨c :: a, r, by simp [e], ?_⟩
        intro x hx; rcases List.mem_cons.1 hx with rfl | hx
        · exact hc
        · exact h x hx
theorem readL_none (l : List UInt8) (h : ∀ c ∈ l, c ≠ 35) : readL l = none := by
  unfold readL
  have : ¬ 35 ∈ l := fun hm => h 35 hm rfl
  split
  · rw [if_neg this]
  · rfl
theorem readL_at (a r : List UInt8) (h : ∀ c ∈ a, c ≠ 35) : readL (a ++ 35 :: r) = match numOf a, numOf r with | some x, some y => some (x, y) | _, _ => none := by
  unfold readL
  rw [(takeWhile_no35 a r h).1, (takeWhile_no35 a r h).2]
  simp
theorem append35_inj {a b r s : List UInt8} (ha : ∀ c ∈ a, c ≠ 35) (hb : ∀ c ∈ b, c ≠ 35) (h : a ++ 35 :: r = b ++ 35 :: s) : a = b ∧ r = s := by
  have h1 := (takeWhile_no35 a r ha).1
  have h2 := (takeWhile_no35 b s hb).1
  have h3 := (takeWhile_no35 a r ha).2
  have h4 := (takeWhile_no35 b s hb).2
  rw [h] at h1 h3
  refine ⟨h1.symm.trans h2, ?_⟩
  have := h3.symm.trans h4
  injection this
def inI (n : Int) : Prop := -9223372036854775808 ≤ n ∧ n ≤ 9223372036854775807
theorem readL_textL (x : Int × Int) (h1 : inI x.1) (h2 : inI x.2) : readL (textL x) = some x := by
  unfold textL
  rw [readL_at _ _ (itoa_no35 _), numOf_itoa _ h1.1 h1.2, numOf_itoa _ h2.1 h2.2]
theorem textL_inj {x y : Int × Int} (hx1 : inI x.1) (hx2 : inI x.2) (hy1 : inI y.1) (hy2 : inI y.2) (h : textL x = textL y) : x = y := by
  have h1 := readL_textL x hx1 hx2
  rw [h, readL_textL y hy1 hy2] at h1
  injection h1 with h1
  exact h1.symm
/-- item.Read: both numbers are read, and the text is held against the item's -/
theorem readL_of_ok (a r : List UInt8) (h : ∀ c ∈ a, c ≠ 35) (x y : Int) (hx : atoiAll a = .ok x) (hy : atoiAll r = .ok y) :
    readL (a ++ 35 :: r) = if textL (x, y) = a ++ 35 :: r then some (x, y) else none := by
  rw [readL_at a r h]
  unfold numOf
  rw [hx, hy]
  by_cases h1 : itoa x = a
  · by_cases h2 : itoa y = r
    · simp [h1, h2, textL]
    · have : ¬ textL (x, y) = a ++ 35 :: r := fun e => h2 (append35_inj (itoa_no35 x) h e).2
      simp [h1, h2, this]
  · have : ¬ textL (x, y) = a ++ 35 :: r := fun e => h1 (append35_inj (itoa_no35 x) h e).1
    simp [h1, this]
theorem readL_left (a r : List UInt8) (h : ∀ c ∈ a, c ≠ 35) (hx : ∀ v, atoiAll a ≠ .ok v) : readL (a ++ 35 :: r) = none := by
  rw [readL_at a r h]
  have : numOf a = none := by
    unfold numOf
    split
    · rename_i v hv; exact absurd hv (hx v)
    · rfl
  rw [this]
theorem readL_right (a r : List UInt8) (h : ∀ c ∈ a, c ≠ 35) (hx : ∀ v, atoiAll r ≠ .ok v) : readL (a ++ 35 :: r) = none := by
  rw [readL_at a r h]
  have : numOf r = none := by
    unfold numOf
    split
    · rename_i v hv; exact absurd hv (hx v)
    · rfl
  rw [this]
  split
  · rename_i h1 h2; cases h2
  · rfl
end Go.Proofs.YtocblnbnifljmaaDoor.Item
