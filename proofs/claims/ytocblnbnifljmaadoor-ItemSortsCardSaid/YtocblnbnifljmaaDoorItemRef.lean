/- whilomref02.Number, Value, Text, Read: what each call answers. -/
import Derived.Test.YtocblnbnifljmaaDoorItemCmp
import Derived.Laws.BytesArg
namespace Go.Proofs.YtocblnbnifljmaaDoor.Item
open Go.Sort Go.RowKit Go.Lib
set_option linter.unusedVariables false

def strV (l : List UInt8) : Value := .string ⟨l.toArray⟩
theorem str_append (a b : List UInt8) : (⟨a.toArray⟩ : ByteArray) ++ (⟨b.toArray⟩ : ByteArray) = ⟨(a ++ b).toArray⟩ := by
  apply ByteArray.ext
  simp
theorem digit_append (d : Int) (l : List UInt8) : strOfNums [d] ++ (⟨l.toArray⟩ : ByteArray) = ⟨(UInt8.ofNat d.toNat :: l).toArray⟩ := by
  unfold strOfNums
  rw [str_append]; rfl
theorem conv_digit (wr : World) (d : Int) :
    Sem.run Tryd.prog (convert 57 9 (Value.slice (some ⟨wr.heap.size, 0, none⟩) 1 1)) (wr.alloc (Obj.cells #[Value.int IntKind.u8 d] 5)) = .ok (.string (strOfNums [d])) (wr.alloc (Obj.cells #[Value.int IntKind.u8 d] 5)) := by
  refine run_convert_bytes_arg _ 57 5 Tryd.underlying57 Tryd.underlying5 wr.heap.size 0 1 1 [d] rfl (fun i hi => ?_) 9 Tryd.underlying9
  obtain rfl : i = 0 := by omega
  exact cell_of_row (wr.alloc (.cells #[Value.int IntKind.u8 d] 5)) wr.heap.size 0 #[Value.int IntKind.u8 d] 5 (0, 0) (heap_alloc_new _ _)
theorem dd0_len (n : Int) (h0 : -9223372036854775808 ≤ n) (h1 : n ≤ 9223372036854775807) : (dd0 n.natAbs).length ≤ 20 := by
  by_cases h : n = 0
  · subst h; decide
  · have := itoa_len n h0 h1
    rw [itoa_dd0 n h, List.length_append] at this
    omega
theorem digit_room (n : Int) (h0 : -9223372036854775808 ≤ n) (h1 : n ≤ 9223372036854775807) (x l : List UInt8) (d : Int) (h : x ++ l = dd0 n.natAbs) : ¬ 9223372036854775807 < (strOfNums [d]).size + l.length := by
  have := dd0_len n h0 h1
  rw [← h, List.length_append] at this
  rw [strOfNums_size]
  simp
  omega
theorem sign_room (n : Int) (h0 : -9223372036854775808 ≤ n) (h1 : n ≤ 9223372036854775807) (x l : List UInt8) (h : x ++ l = dd0 n.natAbs) : ¬ 9223372036854775807 < 1 + l.length := by
  have := dd0_len n h0 h1
  rw [← h, List.length_append] at this
  omega
theorem dd0_round (a : Nat) (l m : List UInt8) (ha : a ≠ 0) (h : dd0 a ++ l = m) : dd0 (a / 10) ++ UInt8.ofNat (48 + a % 10) :: l = m := by
  rw [dd0_step a ha] at h
  simpa using h

set_option maxRecDepth 100000 in
set_option maxHeartbeats 2000000 in
theorem number_pos (n : Int) (w : World) (h0 : 0 < n) (h1 : n ≤ 9223372036854775807) :
    Calls Tryd.prog 28 #[.int .i64 n] w fun e w' => e = .returned (strV (itoa n)) ∧ Grows w w' := by
  have hn : (n == 0) = false := by rw [beq_eq_false_iff_ne]; omega
  have hn2 : ¬ n < 0 := by omega
  unfold strV
  go_enter Tryd.func28, Tryd.ntmps28
  go_wp2
  go_loopw [3, 4] (fun s m w' => ∃ (a : Int) (l : List UInt8), m = .int .i64 a ∧ s = .string ⟨l.toArray⟩ ∧ Hid (dd0 a.natAbs ++ l = dd0 n.natAbs) ∧ 0 ≤ a ∧ a ≤ 9223372036854775807 ∧ Grows w w') (fun _ m _ => (intOf m).natAbs)
  case atStart => exact ⟨n, [], rfl, rfl, by show _ = _; simp, by omega, by omega, Grows.refl _⟩
  case round =>
    obtain ⟨a, l, rfl, rfl, hl, ha0, ha, hg⟩ := hrel
    by_cases hz : a = 0
    · subst hz
      clear ha0 ha
      go_wp2
      go_ret
      refine ⟨?_, hg⟩
      have e := hl.out
      rw [itoa_dd0 n (by omega), if_neg (by omega), ← e]
      rfl
    · have hz1 : (a == 0) = false := by rw [beq_eq_false_iff_ne]; omega
      have hz2 : (a != 0) = true := by rw [bne_iff_ne]; omega
      have hd0 : 0 ≤ a % 10 := by omega
      have hd1 : a % 10 ≤ 9 := by omega
      have hl2 : Hid (dd0 (a / 10).natAbs ++ UInt8.ofNat (48 + a % 10).toNat :: l = dd0 n.natAbs) := by
        have h := dd0_round a.natAbs l _ (by omega) hl.out
        rw [show (a / 10).natAbs = a.natAbs / 10 by omega, show (48 + a % 10).toNat = 48 + a.natAbs % 10 by omega]
        exact h
      have hcv := conv_digit wr (48 + a % 10)
      have hroom := digit_room n (by omega) (by omega) _ l (48 + a % 10) hl.out
      have hless : (a / 10).natAbs < a.natAbs := by omega
      clear hz
      go_wp2
      go_roundw
      case rel => exact ⟨a / 10, _, rfl, congrArg Value.string (digit_append _ _), hl2, by omega, by omega, hg.alloc _⟩
      case measure => exact hless

set_option maxRecDepth 100000 in
set_option maxHeartbeats 2000000 in
theorem number_neg (n : Int) (w : World) (h0 : n < 0) (h1 : -9223372036854775808 ≤ n) :
    Calls Tryd.prog 28 #[.int .i64 n] w fun e w' => e = .returned (strV (itoa n)) ∧ Grows w w' := by
  have hn : (n == 0) = false := by rw [beq_eq_false_iff_ne]; omega
  unfold strV
  go_enter Tryd.func28, Tryd.ntmps28
  go_wp2
  go_loopw [3, 4] (fun s m w' => ∃ (a : Int) (l : List UInt8), m = .int .i64 a ∧ s = .string ⟨l.toArray⟩ ∧ Hid (dd0 a.natAbs ++ l = dd0 n.natAbs) ∧ a ≤ 0 ∧ -9223372036854775808 ≤ a ∧ Grows w w') (fun _ m _ => (intOf m).natAbs)
  case atStart => exact ⟨n, [], rfl, rfl, by show _ = _; simp, by omega, by omega, Grows.refl _⟩
  case round =>
    obtain ⟨a, l, rfl, rfl, hl, ha0, ha, hg⟩ := hrel
    by_cases hz : a = 0
    · subst hz
      clear ha0 ha
      have hroom := sign_room n (by omega) (by omega) _ l hl.out
      go_wp2
      go_ret
      refine ⟨?_, hg⟩
      have e := hl.out
      rw [itoa_dd0 n (by omega), if_pos (by omega), ← e]
      exact congrArg (fun x => Ending.returned (Value.string x)) (str_append [45] l)
    · have hz1 : (a == 0) = false := by rw [beq_eq_false_iff_ne]; omega
      have hz2 : (a != 0) = true := by rw [bne_iff_ne]; omega
      have hm := Int.natAbs_tmod a 10
      have hq := Int.natAbs_tdiv a 10
      have hmod := Int.mul_tdiv_add_tmod a 10
      have hs : a.tmod 10 ≤ 0 := by
        have := Int.tmod_nonneg 10 (show 0 ≤ -a by omega)
        rw [Int.neg_tmod] at this; omega
      have hs9 : -9 ≤ a.tmod 10 := by have := Int.lt_tmod_of_pos a (show (0 : Int) < 10 by decide); omega
      have hq0 : a.tdiv 10 ≤ 0 := by omega
      have hq1 : a ≤ a.tdiv 10 := by omega
      have hless : (a.tdiv 10).natAbs < a.natAbs := by omega
      have hl2 : Hid (dd0 (a.tdiv 10).natAbs ++ UInt8.ofNat (48 + a.tmod 10 * -1).toNat :: l = dd0 n.natAbs) := by
        have h := dd0_round a.natAbs l _ (by omega) hl.out
        rw [show (a.tdiv 10).natAbs = a.natAbs / 10 by omega, show (48 + a.tmod 10 * -1).toNat = 48 + a.natAbs % 10 by omega]
        exact h
      have hroom := fun d => digit_room n (by omega) (by omega) _ l d hl.out
      clear hz
      by_cases hr : a.tmod 10 < 0
      · have hcv := conv_digit wr (48 + -(a.tmod 10))
        have hroom := hroom (48 + -(a.tmod 10))
        clear hm hq hmod
        go_wp2
        go_roundw
        case rel => exact ⟨a.tdiv 10, _, rfl, congrArg Value.string (digit_append _ _), by rw [show (48 + -(a.tmod 10)).toNat = (48 + a.tmod 10 * -1).toNat by omega]; exact hl2, by omega, by omega, hg.alloc _⟩
        case measure => exact hless
      · have hcv := conv_digit wr (48 + a.tmod 10)
        have hroom := hroom (48 + a.tmod 10)
        clear hm hq hmod
        go_wp2
        go_roundw
        case rel => exact ⟨a.tdiv 10, _, rfl, congrArg Value.string (digit_append _ _), by rw [show (48 + a.tmod 10).toNat = (48 + a.tmod 10 * -1).toNat by omega]; exact hl2, by omega, by omega, hg.alloc _⟩
        case measure => exact hless

theorem number_any (n : Int) (w : World) (h0 : -9223372036854775808 ≤ n) (h1 : n ≤ 9223372036854775807) :
    Calls Tryd.prog 28 #[.int .i64 n] w fun e w' => e = .returned (strV (itoa n)) ∧ Grows w w' := by
  rcases Int.lt_trichotomy n 0 with h | h | h
  · exact number_neg n w h h0
  · subst h
    rw [itoa_zero]
    unfold strV
    go_enter Tryd.func28, Tryd.ntmps28
    go_wp2
    go_ret
    exact ⟨rfl, Grows.refl _⟩
  · exact number_pos n w h h1

end Go.Proofs.YtocblnbnifljmaaDoor.Item
