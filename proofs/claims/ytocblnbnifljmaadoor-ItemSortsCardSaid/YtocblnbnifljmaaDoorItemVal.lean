/- whilomref02.Value: what it answers. -/
import Derived.Test.YtocblnbnifljmaaDoorItemRef
namespace Go.Proofs.YtocblnbnifljmaaDoor.Item
open Go.Sort Go.RowKit Go.Lib
set_option linter.unusedVariables false

/-- a number that was looked for -/
def optI : Option Int → Value
  | some v => .tuple #[.int .i64 v, .bool true]
  | none => .tuple #[.int .i64 0, .bool false]

theorem getD_byte (s : ByteArray) (k : Nat) (h : k < s.size) : s.data.toList.getD k 0 = s[k] := by
  rw [List.getD_eq_getElem?_getD, List.getElem?_eq_getElem (by simpa using h)]; rfl
theorem valTo_digit (s : ByteArray) (k : Nat) (h : k < s.size) (h0 : 0 < k ∨ s[0].toNat ≠ 45) (hn : s[0].toNat ≠ 45) :
    valTo s.data.toList (k + 1) = wrap64 (wrap64 (valTo s.data.toList k * 10) + ((s[k].toNat : Int) - 48)) := by
  have e0 : s.data.toList.getD 0 0 ≠ 45 := by
    rw [getD_byte s 0 (by omega)]
    intro e; rw [e] at hn; exact hn rfl
  rw [valTo, if_pos (Or.inr e0), if_neg e0, getD_byte s k h]
theorem valTo_minus (s : ByteArray) (k : Nat) (h : k < s.size) (h0 : 0 < k) (hn : s[0].toNat = 45) :
    valTo s.data.toList (k + 1) = wrap64 (wrap64 (valTo s.data.toList k * 10) + -((s[k].toNat : Int) - 48)) := by
  have e0 : s.data.toList.getD 0 0 = 45 := by
    rw [getD_byte s 0 (by omega)]
    exact UInt8.toNat_inj.1 hn
  rw [valTo, if_pos (Or.inl h0), if_pos e0, getD_byte s k h]
theorem valTo_sign (s : ByteArray) (h : 0 < s.size) (hn : s[0].toNat = 45) : valTo s.data.toList 1 = 0 := by
  have e0 : s.data.toList.getD 0 0 = 45 := by
    rw [getD_byte s 0 (by omega)]
    exact UInt8.toNat_inj.1 hn
  rw [valTo, if_neg (by rw [e0]; decide)]; rfl

set_option maxRecDepth 100000 in
set_option maxHeartbeats 2000000 in
theorem value_any (s : ByteArray) (w : World) (hs : s.size ≤ 1000) :
    Calls Tryd.prog 29 #[.string s] w fun e w' => e = .returned (optI (numOf s.data.toList)) ∧ Grows w w' := by
  by_cases h20 : 20 < s.size
  · rw [numOf_long _ (by simpa using h20)]
    unfold optI
    go_enter Tryd.func29, Tryd.ntmps29
    go_wp2
    go_ret2
    exact ⟨rfl, Grows.refl _⟩
  · go_enter Tryd.func29, Tryd.ntmps29
    go_wp2
    go_loop [4, 5] (fun n i => ∃ (k : Nat) (v : Int), k ≤ s.size ∧ i = .int .i64 k ∧ n = .int .i64 v ∧ Hid (v = valTo s.data.toList k) ∧ -9223372036854775808 ≤ v ∧ v ≤ 9223372036854775807) (fun _ i => s.size - (intOf i).toNat)
    case atStart => exact ⟨0, 0, by omega, rfl, rfl, rfl, by omega, by omega⟩
    case round =>
      obtain ⟨k, v, hk, rfl, rfl, hv, v0, v1⟩ := hrel
      by_cases hlt : k < s.size
      · have hb : (s[k].toNat : Int) ≤ 255 := by have := s[k].toNat_lt; omega
        have hb0 : (0 : Int) ≤ (s[k].toNat : Int) := by omega
        have hlt0 : 0 < s.size := by omega
        by_cases h45 : s[0].toNat = 45
        · have e45 : ((s[0].toNat : Int) == 45) = true := by rw [beq_iff_eq]; omega
          have n45 : ((s[0].toNat : Int) != 45) = false := by simp [h45]
          have H45 := Lib.hid h45
          clear h45
          by_cases hk0 : k = 0
          · subst hk0
            go_wp2
            go_round
            case rel => exact ⟨1, v, by omega, rfl, rfl, by show v = _; rw [valTo_sign s hlt H45.out]; exact hv.out, by omega, by omega⟩
            case measure => simp [intOf]; omega
          · have hkp : 0 < k := by omega
            have hN := Lib.hid (valTo_minus s k hlt hkp H45.out)
            clear hk0
            go_wp2
            go_round
            case rel => exact ⟨k + 1, _, by omega, by go_num, rfl, by
              show _ = _
              rw [hN.out, ← hv.out], (wrap64_bounds _).1, (wrap64_bounds _).2⟩
            case measure => simp [intOf]; omega
        · have e45 : ((s[0].toNat : Int) == 45) = false := by rw [beq_eq_false_iff_ne]; omega
          have n45 : ((s[0].toNat : Int) != 45) = true := by rw [bne_iff_ne]; omega
          have hN := Lib.hid (valTo_digit s k hlt (Or.inr h45) h45)
          clear h45
          by_cases hk0 : k = 0
          · subst hk0
            go_wp2
            go_round
            case rel => exact ⟨1, _, by omega, rfl, rfl, by
              show _ = _
              rw [hN.out, ← hv.out], (wrap64_bounds _).1, (wrap64_bounds _).2⟩
            case measure => simp [intOf]; omega
          · have hkp : 0 < k := by omega
            clear hk0
            go_wp2
            go_round
            case rel => exact ⟨k + 1, _, by omega, by go_num, rfl, by
              show _ = _
              rw [hN.out, ← hv.out], (wrap64_bounds _).1, (wrap64_bounds _).2⟩
            case measure => simp [intOf]; omega
      · have hkk : k = s.size := by omega
        subst hkk
        have HV : Hid (v = valTo s.data.toList s.data.toList.length) := by show _ = _; rw [show s.data.toList.length = s.size from Array.length_toList]; exact hv.out
        clear hv
        by_cases he : itoa v = s.data.toList
        · have hr := Lib.hid (numOf_value s.data.toList v ⟨v0, v1⟩ he)
          have ht : (!itoa v == s.toList) = false := by rw [ByteArray.toList_eq, he]; simp
          have HE := Lib.hid he
          clear he
          go_wp2_with fail
          refine (number_any _ _ v0 v1).mono ?_
          rintro e w' ⟨rfl, hg⟩
          unfold strV
          go_wp2
          go_ret2
          exact ⟨by rw [hr.out]; rfl, hg⟩
        · have hr := Lib.hid (numOf_none s.data.toList (by rw [← HV.out]; exact he))
          have ht : (!itoa v == s.toList) = true := by rw [ByteArray.toList_eq]; simpa using he
          have HE := Lib.hid he
          clear he
          go_wp2_with fail
          refine (number_any _ _ v0 v1).mono ?_
          rintro e w' ⟨rfl, hg⟩
          unfold strV
          go_wp2
          go_ret2
          exact ⟨by rw [hr.out]; rfl, hg⟩
end Go.Proofs.YtocblnbnifljmaaDoor.Item
