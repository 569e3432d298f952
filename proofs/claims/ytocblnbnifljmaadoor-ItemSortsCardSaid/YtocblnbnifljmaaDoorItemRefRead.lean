/- whilomref02.Read: what it answers. -/
import Derived.Test.YtocblnbnifljmaaDoorItemReadI
namespace Go.Proofs.YtocblnbnifljmaaDoor.Item
open Go.Sort Go.RowKit Go.Lib
set_option linter.unusedVariables false

def pairO : Option Int → Option Int → Option (Int × Int)
  | some x, some y => some (x, y)
  | _, _ => none
theorem readL_pair (a r : List UInt8) (h : ∀ c ∈ a, c ≠ 35) : readL (a ++ 35 :: r) = pairO (numOf a) (numOf r) := by
  rw [readL_at a r h]; unfold pairO; rfl
/-- Value's answer, as an int and a bool -/
def numV : Option Int → Int
  | some v => v
  | none => 0
theorem value_c (s : ByteArray) (o : Option Int) (w : World) (hs : s.size ≤ 1000) (h : numOf s.data.toList = o) :
    Calls Tryd.prog 29 #[.string s] w fun e w' => e = .returned (.tuple #[.int .i64 (numV o), .bool o.isSome]) ∧ Grows w w' :=
  (value_any s w hs).mono fun e w' ⟨he, hg⟩ => ⟨by rw [he, h]; cases o <;> rfl, hg⟩
theorem extract_end (s : ByteArray) (k : Nat) : (s.extract (k + 1) s.size).data.toList = s.data.toList.drop (k + 1) := by
  have h : (s.extract (k + 1) s.size).data = s.data.extract (k + 1) s.size := by simp
  rw [h, Array.toList_extract]
  simp only [List.extract_eq_drop_take']
  rw [show s.size = s.data.toList.length from (size_toList s).symm, List.take_of_length_le (Nat.le_refl _)]
theorem extract_begin (s : ByteArray) (k : Nat) : (s.extract 0 k).data.toList = s.data.toList.take k := by
  have h : (s.extract 0 k).data = s.data.extract 0 k := by simp
  rw [h, Array.toList_extract]
  simp
theorem extract_size (s : ByteArray) (a b : Nat) : (s.extract a b).size ≤ s.size := by
  rw [ByteArray.size_extract]; omega
theorem list_parts (s : ByteArray) (k : Nat) (h : k < s.size) (h35 : s[k].toNat = 35) : s.data.toList = s.data.toList.take k ++ 35 :: s.data.toList.drop (k + 1) := by
  have hl : k < s.data.toList.length := by rw [size_toList]; exact h
  have e : s.data.toList[k] = 35 := UInt8.toNat_inj.1 h35
  conv => lhs; rw [← List.take_append_drop k s.data.toList, List.drop_eq_getElem_cons hl, e]

set_option maxRecDepth 100000 in
set_option maxHeartbeats 4000000 in
theorem rread_any (s : ByteArray) (w : World) (hs : s.size ≤ 1000) :
    Calls Tryd.prog 19 #[.string s] w fun e w' => e = .returned (optV (readL s.data.toList)) ∧ Below w.heap.size w w' := by
  go_enter Tryd.func19, Tryd.ntmps19
  go_wp2
  have h2 := Two.new w (.int .i64 0) (.int .i64 0) 23
  have hb0 : Below w.heap.size w (w.alloc (Obj.cells #[Value.int IntKind.i64 0, Value.int IntKind.i64 0] 23)) := (Below.refl _ _).alloc (Nat.le_refl _) _
  generalize w.alloc (Obj.cells #[Value.int IntKind.i64 0, Value.int IntKind.i64 0] 23) = W0 at *
  go_loop [4] (fun i => ∃ (k : Nat), k ≤ s.size ∧ i = .int .i64 k ∧ Hid (∀ c ∈ s.data.toList.take k, c ≠ 35)) (fun i => s.size - (intOf i).toNat)
  case atStart => exact ⟨0, by omega, rfl, by show ∀ c ∈ _, _; simp⟩
  case round =>
    obtain ⟨k, hk, rfl, hno⟩ := hrel
    by_cases hlt : k < s.size
    · by_cases h35 : s[k].toNat = 35
      · have e35 : ((s[k].toNat : Int) == 35) = true := by rw [beq_iff_eq]; omega
        obtain ⟨o1, ho1⟩ : ∃ o, numOf (s.extract 0 k).data.toList = o := ⟨_, rfl⟩
        obtain ⟨o2, ho2⟩ : ∃ o, numOf (s.extract (k + 1) s.size).data.toList = o := ⟨_, rfl⟩
        have hr : readL s.data.toList = pairO o1 o2 := by
          rw [list_parts s k hlt h35, readL_pair _ _ hno.out, ← extract_begin, ← extract_end, ho1, ho2]
        have HR := Lib.hid hr
        have HO1 := Lib.hid ho1
        have HO2 := Lib.hid ho2
        clear hr ho1 ho2 h35
        have hz1 := extract_size s 0 k
        have hz2 := extract_size s (k + 1) s.size
        go_wp2_with fail
        refine (value_c (s.extract 0 k) o1 _ (by omega) HO1.out).mono ?_
        rintro e W1 ⟨rfl, g1⟩
        replace h2 := h2.below g1.below h2.2.2.2.2
        replace hb0 := hb0.trans (g1.below.mono hb0.size)
        clear g1
        go_wp2_with fail
        refine (value_c (s.extract (k + 1) s.size) o2 _ (by omega) HO2.out).mono ?_
        rintro e W2 ⟨rfl, g2⟩
        replace h2 := h2.below g2.below h2.2.2.2.2
        replace hb0 := hb0.trans (g2.below.mono hb0.size)
        clear g2
        obtain ⟨c0, c1, f0, f1, hlt2⟩ := h2
        cases o1 with
        | none =>
          cases o2 with
          | none =>
            simp only [numV, Option.isSome]
            go_wp2
            exact bodyPost_ret (v := optV none) (by simp [optV, itemV, results, Tryd.results19, go_sem, c0, c1]) rfl ⟨by rw [HR.out]; rfl, (hb0.setCell (Nat.le_refl _) _).setCell (Nat.le_refl _) _⟩
          | some y =>
            simp only [numV, Option.isSome]
            go_wp2
            exact bodyPost_ret (v := optV none) (by simp [optV, itemV, results, Tryd.results19, go_sem, c0, c1]) rfl ⟨by rw [HR.out]; rfl, (hb0.setCell (Nat.le_refl _) _).setCell (Nat.le_refl _) _⟩
        | some x =>
          cases o2 with
          | none =>
            simp only [numV, Option.isSome]
            go_wp2
            exact bodyPost_ret (v := optV none) (by simp [optV, itemV, results, Tryd.results19, go_sem, c0, c1]) rfl ⟨by rw [HR.out]; rfl, (hb0.setCell (Nat.le_refl _) _).setCell (Nat.le_refl _) _⟩
          | some y =>
            simp only [numV, Option.isSome]
            go_wp2
            exact bodyPost_ret (v := optV (some (x, y))) (by simp [optV, itemV, results, Tryd.results19, go_sem, c0, c1]) rfl ⟨by rw [HR.out]; rfl, (hb0.setCell (Nat.le_refl _) _).setCell (Nat.le_refl _) _⟩
      · have e35 : ((s[k].toNat : Int) == 35) = false := by rw [beq_eq_false_iff_ne]; omega
        have hno2 : Hid (∀ c ∈ s.data.toList.take (k + 1), c ≠ 35) := by
          show ∀ c ∈ _, _
          have hl : k < s.data.toList.length := by rw [size_toList]; exact hlt
          rw [take_snoc' _ k hl]
          intro c hc
          rcases List.mem_append.1 hc with hc | hc
          · exact hno.out c hc
          · simp only [List.mem_singleton] at hc
            subst hc
            intro e
            exact h35 (congrArg UInt8.toNat e)
        clear h35
        go_wp2
        go_round
        case rel => exact ⟨k + 1, by omega, by go_num, hno2⟩
        case measure => simp [intOf]; omega
    · obtain rfl : k = s.size := by omega
      have hr : Hid (readL s.data.toList = none) := by
        show _ = _
        have h := hno.out
        rw [List.take_of_length_le (by rw [size_toList]; exact Nat.le_refl _)] at h
        exact readL_none _ h
      obtain ⟨c0, c1, f0, f1, hlt2⟩ := h2
      go_wp2
      exact bodyPost_ret (v := optV none) (by simp [optV, itemV, results, Tryd.results19, go_sem, c0, c1]) rfl ⟨by rw [hr.out], (hb0.setCell (Nat.le_refl _) _).setCell (Nat.le_refl _) _⟩
end Go.Proofs.YtocblnbnifljmaaDoor.Item
