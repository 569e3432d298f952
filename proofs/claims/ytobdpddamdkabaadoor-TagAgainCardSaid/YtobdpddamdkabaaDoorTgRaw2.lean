/- tag: the sets of free slots. -/
import Derived.Test.YtobdpddamdkabaaDoorTgRaw
import Derived.Test.YtobdpddamdkabaaDoorRxQ
namespace Go.Proofs.YtobdpddamdkabaaDoor.Tg
open Go.Proofs.YtobdpddamdkabaaDoor.Rx
set_option linter.unusedVariables false
set_option linter.unusedSimpArgs false
set_option maxRecDepth 100000
theorem slot_word {k : Int} (h0 : 0 ≤ k) : (k.tdiv 64).toNat = k.toNat / 64 ∧ (k.tmod 64).toNat = k.toNat % 64 ∧ 0 ≤ k.tdiv 64 ∧ 0 ≤ k.tmod 64 ∧ (k.tdiv 64) = (k.toNat / 64 : Nat) := by
  obtain ⟨n, rfl⟩ := Int.eq_ofNat_of_zero_le h0
  have e1 : (n : Int).tdiv 64 = ((n / 64 : Nat) : Int) := Int.ofNat_tdiv n 64
  have e2 : (n : Int).tmod 64 = ((n % 64 : Nat) : Int) := Int.ofNat_tmod n 64
  rw [e1, e2]
  omega
theorem slot_pow {k : Int} (h0 : 0 ≤ k) : IntKind.u64.wrap (1 * 2 ^ min (k.tmod 64).toNat 64) = 2 ^ (k.toNat % 64) := by
  rw [(slot_word h0).2.1, Nat.min_eq_left (by omega), Int.one_mul, wrap_u64, Int.emod_eq_of_lt (pow_nn _) (pow_u64 (by omega))]
def remP : Prim MF := fun args hh => match args, toTb hh with
  | [.pointer (some ⟨0, 3, none⟩), .int .i64 k], some s => some ⟨hh = tbH s ∧ 0 ≤ k ∧ k < 1000000, .tuple #[], none, tbH (lessS s k), [], [(0, 0)]⟩
  | _, _ => none
theorem rem_ok : ConOk D0 Tryd.prog 41 (con1 remP) := by
  refine con1_ok (prim_atM 6 (fn := Tryd.f41) (root := codeOf Tryd.f41) (by kernel_rfl) (by kernel_rfl) (by kernel_rfl) fun args hh x hx => ?_)
  unfold remP at hx
  split at hx
  · rename_i k s hm
    injection hx with hx
    subst hx
    refine ⟨by rw [toTb_len hm]; first | exact Nat.le_refl _ | exact Nat.le_succ _, (fun b hb => by cases hb), (fun hw => by first | rfl | cases hw), fun _ hv => ?_⟩
    obtain ⟨rfl, hv⟩ := hv
    obtain ⟨w1, w2, w3, w4, w5⟩ := slot_word hv.1; have w6 := slot_pow hv.1
    generalize hG : Rx.Ends (R := MF) _ _ = G
    refine rx_okQ (T := T0) T0_ok mixed 200 (q := Vc ((64 : Int) ≠ (0 : Int) ∧ fits (Int.tdiv k (64 : Int))) ∧ (decide (Int.tdiv k (64 : Int) < (↑(List.length (TS.wo s)) : Int)) = true → Vc ((0 : Int) ≤ Int.tdiv k (64 : Int) ∧ Int.tdiv k (64 : Int) < (↑(List.length (TS.wo s)) : Int) ∧ 0 + List.length (TS.wo s) ≤ List.length (TS.wo s)) ∧ Vc (0 + Int.toNat (Int.tdiv k (64 : Int)) < List.length (TS.wo s)) ∧ Vc ((64 : Int) ≠ (0 : Int)) ∧ Vc ((0 : Int) ≤ Int.tmod k (64 : Int)) ∧ Vc True ∧ Vc ((0 : Int) ≤ Int.tdiv k (64 : Int) ∧ Int.tdiv k (64 : Int) < (↑(List.length (TS.wo s)) : Int) ∧ 0 + List.length (TS.wo s) ≤ List.length (TS.wo s)) ∧ Vc (0 + Int.toNat (Int.tdiv k (64 : Int)) < List.length (TS.wo s)) ∧ Post (G (Value.tuple (Array.mk [])) [some (Sum.inl (73, [Value.int IntKind.i64 (TS.cap s), Value.int IntKind.i64 (TS.ser s), Value.slice (some (Addr.mk 1 0 (some 1000))) (List.length (TS.la s)) 0, Value.slice (some (Addr.mk 2 0 (some 1000))) (List.length (TS.wo s)) 0, Value.int IntKind.i64 (TS.fr s), Value.map (some 3), Value.map (some 4), Value.map (some 5)])), some (Sum.inr (Sum.inl (3, Row.mk [Value.int IntKind.i64 0] (List.length (TS.la s)) [Col.mk (TS.la s) [] []]))), some (Sum.inr (Sum.inl (101, Row.mk [Value.int IntKind.u64 0] (List.length (TS.wo s)) [Col.mk (List.set (TS.wo s) (0 + Int.toNat (Int.tdiv k (64 : Int))) (bits BinOp.andNot IntKind.u64 (List.getD (TS.wo s) (0 + Int.toNat (Int.tdiv k (64 : Int))) (0 : Int)) (IntKind.wrap IntKind.u64 ((1 : Int) * (2 : Int) ^ min (Int.toNat (Int.tmod k (64 : Int))) 64)))) [] []]))), some (Sum.inr (Sum.inr (Sum.inr (Sum.inr (TS.lv s))))), some (Sum.inr (Sum.inr (Sum.inr (Sum.inl (TS.ti s))))), some (Sum.inr (Sum.inr (Sum.inr (Sum.inl (TS.id s)))))])) ∧ (decide (Int.tdiv k (64 : Int) < (↑(List.length (TS.wo s)) : Int)) = false → Post (G (Value.tuple (Array.mk [])) [some (Sum.inl (73, [Value.int IntKind.i64 (TS.cap s), Value.int IntKind.i64 (TS.ser s), Value.slice (some (Addr.mk 1 0 (some 1000))) (List.length (TS.la s)) 0, Value.slice (some (Addr.mk 2 0 (some 1000))) (List.length (TS.wo s)) 0, Value.int IntKind.i64 (TS.fr s), Value.map (some 3), Value.map (some 4), Value.map (some 5)])), some (Sum.inr (Sum.inl (3, Row.mk [Value.int IntKind.i64 0] (List.length (TS.la s)) [Col.mk (TS.la s) [] []]))), some (Sum.inr (Sum.inl (101, Row.mk [Value.int IntKind.u64 0] (List.length (TS.wo s)) [Col.mk (TS.wo s) [] []]))), some (Sum.inr (Sum.inr (Sum.inr (Sum.inr (TS.lv s))))), some (Sum.inr (Sum.inr (Sum.inr (Sum.inl (TS.ti s))))), some (Sum.inr (Sum.inr (Sum.inr (Sum.inl (TS.id s)))))]))) ?_ (by kernel_rfl)
    subst hG
    repeat' (first | apply And.intro | apply Vc.mk | apply fits.mk | intro h | apply Post.mk)
    all_goals (try simp only [decide_eq_true_eq, decide_eq_false_iff_not, Nat.zero_add, ge_iff_le, Int.not_le, Int.not_lt, Int.toNat_natCast, beq_iff_eq, beq_eq_false_iff_ne, bne_iff_ne, bne_eq_false_iff_eq, Bool.not_eq_true', Bool.not_eq_false'] at *)
    all_goals first | contradiction | omega | (apply congrArg Value.bool; assumption) | exact congrArg Value.bool (decide_eq_true (by assumption)) | exact congrArg Value.bool (decide_eq_false (Int.not_lt.mpr (by assumption))) | exact ⟨rfl, by omega⟩ | exact rfl | (simp [*, -List.getD_eq_getElem?_getD]; done) | skip
    all_goals try omega
    · have hW : lessW s.wo k.toNat = s.wo.set (k.tdiv 64).toNat (bits .andNot .u64 (s.wo.getD (k.tdiv 64).toNat 0) (IntKind.u64.wrap (1 * 2 ^ min (k.tmod 64).toNat 64))) := by
        unfold lessW; rw [if_pos (by omega), w1, w6]
      have e : tbH (lessS s k) = tbG s.cap s.ser s.la.length s.la s.wo.length (s.wo.set (k.tdiv 64).toNat (bits .andNot .u64 (s.wo.getD (k.tdiv 64).toNat 0) (IntKind.u64.wrap (1 * 2 ^ min (k.tmod 64).toNat 64)))) s.fr s.lv s.ti s.id := by
        show tbG _ _ _ _ (lessW s.wo k.toNat).length (lessW s.wo k.toNat) _ _ _ _ = _
        rw [hW, List.length_set]; rfl
      rw [e]
      exact ⟨[0, 1, 2, 3, 4, 5], rfl, rfl, ⟨.inl rfl, ⟨_, rfl, .inl rfl⟩, ⟨_, rfl, .inl rfl⟩, rfl, rfl, rfl, trivial⟩, rfl, rfl, rfl, rfl⟩
    · have e : tbH (lessS s k) = tbH s := by
        show tbG _ _ _ _ (lessW s.wo k.toNat).length (lessW s.wo k.toNat) _ _ _ _ = _
        have hW : lessW s.wo k.toNat = s.wo := by unfold lessW; rw [if_neg (by omega)]
        rw [hW]; rfl
      rw [e]
      exact ⟨[0, 1, 2, 3, 4, 5], rfl, rfl, ⟨.inl rfl, ⟨_, rfl, .inl rfl⟩, ⟨_, rfl, .inl rfl⟩, rfl, rfl, rfl, trivial⟩, rfl, rfl, rfl, rfl⟩
  · cases hx
def leastP : Prim MF := fun args hh => match args, toTb hh with
  | [.pointer (some ⟨0, 3, none⟩)], some s => some ⟨hh = tbH s ∧ 0 ≤ s.fr ∧ s.fr < 1000000 ∧ okW s.wo ∧ s.wo.length < 1000000, .tuple #[.int .i64 (leastW s.wo s.fr.toNat), .bool (anyW s.wo s.fr.toNat)], none, tbH (leastS s), [], [(0, 0)]⟩
  | _, _ => none
theorem least_ok : ConOk D0 Tryd.prog 54 (con1 leastP) := by
  refine con1_ok (prim_atM 6 (fn := Tryd.f54) (root := codeOf Tryd.f54) (by kernel_rfl) (by kernel_rfl) (by kernel_rfl) fun args hh x hx => ?_)
  unfold leastP at hx
  split at hx
  · rename_i s hm
    injection hx with hx
    subst hx
    refine ⟨by rw [toTb_len hm]; first | exact Nat.le_refl _ | exact Nat.le_succ _, (fun b hb => by cases hb), (fun hw => by first | rfl | cases hw), fun _ hv => ?_⟩
    obtain ⟨rfl, hv⟩ := hv
    generalize hG : Rx.Ends (R := MF) _ _ = G
    refine rx_okQ (T := T1) T1_ok mixed 200 (q := At D0 Tryd.prog (codeOf Tryd.f54) 6 (retK Tryd.prog (Array.toList (Func.results Tryd.f54)) fun v h => G v (keep 6 h)) [Sum.inl [1, 0, 0], Sum.inr (Sum.inl 0), Sum.inl [1, 1]] (SS.mk [some (Value.pointer (some (Addr.mk 0 3 none))), none, some (Value.int IntKind.i64 0), some (Value.bool false), none, none, none, none, none, none, none, none, none, none, none, none, none, none, none, none, none, none, none, none, none, none, none, none, none, none, none, none, none, none, none, none, none, none, none, none, none, none] [(3, false)] [some (Sum.inl (73, [Value.int IntKind.i64 (TS.cap s), Value.int IntKind.i64 (TS.ser s), Value.slice (some (Addr.mk 1 0 (some 1000))) (List.length (TS.la s)) 0, Value.slice (some (Addr.mk 2 0 (some 1000))) (List.length (TS.wo s)) 0, Value.int IntKind.i64 (TS.fr s), Value.map (some 3), Value.map (some 4), Value.map (some 5)])), some (Sum.inr (Sum.inl (3, Row.mk [Value.int IntKind.i64 0] (List.length (TS.la s)) [Col.mk (TS.la s) [] []]))), some (Sum.inr (Sum.inl (101, Row.mk [Value.int IntKind.u64 0] (List.length (TS.wo s)) [Col.mk (TS.wo s) [] []]))), some (Sum.inr (Sum.inr (Sum.inr (Sum.inr (TS.lv s))))), some (Sum.inr (Sum.inr (Sum.inr (Sum.inl (TS.ti s))))), some (Sum.inr (Sum.inr (Sum.inr (Sum.inl (TS.id s)))))])) ?_ (by kernel_rfl)
    refine loop_atM (by kernel_rfl) (ι := Int) (fun j => s.fr ≤ j ∧ j.toNat ≤ firstW s.wo s.fr.toNat ∧ firstW s.wo j.toNat = firstW s.wo s.fr.toNat) [0] (fun j => [.pointer (some ⟨0, 3, none⟩)]) (fun j => tbG s.cap s.ser s.la.length s.la s.wo.length s.wo j s.lv s.ti s.id) (fun j => firstW s.wo s.fr.toNat - j.toNat) 42 (fun j hj => ⟨rfl, rfl, Nat.le_refl _⟩) ⟨s.fr, ⟨Int.le_refl _, firstW_ge _ _, rfl⟩, ⟨[0, 1, 2, 3, 4, 5], rfl, ⟨.inl rfl, ⟨_, rfl, .inl rfl⟩, ⟨_, rfl, .inl rfl⟩, rfl, rfl, rfl, trivial⟩, rfl, rfl, rfl, rfl⟩⟩ fun j hj => ?_
    obtain ⟨j1, j2, j3⟩ := hj
    refine rx_okQ (T := T1) T1_ok mixed 200 (q := (decide (j < (↑(List.length (TS.wo s)) : Int)) = true → Vc ((0 : Int) ≤ j ∧ j < (↑(List.length (TS.wo s)) : Int) ∧ 0 + List.length (TS.wo s) ≤ List.length (TS.wo s)) ∧ Vc (0 + Int.toNat j < List.length (TS.wo s)) ∧ ((List.getD (TS.wo s) (0 + Int.toNat j) (0 : Int) != (0 : Int)) = true → Vc (fits (j * (64 : Int))) ∧ Vc ((0 : Int) ≤ List.getD (TS.wo s) (0 + Int.toNat j) (0 : Int) ∧ List.getD (TS.wo s) (0 + Int.toNat j) (0 : Int) < (18446744073709551616 : Int)) ∧ Vc (fits (j * (64 : Int) + tz (List.getD (TS.wo s) (0 + Int.toNat j) (0 : Int)))) ∧ Post (G (Value.tuple (Array.mk [Value.int IntKind.i64 (j * (64 : Int) + tz (List.getD (TS.wo s) (0 + Int.toNat j) (0 : Int))), Value.bool true])) [some (Sum.inl (73, [Value.int IntKind.i64 (TS.cap s), Value.int IntKind.i64 (TS.ser s), Value.slice (some (Addr.mk 1 0 (some 1000))) (List.length (TS.la s)) 0, Value.slice (some (Addr.mk 2 0 (some 1000))) (List.length (TS.wo s)) 0, Value.int IntKind.i64 j, Value.map (some 3), Value.map (some 4), Value.map (some 5)])), some (Sum.inr (Sum.inl (3, Row.mk [Value.int IntKind.i64 0] (List.length (TS.la s)) [Col.mk (TS.la s) [] []]))), some (Sum.inr (Sum.inl (101, Row.mk [Value.int IntKind.u64 0] (List.length (TS.wo s)) [Col.mk (TS.wo s) [] []]))), some (Sum.inr (Sum.inr (Sum.inr (Sum.inr (TS.lv s))))), some (Sum.inr (Sum.inr (Sum.inr (Sum.inl (TS.ti s))))), some (Sum.inr (Sum.inr (Sum.inr (Sum.inl (TS.id s)))))])) ∧ ((List.getD (TS.wo s) (0 + Int.toNat j) (0 : Int) != (0 : Int)) = false → Vc (fits (j + (1 : Int))) ∧ Post (∃ j_1, (TS.fr s ≤ j_1 ∧ Int.toNat j_1 ≤ firstW (TS.wo s) (Int.toNat (TS.fr s)) ∧ firstW (TS.wo s) (Int.toNat j_1) = firstW (TS.wo s) (Int.toNat (TS.fr s))) ∧ firstW (TS.wo s) (Int.toNat (TS.fr s)) - Int.toNat j_1 < firstW (TS.wo s) (Int.toNat (TS.fr s)) - Int.toNat j ∧ FitsM MF 6 42 [0] [Value.pointer (some (Addr.mk 0 3 none))] (tbG (TS.cap s) (TS.ser s) (List.length (TS.la s)) (TS.la s) (List.length (TS.wo s)) (TS.wo s) j_1 (TS.lv s) (TS.ti s) (TS.id s)) [some (Value.pointer (some (Addr.mk 0 3 none)))] [some (Sum.inl (73, [Value.int IntKind.i64 (TS.cap s), Value.int IntKind.i64 (TS.ser s), Value.slice (some (Addr.mk 1 0 (some 1000))) (List.length (TS.la s)) 0, Value.slice (some (Addr.mk 2 0 (some 1000))) (List.length (TS.wo s)) 0, Value.int IntKind.i64 (j + (1 : Int)), Value.map (some 3), Value.map (some 4), Value.map (some 5)])), some (Sum.inr (Sum.inl (3, Row.mk [Value.int IntKind.i64 0] (List.length (TS.la s)) [Col.mk (TS.la s) [] []]))), some (Sum.inr (Sum.inl (101, Row.mk [Value.int IntKind.u64 0] (List.length (TS.wo s)) [Col.mk (TS.wo s) [] []]))), some (Sum.inr (Sum.inr (Sum.inr (Sum.inr (TS.lv s))))), some (Sum.inr (Sum.inr (Sum.inr (Sum.inl (TS.ti s))))), some (Sum.inr (Sum.inr (Sum.inr (Sum.inl (TS.id s)))))] 42))) ∧ (decide (j < (↑(List.length (TS.wo s)) : Int)) = false → Post (G (Value.tuple (Array.mk [Value.int IntKind.i64 0, Value.bool false])) [some (Sum.inl (73, [Value.int IntKind.i64 (TS.cap s), Value.int IntKind.i64 (TS.ser s), Value.slice (some (Addr.mk 1 0 (some 1000))) (List.length (TS.la s)) 0, Value.slice (some (Addr.mk 2 0 (some 1000))) (List.length (TS.wo s)) 0, Value.int IntKind.i64 j, Value.map (some 3), Value.map (some 4), Value.map (some 5)])), some (Sum.inr (Sum.inl (3, Row.mk [Value.int IntKind.i64 0] (List.length (TS.la s)) [Col.mk (TS.la s) [] []]))), some (Sum.inr (Sum.inl (101, Row.mk [Value.int IntKind.u64 0] (List.length (TS.wo s)) [Col.mk (TS.wo s) [] []]))), some (Sum.inr (Sum.inr (Sum.inr (Sum.inr (TS.lv s))))), some (Sum.inr (Sum.inr (Sum.inr (Sum.inl (TS.ti s))))), some (Sum.inr (Sum.inr (Sum.inr (Sum.inl (TS.id s)))))]))) ?_ (by kernel_rfl)
    subst hG
    have b1 : firstW s.wo s.fr.toNat ≤ max s.fr.toNat s.wo.length := by
      rcases Nat.lt_or_ge s.wo.length s.fr.toNat with h | h
      · rw [firstW_end (by omega)]; omega
      · have := firstW_le h; omega
    have eT : ∀ x : Int, ((tz x : Int) = (tzN x.toNat : Int)) := fun x => rfl
    have eH : firstW s.wo s.fr.toNat = j.toNat → tbH (leastS s) = tbG s.cap s.ser s.la.length s.la s.wo.length s.wo j s.lv s.ti s.id := fun h => by
      show tbG _ _ _ _ _ _ ((firstW s.wo s.fr.toNat : Nat) : Int) _ _ _ = _
      rw [h, Int.toNat_of_nonneg (by omega)]; rfl
    obtain ⟨q1, q2⟩ := getD_ok hv.2.2.1 j.toNat
    have q3 := tzN_le (s.wo.getD j.toNat 0).toNat
    have q4 := eT (s.wo.getD j.toNat 0)
    repeat' (first | apply And.intro | apply Vc.mk | apply fits.mk | intro h | apply Post.mk)
    all_goals (try simp only [decide_eq_true_eq, decide_eq_false_iff_not, Nat.zero_add, ge_iff_le, Int.not_le, Int.not_lt, Int.toNat_natCast, beq_iff_eq, beq_eq_false_iff_ne, bne_iff_ne, bne_eq_false_iff_eq, Bool.not_eq_true', Bool.not_eq_false'] at *)
    all_goals first | contradiction | omega | (apply congrArg Value.bool; assumption) | exact congrArg Value.bool (decide_eq_true (by assumption)) | exact congrArg Value.bool (decide_eq_false (Int.not_lt.mpr (by assumption))) | exact ⟨rfl, by omega⟩ | exact rfl | (simp [*, -List.getD_eq_getElem?_getD]; done) | skip
    all_goals try omega
    · skip
      have f1 := firstW_at (wo := s.wo) (fr := j.toNat) (by omega) (by assumption)
      have f2 : firstW s.wo s.fr.toNat = j.toNat := by omega
      rw [eH f2]
      refine ⟨[0, 1, 2, 3, 4, 5], ?_, rfl, ⟨.inl rfl, ⟨_, rfl, .inl rfl⟩, ⟨_, rfl, .inl rfl⟩, rfl, rfl, rfl, trivial⟩, rfl, rfl, rfl, rfl⟩
      have e1 : leastW s.wo s.fr.toNat = j * 64 + tz (s.wo.getD j.toNat 0) := by unfold leastW; rw [f2, if_pos (by omega), Int.toNat_of_nonneg (by omega)]
      have e2 : anyW s.wo s.fr.toNat = true := by unfold anyW; rw [f2]; exact decide_eq_true (by omega)
      show _ = Value.tuple ⟨[.int .i64 (leastW s.wo s.fr.toNat), .bool (anyW s.wo s.fr.toNat)]⟩
      rw [e1, e2]
    · skip
      have f1 := firstW_lt (wo := s.wo) (fr := j.toNat) (by omega) (by assumption)
      have f2 := firstW_ge s.wo (j.toNat + 1)
      have f3 : (j + 1).toNat = j.toNat + 1 := by omega
      exact ⟨j + 1, ⟨by omega, by omega, by rw [f3]; omega⟩, by omega, ⟨[0, 1, 2, 3, 4, 5], rfl, ⟨.inl rfl, ⟨_, rfl, .inl rfl⟩, ⟨_, rfl, .inl rfl⟩, rfl, rfl, rfl, trivial⟩, rfl, rfl, rfl, rfl⟩⟩
    · skip
      have f1 := firstW_end (wo := s.wo) (fr := j.toNat) (by omega)
      have f2 : firstW s.wo s.fr.toNat = j.toNat := by omega
      rw [eH f2]
      refine ⟨[0, 1, 2, 3, 4, 5], ?_, rfl, ⟨.inl rfl, ⟨_, rfl, .inl rfl⟩, ⟨_, rfl, .inl rfl⟩, rfl, rfl, rfl, trivial⟩, rfl, rfl, rfl, rfl⟩
      have e1 : leastW s.wo s.fr.toNat = 0 := by unfold leastW; rw [f2, if_neg (by omega)]
      have e2 : anyW s.wo s.fr.toNat = false := by unfold anyW; rw [f2]; exact decide_eq_false (by omega)
      show _ = Value.tuple ⟨[.int .i64 (leastW s.wo s.fr.toNat), .bool (anyW s.wo s.fr.toNat)]⟩
      rw [e1, e2]
  · cases hx
def addP : Prim MF := fun args hh => match args, toTb hh with
  | [.pointer (some ⟨0, 3, none⟩), .int .i64 k], some s => some ⟨hh = tbH s ∧ 0 ≤ k ∧ k < 64 ∧ 0 ≤ s.fr ∧ s.wo.length < 1000000, .tuple #[], none, tbHW (withS s k), [], [(0, 0)]⟩
  | _, _ => none
theorem add_ok : ConOk D0 Tryd.prog 38 (con1 addP) := by
  refine con1_ok (prim_atM 8 (fn := Tryd.f38) (root := codeOf Tryd.f38) (by kernel_rfl) (by kernel_rfl) (by kernel_rfl) fun args hh x hx => ?_)
  unfold addP at hx
  split at hx
  · rename_i k s hm
    injection hx with hx
    subst hx
    refine ⟨by rw [toTb_len hm]; first | exact Nat.le_refl _ | exact Nat.le_succ _, (fun b hb => by cases hb), (fun hw => by first | rfl | cases hw), fun _ hv => ?_⟩
    obtain ⟨rfl, hv⟩ := hv
    obtain ⟨w1, w2, w3, w4, w5⟩ := slot_word hv.1; have w6 := slot_pow hv.1
    generalize hG : Rx.Ends (R := MF) _ _ = G
    refine rx_okQ (T := T0) T0_ok mixed 200 (q := Vc ((64 : Int) ≠ (0 : Int) ∧ fits (Int.tdiv k (64 : Int))) ∧ At D0 Tryd.prog (codeOf Tryd.f38) 6 (retK Tryd.prog (Array.toList (Func.results Tryd.f38)) fun v h => G v (keep 8 h)) [Sum.inl [1, 0, 0], Sum.inr (Sum.inl 0), Sum.inl [1, 1]] (SS.mk [some (Value.pointer (some (Addr.mk 0 3 none))), some (Value.int IntKind.i64 k), none, none, some (Value.int IntKind.i64 (Int.tdiv k (64 : Int))), some (Value.int IntKind.i64 k), some (Value.int IntKind.i64 (Int.tdiv k (64 : Int))), none, none, none, none, none, none, none, none, none, none, none, none, none, none, none, none, none, none, none, none, none, none, none, none, none, none, none, none, none, none, none, none, none, none, none, none, none] [] [some (Sum.inl (73, [Value.int IntKind.i64 (TS.cap s), Value.int IntKind.i64 (TS.ser s), Value.slice (some (Addr.mk 1 0 (some 1000))) (List.length (TS.la s)) 0, Value.slice (some (Addr.mk 2 0 (some 1000))) (List.length (TS.wo s)) 0, Value.int IntKind.i64 (TS.fr s), Value.map (some 3), Value.map (some 4), Value.map (some 5)])), some (Sum.inr (Sum.inl (3, Row.mk [Value.int IntKind.i64 0] (List.length (TS.la s)) [Col.mk (TS.la s) [] []]))), some (Sum.inr (Sum.inl (101, Row.mk [Value.int IntKind.u64 0] (List.length (TS.wo s)) [Col.mk (TS.wo s) [] []]))), some (Sum.inr (Sum.inr (Sum.inr (Sum.inr (TS.lv s))))), some (Sum.inr (Sum.inr (Sum.inr (Sum.inl (TS.ti s))))), some (Sum.inr (Sum.inr (Sum.inr (Sum.inl (TS.id s)))))])) ?_ (by kernel_rfl)
    have w7 : k.tdiv 64 = 0 := by omega
    refine ⟨⟨by decide, ⟨by omega, by omega⟩⟩, ?_⟩
    refine loop_atM (by kernel_rfl) (ι := Bool) (fun b => b = true → s.wo = []) [0, 1, 4] (fun b => [.pointer (some ⟨0, 3, none⟩), .int .i64 k, .int .i64 (k.tdiv 64)]) (fun b => match b with
      | false => tbH s
      | true => tbW s.cap s.ser s.la.length s.la (s.wo.length + 1) (cut s.wo 0 s.wo.length ++ [0]) s.fr s.lv s.ti s.id) (fun b => match b with
      | false => 1
      | true => 0) 44 (fun b hb => by cases b <;> exact ⟨rfl, rfl, Nat.le_of_ble_eq_true rfl⟩) ⟨false, (fun h => by cases h), ⟨[0, 1, 2, 3, 4, 5], rfl, ⟨.inl rfl, ⟨_, rfl, .inl rfl⟩, ⟨_, rfl, .inl rfl⟩, rfl, rfl, rfl, trivial⟩, rfl, rfl, rfl, rfl⟩⟩ fun b hb => ?_
    have eF : (if k.tdiv 64 < s.fr then k.tdiv 64 else s.fr) = 0 := by split <;> omega
    have hk : k.toNat / 64 = 0 := by omega
    cases b with
    | false =>
      refine rx_okQ (T := T0) T0_ok mixed 200 (q := (decide ((↑(List.length (TS.wo s)) : Int) ≤ Int.tdiv k (64 : Int)) = true → Vc (0 + List.length (TS.wo s) ≤ List.length (TS.wo s) ∧ 1 ≤ 1 ∧ (List.length (TS.wo s) + 1) * 8 ≤ 140737488355328 ∧ List.length (TS.wo s) + 1 ≤ 140737488355328) ∧ Post (∃ j, (j = true → TS.wo s = []) ∧ (match j with | false => 1 | true => 0) < 1 ∧ FitsM MF 6 44 [0, 1, 4] [Value.pointer (some (Addr.mk 0 3 none)), Value.int IntKind.i64 k, Value.int IntKind.i64 (Int.tdiv k (64 : Int))] (match j with | false => tbH s | true => tbW (TS.cap s) (TS.ser s) (List.length (TS.la s)) (TS.la s) (List.length (TS.wo s) + 1) (cut (TS.wo s) 0 (List.length (TS.wo s)) ++ [(0 : Int)]) (TS.fr s) (TS.lv s) (TS.ti s) (TS.id s)) [some (Value.pointer (some (Addr.mk 0 3 none))), some (Value.int IntKind.i64 k), some (Value.int IntKind.i64 (Int.tdiv k (64 : Int)))] [some (Sum.inl (73, [Value.int IntKind.i64 (TS.cap s), Value.int IntKind.i64 (TS.ser s), Value.slice (some (Addr.mk 1 0 (some 1000))) (List.length (TS.la s)) 0, Value.slice (some (Addr.mk 7 0 (some 1000))) (List.length (TS.wo s) + 1) 0, Value.int IntKind.i64 (TS.fr s), Value.map (some 3), Value.map (some 4), Value.map (some 5)])), some (Sum.inr (Sum.inl (3, Row.mk [Value.int IntKind.i64 0] (List.length (TS.la s)) [Col.mk (TS.la s) [] []]))), none, some (Sum.inr (Sum.inr (Sum.inr (Sum.inr (TS.lv s))))), some (Sum.inr (Sum.inr (Sum.inr (Sum.inl (TS.ti s))))), some (Sum.inr (Sum.inr (Sum.inr (Sum.inl (TS.id s))))), some (Sum.inr (Sum.inl (101, Row.mk [Value.int IntKind.u64 0] 1 [Col.mk [(0 : Int)] [] []]))), some (Sum.inr (Sum.inl (101, Row.mk [Value.int IntKind.u64 0] (List.length (TS.wo s) + 1) [Col.mk (cut (TS.wo s) 0 (List.length (TS.wo s)) ++ [(0 : Int)]) [] []])))] 44)) ∧ (decide ((↑(List.length (TS.wo s)) : Int) ≤ Int.tdiv k (64 : Int)) = false → Vc ((0 : Int) ≤ Int.tdiv k (64 : Int) ∧ Int.tdiv k (64 : Int) < (↑(List.length (TS.wo s)) : Int) ∧ 0 + List.length (TS.wo s) ≤ List.length (TS.wo s)) ∧ Vc (0 + Int.toNat (Int.tdiv k (64 : Int)) < List.length (TS.wo s)) ∧ Vc ((64 : Int) ≠ (0 : Int)) ∧ Vc ((0 : Int) ≤ Int.tmod k (64 : Int)) ∧ Vc True ∧ Vc ((0 : Int) ≤ Int.tdiv k (64 : Int) ∧ Int.tdiv k (64 : Int) < (↑(List.length (TS.wo s)) : Int) ∧ 0 + List.length (TS.wo s) ≤ List.length (TS.wo s)) ∧ Vc (0 + Int.toNat (Int.tdiv k (64 : Int)) < List.length (TS.wo s)) ∧ Post (G (Value.tuple (Array.mk [])) [some (Sum.inl (73, [Value.int IntKind.i64 (TS.cap s), Value.int IntKind.i64 (TS.ser s), Value.slice (some (Addr.mk 1 0 (some 1000))) (List.length (TS.la s)) 0, Value.slice (some (Addr.mk 2 0 (some 1000))) (List.length (TS.wo s)) 0, Value.int IntKind.i64 (if Int.tdiv k (64 : Int) < TS.fr s then Int.tdiv k (64 : Int) else TS.fr s), Value.map (some 3), Value.map (some 4), Value.map (some 5)])), some (Sum.inr (Sum.inl (3, Row.mk [Value.int IntKind.i64 0] (List.length (TS.la s)) [Col.mk (TS.la s) [] []]))), some (Sum.inr (Sum.inl (101, Row.mk [Value.int IntKind.u64 0] (List.length (TS.wo s)) [Col.mk (List.set (TS.wo s) (0 + Int.toNat (Int.tdiv k (64 : Int))) (bits BinOp.or IntKind.u64 (List.getD (TS.wo s) (0 + Int.toNat (Int.tdiv k (64 : Int))) (0 : Int)) (IntKind.wrap IntKind.u64 ((1 : Int) * (2 : Int) ^ min (Int.toNat (Int.tmod k (64 : Int))) 64)))) [] []]))), some (Sum.inr (Sum.inr (Sum.inr (Sum.inr (TS.lv s))))), some (Sum.inr (Sum.inr (Sum.inr (Sum.inl (TS.ti s))))), some (Sum.inr (Sum.inr (Sum.inr (Sum.inl (TS.id s)))))]))) ?_ (by kernel_rfl)
      subst hG
      repeat' (first | apply And.intro | apply Vc.mk | apply fits.mk | intro h | apply Post.mk)
      all_goals (try simp only [decide_eq_true_eq, decide_eq_false_iff_not, Nat.zero_add, ge_iff_le, Int.not_le, Int.not_lt, Int.toNat_natCast, beq_iff_eq, beq_eq_false_iff_ne, bne_iff_ne, bne_eq_false_iff_eq, Bool.not_eq_true', Bool.not_eq_false'] at *)
      all_goals first | contradiction | omega | (apply congrArg Value.bool; assumption) | exact congrArg Value.bool (decide_eq_true (by assumption)) | exact congrArg Value.bool (decide_eq_false (Int.not_lt.mpr (by assumption))) | exact ⟨rfl, by omega⟩ | exact rfl | (simp [*, -List.getD_eq_getElem?_getD]; done) | skip
      all_goals try omega
      · exact ⟨true, fun _ => List.eq_nil_of_length_eq_zero (by omega), Nat.lt_succ_self _, ⟨[0, 1, 2, 3, 4, 5, 7], rfl, ⟨.inl rfl, ⟨_, rfl, .inl rfl⟩, rfl, rfl, rfl, ⟨_, rfl, .inl rfl⟩, trivial⟩, rfl, rfl, rfl, rfl⟩⟩
      · have hW : withW s.wo k.toNat = s.wo.set (k.tdiv 64).toNat (bits .or .u64 (s.wo.getD (k.tdiv 64).toNat 0) (IntKind.u64.wrap (1 * 2 ^ min (k.tmod 64).toNat 64))) := by
          have hg : growW s.wo 0 = s.wo := by
            unfold growW
            rw [show 0 + 1 - s.wo.length = 0 by omega]
            exact List.append_nil _
          unfold withW
          rw [w1, w6, hk, hg]
        have e : tbHW (withS s k) = tbW s.cap s.ser s.la.length s.la s.wo.length (s.wo.set (k.tdiv 64).toNat (bits .or .u64 (s.wo.getD (k.tdiv 64).toNat 0) (IntKind.u64.wrap (1 * 2 ^ min (k.tmod 64).toNat 64)))) (if k.tdiv 64 < s.fr then k.tdiv 64 else s.fr) s.lv s.ti s.id := by
          show tbW _ _ _ _ (withW s.wo k.toNat).length (withW s.wo k.toNat) 0 _ _ _ = _
          rw [hW, List.length_set, eF]; rfl
        rw [e]
        exact ⟨[0, 1, 2, 3, 4, 5, 2], rfl, rfl, ⟨.inl rfl, ⟨_, rfl, .inl rfl⟩, rfl, rfl, rfl, ⟨_, rfl, .inl rfl⟩, trivial⟩, rfl, rfl, rfl, rfl⟩
    | true =>
      have hn := hb rfl
      refine rx_okQ (T := T0) T0_ok mixed 200 (q := (decide ((↑(List.length (TS.wo s) + 1) : Int) ≤ Int.tdiv k (64 : Int)) = true → Vc (0 + (List.length (TS.wo s) + 1) ≤ List.length (TS.wo s) + 1 ∧ 1 ≤ 1 ∧ (List.length (TS.wo s) + 1 + 1) * 8 ≤ 140737488355328 ∧ List.length (TS.wo s) + 1 + 1 ≤ 140737488355328) ∧ Post (∃ j, (j = true → TS.wo s = []) ∧ (match j with | false => 1 | true => 0) < 0 ∧ FitsM MF 6 44 [0, 1, 4] [Value.pointer (some (Addr.mk 0 3 none)), Value.int IntKind.i64 k, Value.int IntKind.i64 (Int.tdiv k (64 : Int))] (match j with | false => tbH s | true => tbW (TS.cap s) (TS.ser s) (List.length (TS.la s)) (TS.la s) (List.length (TS.wo s) + 1) (cut (TS.wo s) 0 (List.length (TS.wo s)) ++ [(0 : Int)]) (TS.fr s) (TS.lv s) (TS.ti s) (TS.id s)) [some (Value.pointer (some (Addr.mk 0 3 none))), some (Value.int IntKind.i64 k), some (Value.int IntKind.i64 (Int.tdiv k (64 : Int)))] [some (Sum.inl (73, [Value.int IntKind.i64 (TS.cap s), Value.int IntKind.i64 (TS.ser s), Value.slice (some (Addr.mk 1 0 (some 1000))) (List.length (TS.la s)) 0, Value.slice (some (Addr.mk 8 0 (some 1000))) (List.length (TS.wo s) + 1 + 1) 0, Value.int IntKind.i64 (TS.fr s), Value.map (some 3), Value.map (some 4), Value.map (some 5)])), some (Sum.inr (Sum.inl (3, Row.mk [Value.int IntKind.i64 0] (List.length (TS.la s)) [Col.mk (TS.la s) [] []]))), none, some (Sum.inr (Sum.inr (Sum.inr (Sum.inr (TS.lv s))))), some (Sum.inr (Sum.inr (Sum.inr (Sum.inl (TS.ti s))))), some (Sum.inr (Sum.inr (Sum.inr (Sum.inl (TS.id s))))), none, some (Sum.inr (Sum.inl (101, Row.mk [Value.int IntKind.u64 0] 1 [Col.mk [(0 : Int)] [] []]))), some (Sum.inr (Sum.inl (101, Row.mk [Value.int IntKind.u64 0] (List.length (TS.wo s) + 1 + 1) [Col.mk (cut (cut (TS.wo s) 0 (List.length (TS.wo s)) ++ [(0 : Int)]) 0 (List.length (TS.wo s) + 1) ++ [(0 : Int)]) [] []])))] 44)) ∧ (decide ((↑(List.length (TS.wo s) + 1) : Int) ≤ Int.tdiv k (64 : Int)) = false → Vc ((0 : Int) ≤ Int.tdiv k (64 : Int) ∧ Int.tdiv k (64 : Int) < (↑(List.length (TS.wo s) + 1) : Int) ∧ 0 + (List.length (TS.wo s) + 1) ≤ List.length (TS.wo s) + 1) ∧ Vc (0 + Int.toNat (Int.tdiv k (64 : Int)) < List.length (TS.wo s) + 1) ∧ Vc ((64 : Int) ≠ (0 : Int)) ∧ Vc ((0 : Int) ≤ Int.tmod k (64 : Int)) ∧ Vc True ∧ Vc ((0 : Int) ≤ Int.tdiv k (64 : Int) ∧ Int.tdiv k (64 : Int) < (↑(List.length (TS.wo s) + 1) : Int) ∧ 0 + (List.length (TS.wo s) + 1) ≤ List.length (TS.wo s) + 1) ∧ Vc (0 + Int.toNat (Int.tdiv k (64 : Int)) < List.length (TS.wo s) + 1) ∧ Post (G (Value.tuple (Array.mk [])) [some (Sum.inl (73, [Value.int IntKind.i64 (TS.cap s), Value.int IntKind.i64 (TS.ser s), Value.slice (some (Addr.mk 1 0 (some 1000))) (List.length (TS.la s)) 0, Value.slice (some (Addr.mk 6 0 (some 1000))) (List.length (TS.wo s) + 1) 0, Value.int IntKind.i64 (if Int.tdiv k (64 : Int) < TS.fr s then Int.tdiv k (64 : Int) else TS.fr s), Value.map (some 3), Value.map (some 4), Value.map (some 5)])), some (Sum.inr (Sum.inl (3, Row.mk [Value.int IntKind.i64 0] (List.length (TS.la s)) [Col.mk (TS.la s) [] []]))), none, some (Sum.inr (Sum.inr (Sum.inr (Sum.inr (TS.lv s))))), some (Sum.inr (Sum.inr (Sum.inr (Sum.inl (TS.ti s))))), some (Sum.inr (Sum.inr (Sum.inr (Sum.inl (TS.id s))))), some (Sum.inr (Sum.inl (101, Row.mk [Value.int IntKind.u64 0] (List.length (TS.wo s) + 1) [Col.mk (List.set (cut (TS.wo s) 0 (List.length (TS.wo s)) ++ [(0 : Int)]) (0 + Int.toNat (Int.tdiv k (64 : Int))) (bits BinOp.or IntKind.u64 (List.getD (cut (TS.wo s) 0 (List.length (TS.wo s)) ++ [(0 : Int)]) (0 + Int.toNat (Int.tdiv k (64 : Int))) (0 : Int)) (IntKind.wrap IntKind.u64 ((1 : Int) * (2 : Int) ^ min (Int.toNat (Int.tmod k (64 : Int))) 64)))) [] []])))]))) ?_ (by kernel_rfl)
      subst hG
      repeat' (first | apply And.intro | apply Vc.mk | apply fits.mk | intro h | apply Post.mk)
      all_goals (try simp only [decide_eq_true_eq, decide_eq_false_iff_not, Nat.zero_add, ge_iff_le, Int.not_le, Int.not_lt, Int.toNat_natCast, beq_iff_eq, beq_eq_false_iff_ne, bne_iff_ne, bne_eq_false_iff_eq, Bool.not_eq_true', Bool.not_eq_false'] at *)
      all_goals first | contradiction | omega | (apply congrArg Value.bool; assumption) | exact congrArg Value.bool (decide_eq_true (by assumption)) | exact congrArg Value.bool (decide_eq_false (Int.not_lt.mpr (by assumption))) | exact ⟨rfl, by omega⟩ | exact rfl | (simp [*, -List.getD_eq_getElem?_getD]; done) | skip
      all_goals try omega
      have hW : withW s.wo k.toNat = List.set (cut s.wo 0 s.wo.length ++ [0]) (k.tdiv 64).toNat (bits .or .u64 ((cut s.wo 0 s.wo.length ++ [0]).getD (k.tdiv 64).toNat 0) (IntKind.u64.wrap (1 * 2 ^ min (k.tmod 64).toNat 64))) := by
        unfold withW
        rw [w1, w6, hk, hn]; rfl
      have e : tbHW (withS s k) = tbW s.cap s.ser s.la.length s.la (s.wo.length + 1) (List.set (cut s.wo 0 s.wo.length ++ [0]) (k.tdiv 64).toNat (bits .or .u64 ((cut s.wo 0 s.wo.length ++ [0]).getD (k.tdiv 64).toNat 0) (IntKind.u64.wrap (1 * 2 ^ min (k.tmod 64).toNat 64)))) (if k.tdiv 64 < s.fr then k.tdiv 64 else s.fr) s.lv s.ti s.id := by
        show tbW _ _ _ _ (withW s.wo k.toNat).length (withW s.wo k.toNat) 0 _ _ _ = _
        rw [hW, List.length_set, eF]
        simp only [cut_all, List.length_append, List.length_cons, List.length_nil]
        rfl
      rw [e]
      exact ⟨[0, 1, 2, 3, 4, 5, 6], rfl, rfl, ⟨.inl rfl, ⟨_, rfl, .inl rfl⟩, rfl, rfl, rfl, ⟨_, rfl, .inl rfl⟩, trivial⟩, rfl, rfl, rfl, rfl⟩
  · cases hx
end Go.Proofs.YtobdpddamdkabaaDoor.Tg
