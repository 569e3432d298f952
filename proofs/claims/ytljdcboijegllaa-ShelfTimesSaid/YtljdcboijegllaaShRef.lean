/- shelf: the document's lists of items. -/
import Derived.Test.YtljdcboijegllaaWvSrt
import Derived.Test.YtljdcboijegllaaShLst
namespace Go.Proofs.Ytljdcboijegllaa.Sh
open Go.Proofs.Ytljdcboijegllaa.Rx Go.Proofs.Ytljdcboijegllaa.Wv
set_option linter.unusedVariables false
set_option linter.unusedSimpArgs false
set_option maxRecDepth 100000
set_option maxHeartbeats 4000000
/-- a stretch of items as a row -/
def iRx (l : List It) (a n : Nat) : Row := ⟨[.int .i64 0, .int .i64 0], n, [⟨cut (l.map It.k) a n, [], []⟩, ⟨cut (l.map It.i) a n, [], []⟩]⟩
theorem iRx_all (l : List It) : iRx l 0 l.length = iR l := by unfold iRx; simp only [cm]
theorem iR_cut' (l : List It) : (⟨[.int .i64 0, .int .i64 0], l.length, [⟨cut (l.map It.k) 0 l.length, [], []⟩, ⟨cut (l.map It.i) 0 l.length, [], []⟩]⟩ : Row) = iR l := by simp only [cm]
theorem gIt {β : Type} {l : List It} {i : Nat} (f : It → β) (d : β) (h : f iz = d) : (l.map f).getD i d = f (l.getD i iz) := by
  subst h
  rw [List.getD_eq_getElem?_getD, List.getD_eq_getElem?_getD, List.getElem?_map]
  cases l[i]? <;> rfl
theorem e_i' (i : Nat) : 0 + (i : Int).toNat = i := by omega
theorem it_eq {a b : It} : (a.k == b.k && (a.i == b.i && true)) = decide (a = b) := by
  rw [Bool.and_true, Bool.eq_iff_iff]
  simp only [Bool.and_eq_true, beq_iff_eq, decide_eq_true_eq]
  exact ⟨fun h => It.ext_ h.1 h.2, fun h => by rw [h]; exact ⟨rfl, rfl⟩⟩
/-- where an item stands (-1: nowhere) -/
def atI (l : List It) (x : It) : Int := if inI x l = true then (ixI x l : Int) else -1
abbrev bI {R : Type} (x : It) : Option (SB R) := some (.inl (24, [.int .i64 x.k, .int .i64 x.i]))
def atP {R : Type} : Prim R := fun args hh => match args, hh with
  | [.slice (some ⟨0, 0, some 2000⟩) n c, .agg ⟨[.int .i64 a, .int .i64 b]⟩], [some (.inr (.inr (.inl r)))] => some ⟨r = iR (unI r) ∧ n = (unI r).length ∧ (unI r).length ≤ 100000, .int .i64 (atI (unI r) ⟨a, b⟩), none, hh, [], []⟩
  | _, _ => none
theorem at_ok {R : Type} {D : Res R} : ConOk D Try.prog 9 (con1 atP) := by
  refine con1_ok (prim_at (fn := Try.f9) (root := codeOf Try.f9) (by kernel_rfl) (by kernel_rfl) (by kernel_rfl) fun args hh x hx => ?_)
  unfold atP at hx
  split at hx
  · rename_i n c a b r
    injection hx with hx
    subst hx
    refine ⟨by first | exact Nat.le_refl _ | exact Nat.zero_le _ | exact Nat.le_succ _, noLit rfl, (fun hw => by first | rfl | cases hw), fun _ hv => ?_⟩
    obtain ⟨hr, rfl, hb⟩ := hv; generalize unI r = l at *; subst hr
    generalize hG : Rx.Ends (R := R) _ _ = G
    refine rx_ok (T := []) trivial mixed 200 ?_
    refine as_text (q := let zz1 := Value.int IntKind.i64; At D Try.prog (codeOf Try.f9) 1 (retK Try.prog (Array.toList (Func.results Try.f9)) G) [Sum.inl [1, 0, 1, 0], Sum.inr (Sum.inl 0), Sum.inl [1, 1]] (SS.mk [some (Value.slice (some (Addr.mk 0 0 (some 2000))) (List.length l) c), some (Value.agg (Array.mk [zz1 a, zz1 b])), none, some (Value.pointer (some (Addr.mk 1 0 none))), some (zz1 0), some (zz1 0), none, none, none, none, none, none, none, none, none, none, none, none, none] [] [some (Sum.inr (Sum.inr (Sum.inl (iR l)))), some (Sum.inl (24, [zz1 a, zz1 b]))])) ?_ (by kernel_rfl)
    intro zz1; subst zz1
    refine loop_atM (by kernel_rfl) (ι := Nat) (fun i => i ≤ l.length ∧ ∀ j, j < i → l.getD j iz ≠ ⟨a, b⟩) [0, 3, 5] (fun i => [.slice (some ⟨0, 0, some 2000⟩) l.length c, .pointer (some ⟨1, 0, none⟩), .int .i64 i]) (fun i => [vI l, bI ⟨a, b⟩]) (fun i => l.length - i) 19 (fun i hi => ⟨rfl, rfl, by simp⟩) ⟨0, ⟨Nat.zero_le _, fun j hj => by omega⟩, ⟨[0, 1], rfl, ⟨rfl, .inl rfl, trivial⟩, rfl, rfl, rfl, rfl⟩⟩ fun i hi => ?_
    obtain ⟨hi, hn⟩ := hi
    refine rx_ok (T := []) trivial mixed 200 ?_
    refine as_text (q := let zz3 := Value.int IntKind.i64; let zz1 := (List.getD (List.map It.i l) (0 + Int.toNat (↑i : Int)) (0 : Int) == b && true); let zz2 := (if false = true then !(List.getD (List.map It.k l) (0 + Int.toNat (↑i : Int)) (0 : Int) == a && zz1) else List.getD (List.map It.k l) (0 + Int.toNat (↑i : Int)) (0 : Int) == a && zz1); (decide ((↑i : Int) < (↑(List.length l) : Int)) = true → Vc ((0 : Int) ≤ (↑i : Int) ∧ (↑i : Int) < (↑(List.length l) : Int) ∧ 0 + List.length l ≤ List.length l) ∧ Vc (0 + Int.toNat (↑i : Int) < List.length l) ∧ (zz2 = true → Post (G (zz3 (↑i : Int)) [some (Sum.inr (Sum.inr (Sum.inl (iR l)))), some (Sum.inl (24, [zz3 a, zz3 b]))])) ∧ (zz2 = false → Vc (fits ((↑i : Int) + (1 : Int))) ∧ Post (∃ j, (j ≤ List.length l ∧ ∀ (j_1 : Nat), j_1 < j → List.getD l j_1 iz ≠ It.mk a b) ∧ List.length l - j < List.length l - i ∧ FitsM R 1 19 [0, 3, 5] [Value.slice (some (Addr.mk 0 0 (some 2000))) (List.length l) c, Value.pointer (some (Addr.mk 1 0 none)), zz3 (↑j : Int)] [vI l, bI (It.mk a b)] [some (Value.slice (some (Addr.mk 0 0 (some 2000))) (List.length l) c), some (Value.pointer (some (Addr.mk 1 0 none))), some (zz3 ((↑i : Int) + (1 : Int)))] [some (Sum.inr (Sum.inr (Sum.inl (iR l)))), some (Sum.inl (24, [zz3 a, zz3 b]))] 19))) ∧ (decide ((↑i : Int) < (↑(List.length l) : Int)) = false → Post (G (zz3 (-1 : Int)) [some (Sum.inr (Sum.inr (Sum.inl (iR l)))), some (Sum.inl (24, [zz3 a, zz3 b]))]))) ?_ (by kernel_rfl)
    intro zz3 zz1 zz2; subst zz2 zz1 zz3
    simp only [e_i', gIt It.k 0 rfl, gIt It.i 0 rfl]
    simp only [Bool.false_eq_true, if_false]
    have hx := it_eq (a := l.getD i iz) (b := ⟨a, b⟩)
    simp only at hx
    simp only [hx]
    refine ⟨fun h => ?_, fun h => ?_⟩
    · have hlt : i < l.length := by have := of_decide_eq_true h; omega
      refine ⟨⟨by omega, by omega, by omega⟩, ⟨hlt⟩, fun h2 => ⟨?_⟩, fun h2 => ⟨⟨by omega, by omega⟩, ⟨i + 1, ⟨hlt, fun j hj => ?_⟩, by omega, ⟨[0, 1], rfl, ⟨rfl, .inl rfl, trivial⟩, rfl, rfl, rfl, rfl⟩⟩⟩⟩
      · have e := ixI_is hn hlt (of_decide_eq_true h2)
        subst hG
        unfold atI inI
        rw [e, decide_eq_true hlt, if_pos rfl]
        exact ⟨[0], rfl, rfl, ⟨rfl, trivial⟩, rfl, rfl, rfl, rfl⟩
      · rcases Nat.lt_or_ge j i with c | c
        · exact hn j c
        · rw [show j = i by omega]; exact of_decide_eq_false h2
    · obtain rfl : i = l.length := by have := of_decide_eq_false h; omega
      have e := ixI_no hn
      refine ⟨?_⟩
      subst hG
      unfold atI inI
      rw [e, decide_eq_false (Nat.lt_irrefl _), if_neg (by decide)]
      exact ⟨[0], rfl, rfl, ⟨rfl, trivial⟩, rfl, rfl, rfl, rfl⟩
  · cases hx
def TAb {R : Type} : Tab R := [(21, liftC zN 2 (con1 ahdP))]
theorem TAb_ok {R : Type} {D : Res R} : TabOk D Try.prog (TAb : Tab R) := ⟨liftC_ok _ _ ahd_ok, trivial⟩
def abovP {R : Type} : Prim R := fun args hh => match args, hh with
  | [.slice (some ⟨0, 0, some 2000⟩) n c, .agg ⟨[.int .i64 a, .int .i64 b]⟩], [some (.inr (.inr (.inl r)))] => some ⟨r = iR (unI r) ∧ n = (unI r).length ∧ (unI r).length ≤ 100000, .int .i64 (abI ⟨a, b⟩ (unI r)), none, hh, [], []⟩
  | _, _ => none
theorem abov_ok {R : Type} {D : Res R} : ConOk D Try.prog 18 (con1 abovP) := by
  refine con1_ok (prim_at (fn := Try.f18) (root := codeOf Try.f18) (by kernel_rfl) (by kernel_rfl) (by kernel_rfl) fun args hh x hx => ?_)
  unfold abovP at hx
  split at hx
  · rename_i n c a b r
    injection hx with hx
    subst hx
    refine ⟨by first | exact Nat.le_refl _ | exact Nat.zero_le _ | exact Nat.le_succ _, noLit rfl, (fun hw => by first | rfl | cases hw), fun _ hv => ?_⟩
    obtain ⟨hr, rfl, hb⟩ := hv; generalize unI r = l at *; subst hr
    generalize hG : Rx.Ends (R := R) _ _ = G
    refine rx_ok (T := TAb) TAb_ok mixed 200 ?_
    refine as_text (q := let zz1 := Value.int IntKind.i64; At D Try.prog (codeOf Try.f18) 1 (retK Try.prog (Array.toList (Func.results Try.f18)) G) [Sum.inl [1, 1, 0, 1, 0], Sum.inr (Sum.inl 0), Sum.inl [1, 1, 1]] (SS.mk [some (Value.slice (some (Addr.mk 0 0 (some 2000))) (List.length l) c), some (Value.agg (Array.mk [zz1 a, zz1 b])), none, some (Value.pointer (some (Addr.mk 1 0 none))), some (zz1 0), some (zz1 0), some (zz1 0), none, none, none, none, none, none, none, none, none, none, none, none, none, none, none] [] [some (Sum.inr (Sum.inr (Sum.inl (iR l)))), some (Sum.inl (24, [zz1 a, zz1 b]))])) ?_ (by kernel_rfl)
    intro zz1; subst zz1
    refine loop_atM (by kernel_rfl) (ι := Nat) (fun i => i ≤ l.length) [0, 3, 5, 6] (fun i => [.slice (some ⟨0, 0, some 2000⟩) l.length c, .pointer (some ⟨1, 0, none⟩), .int .i64 (abI ⟨a, b⟩ (l.take i)), .int .i64 i]) (fun i => [vI l, bI ⟨a, b⟩]) (fun i => l.length - i) 22 (fun i hi => ⟨rfl, rfl, by simp⟩) ⟨0, Nat.zero_le _, ⟨[0, 1], rfl, ⟨rfl, .inl rfl, trivial⟩, rfl, rfl, rfl, rfl⟩⟩ fun i hi => ?_
    refine rx_ok (T := TAb) TAb_ok mixed 200 ?_
    refine as_text (q := let zz4 := Value.pointer (some (Addr.mk 1 0 none)); let zz5 := Value.int IntKind.i64; let zz1 := (ah (It.mk a b) (It.mk (List.getD (List.map It.k l) (0 + Int.toNat (↑i : Int)) (0 : Int)) (List.getD (List.map It.i l) (0 + Int.toNat (↑i : Int)) (0 : Int)))); let zz2 := (Value.slice (some (Addr.mk 0 0 (some 2000))) (List.length l) c); let zz3 := (zz5 (↑(abI (It.mk a b) (List.take i l)) : Int)); (decide ((↑i : Int) < (↑(List.length l) : Int)) = true → Vc ((0 : Int) ≤ (↑i : Int) ∧ (↑i : Int) < (↑(List.length l) : Int) ∧ 0 + List.length l ≤ List.length l) ∧ Vc (0 + Int.toNat (↑i : Int) < List.length l) ∧ Vc True ∧ (decide zz1 = true → Vc (fits ((↑(abI (It.mk a b) (List.take i l)) : Int) + (1 : Int))) ∧ Vc (fits ((↑i : Int) + (1 : Int))) ∧ Post (∃ j, j ≤ List.length l ∧ List.length l - j < List.length l - i ∧ FitsM R 1 22 [0, 3, 5, 6] [Value.slice (some (Addr.mk 0 0 (some 2000))) (List.length l) c, zz4, zz5 (↑(abI (It.mk a b) (List.take j l)) : Int), zz5 (↑j : Int)] [vI l, bI (It.mk a b)] [some zz2, some (zz4), some (zz5 ((↑(abI (It.mk a b) (List.take i l)) : Int) + (1 : Int))), some (zz5 ((↑i : Int) + (1 : Int)))] [some (Sum.inr (Sum.inr (Sum.inl (iR l)))), some (Sum.inl (24, [zz5 a, zz5 b]))] 22)) ∧ (decide zz1 = false → Vc (fits ((↑i : Int) + (1 : Int))) ∧ Post (∃ j, j ≤ List.length l ∧ List.length l - j < List.length l - i ∧ FitsM R 1 22 [0, 3, 5, 6] [Value.slice (some (Addr.mk 0 0 (some 2000))) (List.length l) c, zz4, zz5 (↑(abI (It.mk a b) (List.take j l)) : Int), zz5 (↑j : Int)] [vI l, bI (It.mk a b)] [some zz2, some (zz4), some zz3, some (zz5 ((↑i : Int) + (1 : Int)))] [some (Sum.inr (Sum.inr (Sum.inl (iR l)))), some (Sum.inl (24, [zz5 a, zz5 b]))] 22))) ∧ (decide ((↑i : Int) < (↑(List.length l) : Int)) = false → Post (G zz3 [some (Sum.inr (Sum.inr (Sum.inl (iR l)))), some (Sum.inl (24, [zz5 a, zz5 b]))]))) ?_ (by kernel_rfl)
    intro zz4 zz5 zz1 zz2 zz3; subst zz3 zz2 zz1 zz5 zz4
    simp only [e_i', gIt It.k 0 rfl, gIt It.i 0 rfl]
    have hs : i < l.length → (abI ⟨a, b⟩ (l.take (i + 1)) : Int) = abI ⟨a, b⟩ (l.take i) + if ah ⟨a, b⟩ (l.getD i iz) then 1 else 0 := fun h => by
      rw [take_succ_getD iz h, ab_snoc]; split <;> simp
    have hab := ab_le (x := ⟨a, b⟩) (l.take i)
    have htl := List.length_take_le i l
    refine ⟨fun h => ?_, fun h => ?_⟩
    · have hlt : i < l.length := by have := of_decide_eq_true h; omega
      have hs := hs hlt
      refine ⟨⟨by omega, by omega, by omega⟩, ⟨hlt⟩, ⟨trivial⟩, fun h2 => ⟨⟨by omega, by omega⟩, ⟨by omega, by omega⟩, ⟨i + 1, hlt, by omega, ?_⟩⟩, fun h2 => ⟨⟨by omega, by omega⟩, ⟨i + 1, hlt, by omega, ?_⟩⟩⟩
      · rw [if_pos (of_decide_eq_true h2)] at hs
        rw [hs]
        exact ⟨[0, 1], rfl, ⟨rfl, .inl rfl, trivial⟩, rfl, rfl, rfl, rfl⟩
      · rw [if_neg (of_decide_eq_false h2), Int.add_zero] at hs
        rw [hs]
        exact ⟨[0, 1], rfl, ⟨rfl, .inl rfl, trivial⟩, rfl, rfl, rfl, rfl⟩
    · obtain rfl : i = l.length := by have := of_decide_eq_false h; omega
      refine ⟨?_⟩
      subst hG
      rw [List.take_length]
      exact ⟨[0], rfl, rfl, ⟨rfl, trivial⟩, rfl, rfl, rfl, rfl⟩
  · cases hx
def sameP {R : Type} : Prim R := fun args hh => match args, hh with
  | [.slice (some ⟨0, 0, some 2000⟩) n c, .slice (some ⟨1, 0, some 2000⟩) n' c'], [some (.inr (.inr (.inl r))), some (.inr (.inr (.inl r')))] => some ⟨r = iR (unI r) ∧ n = (unI r).length ∧ r' = iR (unI r') ∧ n' = (unI r').length ∧ (unI r).length ≤ 100000, .bool (decide (unI r = unI r')), none, hh, [], []⟩
  | _, _ => none
theorem same_ok {R : Type} {D : Res R} : ConOk D Try.prog 13 (con1 sameP) := by
  refine con1_ok (prim_at (fn := Try.f13) (root := codeOf Try.f13) (by kernel_rfl) (by kernel_rfl) (by kernel_rfl) fun args hh x hx => ?_)
  unfold sameP at hx
  split at hx
  · rename_i n c n' c' r r'
    injection hx with hx
    subst hx
    refine ⟨by first | exact Nat.le_refl _ | exact Nat.zero_le _ | exact Nat.le_succ _, noLit rfl, (fun hw => by first | rfl | cases hw), fun _ hv => ?_⟩
    obtain ⟨hr, rfl, hr', rfl, hb⟩ := hv; generalize unI r = l at *; generalize unI r' = l' at *; subst hr; subst hr'
    generalize hG : Rx.Ends (R := R) _ _ = G
    refine rx_ok (T := []) trivial mixed 200 ?_
    refine as_text (q := let zz1 := (Value.slice (some (Addr.mk 0 0 (some 2000))) (List.length l) c); let zz2 := (Value.slice (some (Addr.mk 1 0 (some 2000))) (List.length l') c'); (((↑(List.length l) : Int) != (↑(List.length l') : Int)) = true → Post (G (Value.bool false) [some (Sum.inr (Sum.inr (Sum.inl (iR l)))), some (Sum.inr (Sum.inr (Sum.inl (iR l'))))])) ∧ (((↑(List.length l) : Int) != (↑(List.length l') : Int)) = false → At D Try.prog (codeOf Try.f13) 2 (retK Try.prog (Array.toList (Func.results Try.f13)) G) [Sum.inl [1, 1, 0, 1, 0], Sum.inr (Sum.inl 0), Sum.inl [1, 1, 1]] (SS.mk [some zz1, some zz2, none, none, some (Value.bool false), some (Value.int IntKind.i64 0), some zz1, some (Value.int IntKind.i64 (↑(List.length l) : Int)), some zz2, some (Value.int IntKind.i64 (↑(List.length l') : Int)), some (Value.bool false), none, none, none, none, none, none, none, none, none, none, none, none, none, none, none] [(10, false), (4, false)] [some (Sum.inr (Sum.inr (Sum.inl (iR l)))), some (Sum.inr (Sum.inr (Sum.inl (iR l'))))]))) ?_ (by kernel_rfl)
    intro zz1 zz2; subst zz2 zz1
    refine ⟨fun h => ⟨?_⟩, fun h => ?_⟩
    · have h2 : ¬ l = l' := fun e => by rw [e, bne_self_eq_false] at h; cases h
      subst hG
      rw [decide_eq_false h2]
      exact ⟨[0, 1], rfl, rfl, ⟨rfl, rfl, trivial⟩, rfl, rfl, rfl, rfl⟩
    have hl : l.length = l'.length := by have := (bne_eq_false_iff_eq).1 h; omega
    clear h
    refine loop_atM (by kernel_rfl) (ι := Nat) (fun i => i ≤ l.length ∧ ∀ j, j < i → l.getD j iz = l'.getD j iz) [0, 1, 5] (fun i => [.slice (some ⟨0, 0, some 2000⟩) l.length c, .slice (some ⟨1, 0, some 2000⟩) l'.length c', .int .i64 i]) (fun i => [vI l, vI l']) (fun i => l.length - i) 26 (fun i hi => ⟨rfl, rfl, by simp⟩) ⟨0, ⟨Nat.zero_le _, fun j hj => by omega⟩, ⟨[0, 1], rfl, ⟨rfl, rfl, trivial⟩, rfl, rfl, rfl, rfl⟩⟩ fun i hi => ?_
    obtain ⟨hi, hn⟩ := hi
    refine rx_ok (T := []) trivial mixed 200 ?_
    refine as_text (q := let zz1 := (List.getD (List.map It.i l) (0 + Int.toNat (↑i : Int)) (0 : Int) == List.getD (List.map It.i l') (0 + Int.toNat (↑i : Int)) (0 : Int) && true); let zz2 := (if true = true then !(List.getD (List.map It.k l) (0 + Int.toNat (↑i : Int)) (0 : Int) == List.getD (List.map It.k l') (0 + Int.toNat (↑i : Int)) (0 : Int) && zz1) else List.getD (List.map It.k l) (0 + Int.toNat (↑i : Int)) (0 : Int) == List.getD (List.map It.k l') (0 + Int.toNat (↑i : Int)) (0 : Int) && zz1); (decide ((↑i : Int) < (↑(List.length l) : Int)) = true → Vc ((0 : Int) ≤ (↑i : Int) ∧ (↑i : Int) < (↑(List.length l) : Int) ∧ 0 + List.length l ≤ List.length l) ∧ Vc (0 + Int.toNat (↑i : Int) < List.length l) ∧ Vc ((0 : Int) ≤ (↑i : Int) ∧ (↑i : Int) < (↑(List.length l') : Int) ∧ 0 + List.length l' ≤ List.length l') ∧ Vc (0 + Int.toNat (↑i : Int) < List.length l') ∧ (zz2 = true → Post (G (Value.bool false) [some (Sum.inr (Sum.inr (Sum.inl (iR l)))), some (Sum.inr (Sum.inr (Sum.inl (iR l'))))])) ∧ (zz2 = false → Vc (fits ((↑i : Int) + (1 : Int))) ∧ Post (∃ j, (j ≤ List.length l ∧ ∀ (j_1 : Nat), j_1 < j → List.getD l j_1 iz = List.getD l' j_1 iz) ∧ List.length l - j < List.length l - i ∧ FitsM R 2 26 [0, 1, 5] [Value.slice (some (Addr.mk 0 0 (some 2000))) (List.length l) c, Value.slice (some (Addr.mk 1 0 (some 2000))) (List.length l') c', Value.int IntKind.i64 (↑j : Int)] [vI l, vI l'] [some (Value.slice (some (Addr.mk 0 0 (some 2000))) (List.length l) c), some (Value.slice (some (Addr.mk 1 0 (some 2000))) (List.length l') c'), some (Value.int IntKind.i64 ((↑i : Int) + (1 : Int)))] [some (Sum.inr (Sum.inr (Sum.inl (iR l)))), some (Sum.inr (Sum.inr (Sum.inl (iR l'))))] 26))) ∧ (decide ((↑i : Int) < (↑(List.length l) : Int)) = false → Post (G (Value.bool true) [some (Sum.inr (Sum.inr (Sum.inl (iR l)))), some (Sum.inr (Sum.inr (Sum.inl (iR l'))))]))) ?_ (by kernel_rfl)
    intro zz1 zz2; subst zz2 zz1
    simp only [e_i', gIt It.k 0 rfl, gIt It.i 0 rfl]
    have hx := it_eq (a := l.getD i iz) (b := l'.getD i iz)
    simp only [hx, if_true, ite_true]
    refine ⟨fun h => ?_, fun h => ?_⟩
    · have hlt : i < l.length := by have := of_decide_eq_true h; omega
      have hlt' : i < l'.length := by omega
      refine ⟨⟨by omega, by omega, by omega⟩, ⟨hlt⟩, ⟨by omega, by omega, by omega⟩, ⟨hlt'⟩, fun h2 => ⟨?_⟩, fun h2 => ⟨⟨by omega, by omega⟩, ⟨i + 1, ⟨hlt, fun j hj => ?_⟩, by omega, ⟨[0, 1], rfl, ⟨rfl, rfl, trivial⟩, rfl, rfl, rfl, rfl⟩⟩⟩⟩
      · have h3 : ¬ l.getD i iz = l'.getD i iz := by simpa using h2
        have h4 : ¬ l = l' := fun e => h3 (by rw [e])
        subst hG
        rw [decide_eq_false h4]
        exact ⟨[0, 1], rfl, rfl, ⟨rfl, rfl, trivial⟩, rfl, rfl, rfl, rfl⟩
      · have h3 : l.getD i iz = l'.getD i iz := by simpa using h2
        rcases Nat.lt_or_ge j i with c | c
        · exact hn j c
        · rw [show j = i by omega]; exact h3
    · obtain rfl : i = l.length := by have := of_decide_eq_false h; omega
      have e : l = l' := List.ext_getElem hl fun j h1 h2 => by
        have := hn j h1
        rwa [List.getD_eq_getElem?_getD, List.getElem?_eq_getElem h1, List.getD_eq_getElem?_getD, List.getElem?_eq_getElem h2] at this
      refine ⟨?_⟩
      subst hG
      rw [decide_eq_true e]
      exact ⟨[0, 1], rfl, rfl, ⟨rfl, rfl, trivial⟩, rfl, rfl, rfl, rfl⟩
  · cases hx
theorem ap1 {α : Type} {x : List α} {n : Nat} (v : α) (h : x.length = n) : cut (cut ([] ++ cut x 0 n) 0 (0 + n) ++ cut [v] 0 1) 0 (0 + n + 1) = x ++ [v] := by
  subst h
  unfold cut
  simp
  exact List.take_of_length_le (by simp)
theorem drow {α : Type} {x : List α} {k n : Nat} (h : x.length = n) (hk : k < n) : cut ([] ++ cut x 0 k) 0 k ++ cut x ((k : Int) + 1).toNat ((n : Int) - ((k : Int) + 1)).toNat = x.take k ++ x.drop (k + 1) := by
  have h1 : cut ([] ++ cut x 0 k) 0 k = x.take k := by unfold cut; simp [List.take_take]
  rw [h1, cut_drop (by omega), show ((k : Int) + 1).toNat = k + 1 by omega]
def TPt {R : Type} : Tab R := [(9, liftV z0 2 (con1 atP)), (31, liftV z0 2 (con1 srtdP))]
theorem TPt_ok {R : Type} {D : Res R} : TabOk D Try.prog (TPt : Tab R) := ⟨liftV_ok _ _ at_ok, liftV_ok _ _ srtd_ok, trivial⟩
theorem at_neg (l : List It) (x : It) : decide (atI l x < 0) = !inI x l := by
  unfold atI
  cases inI x l
  · rfl
  · simp only [if_true, Bool.not_true]; exact decide_eq_false (by omega)
theorem at_pos (l : List It) (x : It) : decide (atI l x ≥ 0) = inI x l := by
  unfold atI
  cases inI x l
  · rfl
  · simp only [if_true]; exact decide_eq_true (by omega)
def putW {R : Type} (args : List Value) (hh : Hp R) : Option Bool := match args, hh with
  | [.slice (some ⟨0, 0, some 2000⟩) n c, .agg ⟨[.int .i64 a, .int .i64 b]⟩], [some (.inr (.inl (24, r)))] => some (inI ⟨a, b⟩ (unI r))
  | _, _ => none
def putY {R : Type} : Prim R := fun args hh => match args, hh with
  | [.slice (some ⟨0, 0, some 2000⟩) n c, .agg ⟨[.int .i64 a, .int .i64 b]⟩], [some (.inr (.inl (24, r)))] => some ⟨r = iR (unI r) ∧ n = (unI r).length ∧ (unI r).length ≤ 1000, .slice (some ⟨0, 0, some 2000⟩) n c, none, hh, [], []⟩
  | _, _ => none
def putN {R : Type} : Prim R := fun args hh => match args, hh with
  | [.slice (some ⟨0, 0, some 2000⟩) n c, .agg ⟨[.int .i64 a, .int .i64 b]⟩], [some (.inr (.inl (24, r)))] => some ⟨r = iR (unI r) ∧ n = (unI r).length ∧ (unI r).length ≤ 1000, .slice (some ⟨1, 0, some 2000⟩) (srt (unI r ++ [⟨a, b⟩])).length 0, none, [some (.inr (.inl (24, r))), oI (srt (unI r ++ [⟨a, b⟩]))], [], [(0, 0)]⟩
  | _, _ => none
def putC {R : Type} : Con R := ⟨putW, putY, putN⟩
theorem put_ok {R : Type} {D : Res R} : ConOk D Try.prog 12 putC := by
  intro b
  refine prim_at (fn := Try.f12) (root := codeOf Try.f12) (by kernel_rfl) (by kernel_rfl) (by kernel_rfl) fun args hh x hx => ?_
  cases b with
  | true =>
    unfold putC Con.go putY at hx
    simp only at hx
    split at hx
    · rename_i n c a b r
      injection hx with hx
      subst hx
      refine ⟨by first | exact Nat.le_refl _ | exact Nat.le_add_left 1 1 | exact Nat.le_succ _, noLit rfl, (fun hw => by first | rfl | cases hw), fun hon hv => ?_⟩
      have hw : (inI ⟨a, b⟩ (unI r)) = true := by
        simp only [way, putC, putW] at hon
        simpa using hon
      clear hon
      generalize hG : Rx.Ends (R := R) _ _ = G
      obtain ⟨hr, rfl, hb⟩ := hv
      generalize unI r = l at *
      subst hr
      refine rx_ok (T := TPt) TPt_ok mixed 200 ?_
      refine as_text (q := let zz5 := Value.int IntKind.i64; let zz1 := (unI (iRx l 0 (List.length l))); let zz2 := (cut ([] ++ cut (List.map It.k l) 0 (List.length l)) 0 (0 + List.length l) ++ cut [a] 0 1); let zz3 := (cut ([] ++ cut (List.map It.i l) 0 (List.length l)) 0 (0 + List.length l) ++ cut [b] 0 1); let zz4 := (unI (Row.mk [zz5 0, zz5 0] (0 + List.length l + 1) [Col.mk (cut zz2 0 (0 + List.length l + 1)) [] [], Col.mk (cut zz3 0 (0 + List.length l + 1)) [] []])); Vc ((0 + List.length l ≤ List.length l ∧ True) ∧ iRx l 0 (List.length l) = iR zz1 ∧ List.length l = List.length zz1 ∧ List.length zz1 ≤ 100000) ∧ (decide (atI zz1 (It.mk a b) ≥ (0 : Int)) = true → Post (G (Value.slice (some (Addr.mk 0 0 (some 2000))) (List.length l) c) [some (Sum.inr (Sum.inl (24, iR l))), some (Sum.inl (24, [zz5 a, zz5 b])), some (Sum.inr (Sum.inl (24, Row.mk [zz5 0, zz5 0] 0 [Col.mk [] [] [], Col.mk [] [] []])))])) ∧ (decide (atI zz1 (It.mk a b) ≥ (0 : Int)) = false → Vc (0 ≤ 0 ∧ 0 + List.length l ≤ List.length l ∧ (0 + List.length l) * 16 ≤ 140737488355328 ∧ 0 + List.length l ≤ 140737488355328) ∧ Vc (0 + (0 + List.length l) ≤ 0 + List.length l ∧ 1 ≤ 1 ∧ (0 + List.length l + 1) * 16 ≤ 140737488355328 ∧ 0 + List.length l + 1 ≤ 140737488355328) ∧ Vc ((0 + (0 + List.length l + 1) ≤ 0 + List.length l + 1 ∧ True) ∧ Row.mk [zz5 0, zz5 0] (0 + List.length l + 1) [Col.mk (cut zz2 0 (0 + List.length l + 1)) [] [], Col.mk (cut zz3 0 (0 + List.length l + 1)) [] []] = iR zz4 ∧ 0 + List.length l + 1 = List.length zz4 ∧ List.length zz4 ≤ 100000) ∧ Post (G (Value.slice (some (Addr.mk 8 0 (some 2000))) (List.length (srt zz4)) 0) [some (Sum.inr (Sum.inl (24, iR l))), some (Sum.inl (24, [zz5 a, zz5 b])), some (Sum.inr (Sum.inl (24, Row.mk [zz5 0, zz5 0] 0 [Col.mk [] [] [], Col.mk [] [] []]))), none, none, some (Sum.inr (Sum.inl (24, Row.mk [zz5 0, zz5 0] 1 [Col.mk [a] [] [], Col.mk [b] [] []]))), some (Sum.inr (Sum.inl (24, Row.mk [zz5 0, zz5 0] (0 + List.length l + 1) [Col.mk zz2 [] [], Col.mk zz3 [] []]))), none, some (Sum.inr (Sum.inl (24, iR (srt zz4))))]))) ?_ (by kernel_rfl)
      intro zz5 zz1 zz2 zz3 zz4; subst zz4 zz3 zz2 zz1 zz5
      simp only [iR_cut', iRx_all, unI_iR, at_pos, at_neg, hw, Bool.not_true, Bool.not_false]
      refine ⟨⟨⟨by omega, trivial⟩, trivial, trivial, by omega⟩, fun _ => ⟨?_⟩, fun h => by cases h⟩
      subst hG
      exact ⟨[0], rfl, rfl, ⟨⟨_, rfl, .inl rfl⟩, trivial⟩, rfl, rfl, rfl, rfl⟩
    · cases hx
  | false =>
    unfold putC Con.go putN at hx
    simp only at hx
    split at hx
    · rename_i n c a b r
      injection hx with hx
      subst hx
      refine ⟨by first | exact Nat.le_refl _ | exact Nat.le_add_left 1 1 | exact Nat.le_succ _, noLit rfl, (fun hw => by first | rfl | cases hw), fun hon hv => ?_⟩
      have hw : (inI ⟨a, b⟩ (unI r)) = false := by
        simp only [way, putC, putW] at hon
        simpa using hon
      clear hon
      generalize hG : Rx.Ends (R := R) _ _ = G
      obtain ⟨hr, rfl, hb⟩ := hv
      generalize unI r = l at *
      subst hr
      refine rx_ok (T := TPt) TPt_ok mixed 200 ?_
      refine as_text (q := let zz5 := Value.int IntKind.i64; let zz1 := (unI (iRx l 0 (List.length l))); let zz2 := (cut ([] ++ cut (List.map It.k l) 0 (List.length l)) 0 (0 + List.length l) ++ cut [a] 0 1); let zz3 := (cut ([] ++ cut (List.map It.i l) 0 (List.length l)) 0 (0 + List.length l) ++ cut [b] 0 1); let zz4 := (unI (Row.mk [zz5 0, zz5 0] (0 + List.length l + 1) [Col.mk (cut zz2 0 (0 + List.length l + 1)) [] [], Col.mk (cut zz3 0 (0 + List.length l + 1)) [] []])); Vc ((0 + List.length l ≤ List.length l ∧ True) ∧ iRx l 0 (List.length l) = iR zz1 ∧ List.length l = List.length zz1 ∧ List.length zz1 ≤ 100000) ∧ (decide (atI zz1 (It.mk a b) ≥ (0 : Int)) = true → Post (G (Value.slice (some (Addr.mk 0 0 (some 2000))) (List.length l) c) [some (Sum.inr (Sum.inl (24, iR l))), some (Sum.inl (24, [zz5 a, zz5 b])), some (Sum.inr (Sum.inl (24, Row.mk [zz5 0, zz5 0] 0 [Col.mk [] [] [], Col.mk [] [] []])))])) ∧ (decide (atI zz1 (It.mk a b) ≥ (0 : Int)) = false → Vc (0 ≤ 0 ∧ 0 + List.length l ≤ List.length l ∧ (0 + List.length l) * 16 ≤ 140737488355328 ∧ 0 + List.length l ≤ 140737488355328) ∧ Vc (0 + (0 + List.length l) ≤ 0 + List.length l ∧ 1 ≤ 1 ∧ (0 + List.length l + 1) * 16 ≤ 140737488355328 ∧ 0 + List.length l + 1 ≤ 140737488355328) ∧ Vc ((0 + (0 + List.length l + 1) ≤ 0 + List.length l + 1 ∧ True) ∧ Row.mk [zz5 0, zz5 0] (0 + List.length l + 1) [Col.mk (cut zz2 0 (0 + List.length l + 1)) [] [], Col.mk (cut zz3 0 (0 + List.length l + 1)) [] []] = iR zz4 ∧ 0 + List.length l + 1 = List.length zz4 ∧ List.length zz4 ≤ 100000) ∧ Post (G (Value.slice (some (Addr.mk 8 0 (some 2000))) (List.length (srt zz4)) 0) [some (Sum.inr (Sum.inl (24, iR l))), some (Sum.inl (24, [zz5 a, zz5 b])), some (Sum.inr (Sum.inl (24, Row.mk [zz5 0, zz5 0] 0 [Col.mk [] [] [], Col.mk [] [] []]))), none, none, some (Sum.inr (Sum.inl (24, Row.mk [zz5 0, zz5 0] 1 [Col.mk [a] [] [], Col.mk [b] [] []]))), some (Sum.inr (Sum.inl (24, Row.mk [zz5 0, zz5 0] (0 + List.length l + 1) [Col.mk zz2 [] [], Col.mk zz3 [] []]))), none, some (Sum.inr (Sum.inl (24, iR (srt zz4))))]))) ?_ (by kernel_rfl)
      intro zz5 zz1 zz2 zz3 zz4; subst zz4 zz3 zz2 zz1 zz5
      simp only [iR_cut', iRx_all, unI_iR, at_pos, at_neg, hw, Bool.not_true, Bool.not_false]
      have K := ap1 (x := l.map It.k) a (List.length_map ..)
      have I := ap1 (x := l.map It.i) b (List.length_map ..)
      have K2 : l.map It.k ++ [a] = (l ++ [(⟨a, b⟩ : It)]).map It.k := by simp
      have I2 : l.map It.i ++ [b] = (l ++ [(⟨a, b⟩ : It)]).map It.i := by simp
      have n1 : 0 + l.length + 1 = (l ++ [(⟨a, b⟩ : It)]).length := by simp
      simp only [K, I]
      simp only [K2, I2, n1]
      rw [show (⟨[.int .i64 0, .int .i64 0], (l ++ [(⟨a, b⟩ : It)]).length, [⟨(l ++ [(⟨a, b⟩ : It)]).map It.k, [], []⟩, ⟨(l ++ [(⟨a, b⟩ : It)]).map It.i, [], []⟩]⟩ : Row) = iR (l ++ [⟨a, b⟩]) from rfl, unI_iR]
      have n2 : (l ++ [(⟨a, b⟩ : It)]).length = l.length + 1 := by simp
      refine ⟨⟨⟨by omega, trivial⟩, trivial, trivial, by omega⟩, fun h => (by cases h), fun _ => ⟨⟨by omega, by omega, by omega, by omega⟩, ⟨by omega, by omega, by omega, by omega⟩, ⟨⟨by omega, trivial⟩, rfl, rfl, by omega⟩, ⟨?_⟩⟩⟩
      subst hG
      exact ⟨[0, 8], rfl, rfl, ⟨⟨_, rfl, .inl rfl⟩, ⟨_, rfl, .inl rfl⟩, trivial⟩, rfl, rfl, rfl, rfl⟩
    · cases hx
def dropW {R : Type} (args : List Value) (hh : Hp R) : Option Bool := match args, hh with
  | [.slice (some ⟨0, 0, some 2000⟩) n c, .agg ⟨[.int .i64 a, .int .i64 b]⟩], [some (.inr (.inl (24, r)))] => some (inI ⟨a, b⟩ (unI r))
  | _, _ => none
def dropY {R : Type} : Prim R := fun args hh => match args, hh with
  | [.slice (some ⟨0, 0, some 2000⟩) n c, .agg ⟨[.int .i64 a, .int .i64 b]⟩], [some (.inr (.inl (24, r)))] => some ⟨r = iR (unI r) ∧ n = (unI r).length ∧ (unI r).length ≤ 1000, .slice (some ⟨1, 0, some 2000⟩) (dropI ⟨a, b⟩ (unI r)).length 0, none, [some (.inr (.inl (24, r))), oI (dropI ⟨a, b⟩ (unI r))], [], [(0, 0)]⟩
  | _, _ => none
def dropN {R : Type} : Prim R := fun args hh => match args, hh with
  | [.slice (some ⟨0, 0, some 2000⟩) n c, .agg ⟨[.int .i64 a, .int .i64 b]⟩], [some (.inr (.inl (24, r)))] => some ⟨r = iR (unI r) ∧ n = (unI r).length ∧ (unI r).length ≤ 1000, .slice (some ⟨0, 0, some 2000⟩) n c, none, hh, [], []⟩
  | _, _ => none
def dropC {R : Type} : Con R := ⟨dropW, dropY, dropN⟩
theorem drop_ok {R : Type} {D : Res R} : ConOk D Try.prog 10 dropC := by
  intro b
  refine prim_at (fn := Try.f10) (root := codeOf Try.f10) (by kernel_rfl) (by kernel_rfl) (by kernel_rfl) fun args hh x hx => ?_
  cases b with
  | true =>
    unfold dropC Con.go dropY at hx
    simp only at hx
    split at hx
    · rename_i n c a b r
      injection hx with hx
      subst hx
      refine ⟨by first | exact Nat.le_refl _ | exact Nat.le_add_left 1 1 | exact Nat.le_succ _, noLit rfl, (fun hw => by first | rfl | cases hw), fun hon hv => ?_⟩
      have hw : (inI ⟨a, b⟩ (unI r)) = true := by
        simp only [way, dropC, dropW] at hon
        simpa using hon
      clear hon
      generalize hG : Rx.Ends (R := R) _ _ = G
      obtain ⟨hr, rfl, hb⟩ := hv
      generalize unI r = l at *
      subst hr
      refine rx_ok (T := TPt) TPt_ok mixed 200 ?_
      refine as_text (q := let zz5 := Value.int IntKind.i64; let zz1 := (unI (iRx l 0 (List.length l))); let zz2 := (↑(List.length l) : Int); let zz3 := (atI zz1 (It.mk a b)); let zz4 := (atI zz1 (It.mk a b) + (1 : Int)); Vc ((0 + List.length l ≤ List.length l ∧ True) ∧ iRx l 0 (List.length l) = iR zz1 ∧ List.length l = List.length zz1 ∧ List.length zz1 ≤ 100000) ∧ (decide (atI zz1 (It.mk a b) < (0 : Int)) = true → Post (G (Value.slice (some (Addr.mk 0 0 (some 2000))) (List.length l) c) [some (Sum.inr (Sum.inl (24, iR l))), some (Sum.inl (24, [zz5 a, zz5 b])), some (Sum.inr (Sum.inl (24, Row.mk [zz5 0, zz5 0] 0 [Col.mk [] [] [], Col.mk [] [] []])))])) ∧ (decide (atI zz1 (It.mk a b) < (0 : Int)) = false → Vc ((0 : Int) ≤ atI zz1 (It.mk a b) ∧ atI zz1 (It.mk a b) ≤ zz2 ∧ 0 + List.length l ≤ List.length l) ∧ Vc (0 ≤ 0 ∧ 0 + Int.toNat zz3 ≤ List.length l ∧ (0 + Int.toNat zz3) * 16 ≤ 140737488355328 ∧ 0 + Int.toNat zz3 ≤ 140737488355328) ∧ Vc (fits zz4) ∧ Vc (0 = 0 ∧ (0 : Int) ≤ atI zz1 (It.mk a b) + (1 : Int) ∧ atI zz1 (It.mk a b) + (1 : Int) ≤ zz2 ∧ zz2 ≤ zz2 ∧ 0 + List.length l ≤ List.length l) ∧ Vc (0 + (0 + Int.toNat zz3) ≤ 0 + Int.toNat zz3 ∧ 0 + Int.toNat zz4 + Int.toNat (zz2 - zz4) ≤ List.length l ∧ (0 + Int.toNat zz3 + Int.toNat (zz2 - zz4)) * 16 ≤ 140737488355328 ∧ 0 + Int.toNat zz3 + Int.toNat (zz2 - zz4) ≤ 140737488355328) ∧ Post (G (Value.slice (some (Addr.mk 5 0 (some 2000))) (0 + Int.toNat zz3 + Int.toNat (zz2 - zz4)) 0) [some (Sum.inr (Sum.inl (24, iR l))), some (Sum.inl (24, [zz5 a, zz5 b])), some (Sum.inr (Sum.inl (24, Row.mk [zz5 0, zz5 0] 0 [Col.mk [] [] [], Col.mk [] [] []]))), none, none, some (Sum.inr (Sum.inl (24, Row.mk [zz5 0, zz5 0] (0 + Int.toNat zz3 + Int.toNat (zz2 - zz4)) [Col.mk (cut ([] ++ cut (List.map It.k l) 0 (Int.toNat zz3)) 0 (0 + Int.toNat zz3) ++ cut (List.map It.k l) (0 + Int.toNat zz4) (Int.toNat (zz2 - zz4))) [] [], Col.mk (cut ([] ++ cut (List.map It.i l) 0 (Int.toNat zz3)) 0 (0 + Int.toNat zz3) ++ cut (List.map It.i l) (0 + Int.toNat zz4) (Int.toNat (zz2 - zz4))) [] []])))]))) ?_ (by kernel_rfl)
      intro zz5 zz1 zz2 zz3 zz4; subst zz4 zz3 zz2 zz1 zz5
      simp only [iR_cut', iRx_all, unI_iR, at_pos, at_neg, hw, Bool.not_true, Bool.not_false]
      have hk : ixI ⟨a, b⟩ l < l.length := of_decide_eq_true hw
      have ha : atI l ⟨a, b⟩ = (ixI ⟨a, b⟩ l : Int) := by unfold atI; rw [if_pos hw]
      have hd : dropI ⟨a, b⟩ l = l.take (ixI ⟨a, b⟩ l) ++ l.drop (ixI ⟨a, b⟩ l + 1) := by unfold dropI; rw [if_pos hw]
      rw [hd] at hG
      simp only [ha, Int.toNat_natCast, Nat.zero_add]
      generalize ixI ⟨a, b⟩ l = k at *
      have K := drow (x := l.map It.k) (k := k) (List.length_map ..) hk
      have I := drow (x := l.map It.i) (k := k) (List.length_map ..) hk
      have n1 : k + ((l.length : Int) - ((k : Int) + 1)).toNat = (l.take k ++ l.drop (k + 1)).length := by simp; omega
      simp only [K, I, n1]
      have n2 : (l.take k ++ l.drop (k + 1)).length = l.length - 1 := by simp; omega
      refine ⟨⟨⟨by omega, trivial⟩, trivial, trivial, by omega⟩, fun h => (by cases h), fun _ => ⟨⟨by omega, by omega, by omega⟩, ⟨by omega, by omega, by omega, by omega⟩, ⟨⟨by omega, by omega⟩⟩, ⟨trivial, by omega, by omega, by omega, by omega⟩, ⟨by omega, by omega, by omega, by omega⟩, ⟨?_⟩⟩⟩
      subst hG
      exact ⟨[0, 5], rfl, rfl, ⟨⟨_, rfl, .inl rfl⟩, ⟨_, rfl, .inl (by simp only [← List.map_take, ← List.map_drop, ← List.map_append])⟩, trivial⟩, rfl, rfl, rfl, rfl⟩
    · cases hx
  | false =>
    unfold dropC Con.go dropN at hx
    simp only at hx
    split at hx
    · rename_i n c a b r
      injection hx with hx
      subst hx
      refine ⟨by first | exact Nat.le_refl _ | exact Nat.le_add_left 1 1 | exact Nat.le_succ _, noLit rfl, (fun hw => by first | rfl | cases hw), fun hon hv => ?_⟩
      have hw : (inI ⟨a, b⟩ (unI r)) = false := by
        simp only [way, dropC, dropW] at hon
        simpa using hon
      clear hon
      generalize hG : Rx.Ends (R := R) _ _ = G
      obtain ⟨hr, rfl, hb⟩ := hv
      generalize unI r = l at *
      subst hr
      refine rx_ok (T := TPt) TPt_ok mixed 200 ?_
      refine as_text (q := let zz5 := Value.int IntKind.i64; let zz1 := (unI (iRx l 0 (List.length l))); let zz2 := (↑(List.length l) : Int); let zz3 := (atI zz1 (It.mk a b)); let zz4 := (atI zz1 (It.mk a b) + (1 : Int)); Vc ((0 + List.length l ≤ List.length l ∧ True) ∧ iRx l 0 (List.length l) = iR zz1 ∧ List.length l = List.length zz1 ∧ List.length zz1 ≤ 100000) ∧ (decide (atI zz1 (It.mk a b) < (0 : Int)) = true → Post (G (Value.slice (some (Addr.mk 0 0 (some 2000))) (List.length l) c) [some (Sum.inr (Sum.inl (24, iR l))), some (Sum.inl (24, [zz5 a, zz5 b])), some (Sum.inr (Sum.inl (24, Row.mk [zz5 0, zz5 0] 0 [Col.mk [] [] [], Col.mk [] [] []])))])) ∧ (decide (atI zz1 (It.mk a b) < (0 : Int)) = false → Vc ((0 : Int) ≤ atI zz1 (It.mk a b) ∧ atI zz1 (It.mk a b) ≤ zz2 ∧ 0 + List.length l ≤ List.length l) ∧ Vc (0 ≤ 0 ∧ 0 + Int.toNat zz3 ≤ List.length l ∧ (0 + Int.toNat zz3) * 16 ≤ 140737488355328 ∧ 0 + Int.toNat zz3 ≤ 140737488355328) ∧ Vc (fits zz4) ∧ Vc (0 = 0 ∧ (0 : Int) ≤ atI zz1 (It.mk a b) + (1 : Int) ∧ atI zz1 (It.mk a b) + (1 : Int) ≤ zz2 ∧ zz2 ≤ zz2 ∧ 0 + List.length l ≤ List.length l) ∧ Vc (0 + (0 + Int.toNat zz3) ≤ 0 + Int.toNat zz3 ∧ 0 + Int.toNat zz4 + Int.toNat (zz2 - zz4) ≤ List.length l ∧ (0 + Int.toNat zz3 + Int.toNat (zz2 - zz4)) * 16 ≤ 140737488355328 ∧ 0 + Int.toNat zz3 + Int.toNat (zz2 - zz4) ≤ 140737488355328) ∧ Post (G (Value.slice (some (Addr.mk 5 0 (some 2000))) (0 + Int.toNat zz3 + Int.toNat (zz2 - zz4)) 0) [some (Sum.inr (Sum.inl (24, iR l))), some (Sum.inl (24, [zz5 a, zz5 b])), some (Sum.inr (Sum.inl (24, Row.mk [zz5 0, zz5 0] 0 [Col.mk [] [] [], Col.mk [] [] []]))), none, none, some (Sum.inr (Sum.inl (24, Row.mk [zz5 0, zz5 0] (0 + Int.toNat zz3 + Int.toNat (zz2 - zz4)) [Col.mk (cut ([] ++ cut (List.map It.k l) 0 (Int.toNat zz3)) 0 (0 + Int.toNat zz3) ++ cut (List.map It.k l) (0 + Int.toNat zz4) (Int.toNat (zz2 - zz4))) [] [], Col.mk (cut ([] ++ cut (List.map It.i l) 0 (Int.toNat zz3)) 0 (0 + Int.toNat zz3) ++ cut (List.map It.i l) (0 + Int.toNat zz4) (Int.toNat (zz2 - zz4))) [] []])))]))) ?_ (by kernel_rfl)
      intro zz5 zz1 zz2 zz3 zz4; subst zz4 zz3 zz2 zz1 zz5
      simp only [iR_cut', iRx_all, unI_iR, at_pos, at_neg, hw, Bool.not_true, Bool.not_false]
      refine ⟨⟨⟨by omega, trivial⟩, trivial, trivial, by omega⟩, fun _ => ⟨?_⟩, fun h => by cases h⟩
      subst hG
      exact ⟨[0], rfl, rfl, ⟨⟨_, rfl, .inl rfl⟩, trivial⟩, rfl, rfl, rfl, rfl⟩
    · cases hx
end Go.Proofs.Ytljdcboijegllaa.Sh
