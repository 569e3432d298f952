/- tag: what issuing, dropping, reviving and moving leave of a table. Nothing of the program. -/
import Derived.Test.YtobdpddamdkabaaDoorTgM
namespace Go.Proofs.YtobdpddamdkabaaDoor.Tg
set_option linter.unusedVariables false
section
variable {l : List Ls} {x y : Ls} {i : Nat}
theorem addL_perm (l : List Ls) (x : Ls) : (addL l x).Perm (x :: l) := by
  obtain ⟨a, b, e1, e2⟩ := add_parts l x
  rw [e2, e1]; exact List.perm_middle
theorem mem_addL : y ∈ addL l x ↔ y = x ∨ y ∈ l := by rw [(addL_perm l x).mem_iff, List.mem_cons]
theorem len_addL (l : List Ls) (x : Ls) : (addL l x).length = l.length + 1 := by rw [(addL_perm l x).length_eq]; rfl
theorem pw_addL {key : Ls → Int} (h : l.Pairwise (fun a b => key a ≠ key b)) (hx : ∀ y ∈ l, key y ≠ key x) : (addL l x).Pairwise (fun a b => key a ≠ key b) :=
  (List.Perm.pairwise_iff (fun {a b} hab => fun e => hab e.symm) (addL_perm l x)).2 (List.pairwise_cons.2 ⟨fun y hy e => hx y hy e.symm, h⟩)
theorem srt_addL (h : l.Pairwise (fun a b => a.tm < b.tm)) (hx : ∀ y ∈ l, y.tm ≠ x.tm) : (addL l x).Pairwise (fun a b => a.tm < b.tm) := by
  have e := List.takeWhile_append_dropWhile (p := fun y => decide (y.tm < x.tm)) (l := l)
  have h' := h
  rw [← e] at h'
  obtain ⟨h1, h2, h3⟩ := List.pairwise_append.1 h'
  have ha : ∀ y ∈ l.takeWhile (fun y => decide (y.tm < x.tm)), y.tm < x.tm := fun y hy => by
    have := List.all_eq_true.1 List.all_takeWhile y hy; simpa using this
  have hb : ∀ y ∈ l.dropWhile (fun y => decide (y.tm < x.tm)), x.tm < y.tm := by
    intro y hy
    cases hd : l.dropWhile (fun y => decide (y.tm < x.tm)) with
    | nil => rw [hd] at hy; cases hy
    | cons z r =>
      have hz : ¬ z.tm < x.tm := by
        have := List.head_dropWhile_not (p := fun y : Ls => decide (y.tm < x.tm)) (l := l) (by rw [hd]; simp)
        simp only [hd, List.head_cons, decide_eq_false_iff_not] at this
        exact this
      have hzl : z ∈ l := by rw [← e, hd]; simp
      have hz2 := hx z hzl
      rw [hd] at hy h2
      rcases List.mem_cons.1 hy with rfl | hyr
      · omega
      · have := (List.pairwise_cons.1 h2).1 y hyr; omega
  unfold addL
  refine List.pairwise_append.2 ⟨h1, List.pairwise_cons.2 ⟨hb, h2⟩, fun y hy z hz => ?_⟩
  rcases List.mem_cons.1 hz with rfl | hz
  · exact ha y hy
  · exact h3 y hy z hz
theorem slotB_iff {k : Int} : slotB l k = true ↔ ∃ y ∈ l, y.ix = k := by simp [slotB]
theorem slotB_no {k : Int} : slotB l k = false ↔ ∀ y ∈ l, y.ix ≠ k := by simp [slotB]
theorem idB_no {k : Int} : idB l k = false ↔ ∀ y ∈ l, y.id ≠ k := by simp [idB]
theorem tmB_no {k : Int} : tmB l k = false ↔ ∀ y ∈ l, y.tm ≠ k := by simp [tmB]
theorem slot_addL {k : Int} : slotB (addL l x) k = (decide (x.ix = k) || slotB l k) := by
  rw [Bool.eq_iff_iff, slotB_iff, Bool.or_eq_true, slotB_iff, decide_eq_true_eq]
  constructor
  · rintro ⟨y, hy, he⟩
    rcases mem_addL.1 hy with rfl | hy
    · exact .inl he
    · exact .inr ⟨y, hy, he⟩
  · rintro (he | ⟨y, hy, he⟩)
    · exact ⟨x, mem_addL.2 (.inl rfl), he⟩
    · exact ⟨y, mem_addL.2 (.inr hy), he⟩
theorem slot_erase {k : Int} (hi : l[i]? = some x) (hd : l.Pairwise (fun a b => a.ix ≠ b.ix)) : slotB (l.eraseIdx i) k = (slotB l k && !decide (x.ix = k)) := by
  obtain ⟨a, b, rfl, e2, _⟩ := erase_parts hi
  have hx := pw_mid (key := (·.ix)) hd
  rw [e2, Bool.eq_iff_iff, Bool.and_eq_true, slotB_iff, slotB_iff, Bool.not_eq_true', decide_eq_false_iff_not]
  constructor
  · rintro ⟨y, hy, he⟩
    refine ⟨⟨y, by rw [List.mem_append, List.mem_cons]; rcases List.mem_append.1 hy with h | h; exact .inl h; exact .inr (.inr h), he⟩, fun e => hx y hy (by rw [he, e])⟩
  · rintro ⟨⟨y, hy, he⟩, hne⟩
    rw [List.mem_append, List.mem_cons] at hy
    refine ⟨y, ?_, he⟩
    rw [List.mem_append]
    rcases hy with h | rfl | h
    · exact .inl h
    · exact absurd he hne
    · exact .inr h
theorem mem_erase (h : y ∈ l.eraseIdx i) : y ∈ l := (List.eraseIdx_sublist l i).mem h
end
def laG (m : Md) : List Int := if slotN m < m.la.length then m.la else m.la ++ [0]
def laN (m : Md) : List Int := (laG m).set (slotN m) ((laG m).getD (slotN m) 0 + 1)
def newX (m : Md) (tm : Int) (ins : Bool) (key : Int) : Ls := ⟨slotN m, (laN m).getD (slotN m) 0, tm, ins, if ins = true then key else 0, m.ser⟩
def newM (m : Md) (tm : Int) (ins : Bool) (key : Int) : Md := ⟨m.cap, m.ser + 1, laN m, addL m.l (newX m tm ins key)⟩
def newW (m : Md) (wo : List Int) (fr : Int) : List Int := if anyW wo fr.toNat = true then lessW wo (slotN m) else wo
section
variable {m : Md} {wo : List Int} {fr tm key : Int} {ins : Bool}
theorem laG_len (m : Md) : m.la.length ≤ (laG m).length ∧ (laG m).length ≤ m.la.length + 1 ∧ slotN m < (laG m).length := by
  have := slotN_le m
  unfold laG
  split
  · omega
  · rw [List.length_append]; simp; omega
theorem laG_get (m : Md) (k : Nat) : (laG m).getD k 0 = m.la.getD k 0 := by
  unfold laG
  split
  · rfl
  · rw [Rx.getD_append1]
    split
    · rename_i h
      rw [h, List.getD_eq_getElem?_getD, List.getElem?_eq_none (Nat.le_refl _)]; rfl
    · rfl
theorem laN_len (m : Md) : (laN m).length = (laG m).length := List.length_set
theorem laN_get (m : Md) (k : Nat) : (laN m).getD k 0 = if slotN m = k then m.la.getD k 0 + 1 else m.la.getD k 0 := by
  unfold laN
  rw [Rx.getD_set]
  by_cases h : slotN m = k
  · rw [if_pos ⟨h, (laG_len m).2.2⟩, if_pos h, laG_get, h]
  · rw [if_neg (fun e => h e.1), if_neg h, laG_get]
theorem slot_free (h : MOk m) : slotB m.l (slotN m : Nat) = false ∧ m.la.getD (slotN m) 0 < maxG := by
  obtain ⟨h1, h2, h3, h4⟩ := frS_is m.l m.la 0
  simp only [Nat.sub_zero, Nat.zero_add] at h4
  rcases Nat.lt_or_ge (slotN m) m.la.length with hlt | hge
  · exact h4 hlt
  · refine ⟨slotB_no.2 fun y hy e => ?_, ?_⟩
    · have := (h.each y hy).2.1; omega
    · rw [List.getD_eq_getElem?_getD, List.getElem?_eq_none hge]; decide
theorem MOk.new (h : MOk m) (hl : (m.l.length : Int) < m.cap) (ht : tmB m.l tm = false) (hf : Rx.fits tm) : MOk (newM m tm ins key) := by
  obtain ⟨f1, f2⟩ := slot_free h
  have hs := slotB_no.1 f1
  have h0 : 0 ≤ m.la.getD (slotN m) 0 := by
    rcases Nat.lt_or_ge (slotN m) m.la.length with hk | hk
    · exact (h.las _ (Rx.getD_mem hk)).1
    · rw [List.getD_eq_getElem?_getD, List.getElem?_eq_none hk]; exact Int.le_refl _
  refine ⟨h.cap0, h.cap1, by have := h.ser0; show 0 ≤ m.ser + 1; omega, by show ((addL _ _).length : Int) ≤ m.cap; rw [len_addL]; omega, srt_addL h.srt (tmB_no.1 ht), pw_addL h.ix hs, pw_addL h.id fun y hy e => ?_, fun y hy => ?_, fun g hg => ?_⟩
  · have := (h.each y hy).2.2.2.2.2.1
    have e' : y.id = m.ser := e
    omega
  · have hl1 : (m.la.length : Int) ≤ ((laN m).length : Nat) := by rw [laN_len]; have := (laG_len m).1; omega
    rcases mem_addL.1 hy with rfl | hy
    · have hl2 : ((slotN m : Nat) : Int) < ((laN m).length : Nat) := by rw [laN_len]; have := (laG_len m).2.2; omega
      refine ⟨Int.natCast_nonneg _, hl2, ?_, Int.le_refl _, h.ser0, by show m.ser < m.ser + 1; omega, hf⟩
      show 1 ≤ (laN m).getD (slotN m) 0
      rw [laN_get, if_pos rfl]; omega
    · obtain ⟨q1, q2, q3, q4, q5, q6, q7⟩ := h.each y hy
      refine ⟨q1, by show y.ix < ((laN m).length : Nat); omega, q3, ?_, q5, by show y.id < m.ser + 1; omega, q7⟩
      show y.gn ≤ (laN m).getD y.ix.toNat 0
      rw [laN_get]; split <;> omega
  · have hg' : g ∈ laN m := hg
    rcases List.mem_or_eq_of_mem_set hg' with hg | rfl
    · unfold laG at hg
      split at hg
      · exact h.las g hg
      · rcases List.mem_append.1 hg with hg | hg
        · exact h.las g hg
        · rw [List.mem_singleton.1 hg]; decide
    · rw [laG_get]; unfold maxG at *; omega
theorem WOk.new (h : MOk m) (hw : WOk m wo fr) (hq : m.la.length < 64) : WOk (newM m tm ins key) (newW m wo fr) (firstW wo fr.toNat : Nat) := by
  obtain ⟨f1, f2⟩ := slot_free h
  obtain ⟨n1, n2⟩ := next_is hw
  have hfl : firstW wo fr.toNat ≤ 1 := by
    have h1 := hw.len; have h2 := hw.fr1
    rcases Nat.lt_or_ge wo.length fr.toNat with hh | hh
    · rw [firstW_end (by omega)]; omega
    · have := firstW_le hh; omega
  have hbits : ∀ i : Nat, bitW (newW m wo fr) i = (bitW wo i && !decide (i = slotN m)) := fun i => by
    unfold newW
    cases ha : anyW wo fr.toNat
    · rw [if_neg (by simp), none_is hw.frz ha]; rfl
    · rw [if_pos rfl, less_bit hw.ok]
  refine ⟨?_, fun i => ?_, Int.natCast_nonneg _, by omega, fun j hj => ?_, ?_⟩
  · unfold newW; split
    · exact less_ok hw.ok _
    · exact hw.ok
  · rw [hbits, hw.bits]
    show _ = (decide (i < (laN m).length) && decide ((laN m).getD i 0 < maxG) && !slotB (addL m.l _) i)
    rw [slot_addL, laN_len, laN_get]
    show _ = (decide (i < (laG m).length) && decide ((if slotN m = i then m.la.getD i 0 + 1 else m.la.getD i 0) < maxG) && !(decide (((slotN m : Nat) : Int) = i) || slotB m.l i))
    by_cases hi : i = slotN m
    · subst hi; simp
    · have hi' : ¬ slotN m = i := fun e => hi e.symm
      have hi2 : ¬ ((slotN m : Nat) : Int) = i := by omega
      simp only [hi, hi', hi2, if_false, decide_false, Bool.not_false, Bool.and_true, Bool.false_or]
      congr 2
      have := slotN_le m
      obtain ⟨g1, g2, g3⟩ := laG_len m
      rw [Bool.eq_iff_iff, decide_eq_true_eq, decide_eq_true_eq]
      rcases Nat.lt_or_ge (slotN m) m.la.length with hlt | hge
      · have : (laG m).length = m.la.length := by unfold laG; rw [if_pos hlt]
        omega
      · omega
  · rw [Int.toNat_natCast] at hj
    have hz : wo.getD j 0 = 0 := by
      by_cases hlt : j < fr.toNat
      · exact hw.frz _ hlt
      · exact firstW_zero _ fr.toNat rfl _ (by omega) hj
    unfold newW
    split
    · unfold lessW
      split
      · rw [Rx.getD_set]
        split
        · rename_i ha hl hc
          have := n1 ha
          obtain ⟨s, e, e2, _⟩ := least_is hw.ok hw.frz ha
          rw [this.1] at e
          have : slotN m = s := by omega
          omega
        · exact hz
      · exact hz
    · exact hz
  · unfold newW; split
    · unfold lessW; split
      · rw [List.length_set]; exact hw.len
      · exact hw.len
    · exact hw.len
end
end Go.Proofs.YtobdpddamdkabaaDoor.Tg
