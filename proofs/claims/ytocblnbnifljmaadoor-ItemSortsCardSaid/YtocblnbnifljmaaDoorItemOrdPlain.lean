/- Sorted lists of items, the least and the greatest: plain facts. -/
import Derived.Test.YtocblnbnifljmaaDoorItemCmp
namespace Go.Proofs.YtocblnbnifljmaaDoor.Item
open Go.RowKit Go.Lib
set_option linter.unusedVariables false

abbrev It := Int × Int
/-- a isn't behind b -/
def leI (a b : It) : Prop := cmpI a b ≤ 0
theorem cmpI_facts (a b : It) : (cmpI a b = -1 ∧ cmpI b a = 1) ∨ (cmpI a b = 1 ∧ cmpI b a = -1) ∨ (cmpI a b = 0 ∧ cmpI b a = 0 ∧ a = b) := by
  rcases cmpI_cases a b with ⟨h, h2⟩ | ⟨h, h2⟩ | ⟨h, h2⟩ <;> rcases cmpI_cases b a with ⟨g, g2⟩ | ⟨g, g2⟩ | ⟨g, g2⟩
  all_goals first
    | (exfalso; omega)
    | (exfalso; subst g2; omega)
    | (exfalso; subst h2; omega)
    | (left; exact ⟨h, g⟩)
    | (right; left; exact ⟨h, g⟩)
    | (right; right; exact ⟨h, g, h2⟩)
theorem leI_trans {a b c : It} (h : leI a b) (k : leI b c) : leI a c := by
  unfold leI at *
  rcases cmpI_cases a b with ⟨h1, h2⟩ | ⟨h1, h2⟩ | ⟨h1, h2⟩ <;> rcases cmpI_cases b c with ⟨g, g2⟩ | ⟨g, g2⟩ | ⟨g, g2⟩ <;> rcases cmpI_cases a c with ⟨m, m2⟩ | ⟨m, m2⟩ | ⟨m, m2⟩
  all_goals first
    | omega
    | (subst h2; omega)
    | (subst g2; omega)
    | (subst m2; omega)
theorem leI_antisymm {a b : It} (h : leI a b) (k : leI b a) : a = b := by
  unfold leI at *
  rcases cmpI_facts a b with ⟨h1, h2⟩ | ⟨h1, h2⟩ | ⟨h1, h2, h3⟩
  · omega
  · omega
  · exact h3
theorem leI_total (a b : It) : leI a b ∨ leI b a := by
  unfold leI
  rcases cmpI_facts a b with ⟨h1, h2⟩ | ⟨h1, h2⟩ | ⟨h1, h2, h3⟩ <;> omega
theorem leI_refl (a : It) : leI a a := by
  rcases leI_total a a with h | h <;> exact h
theorem ahead_leI {a b : It} (h : aheadB a b = true) : leI a b := by
  have := (aheadB_iff a b).1 h; unfold leI; omega
theorem not_ahead_leI {a b : It} (h : aheadB a b = false) : leI b a := by
  rcases leI_total b a with k | k
  · exact k
  · have : ¬ cmpI a b < 0 := fun hc => by rw [(aheadB_iff a b).2 hc] at h; cases h
    unfold leI at *
    rcases cmpI_facts a b with ⟨h1, h2⟩ | ⟨h1, h2⟩ | ⟨h1, h2, h3⟩ <;> omega

/-- two sorted lists of the same items are one -/
theorem sorted_unique : ∀ (l m : List It), l.Perm m → l.Pairwise leI → m.Pairwise leI → l = m
  | [], m, hp, _, _ => (List.nil_perm.1 hp).symm
  | a :: l, [], hp, _, _ => by have := hp.length_eq; simp at this
  | a :: l, b :: m, hp, hl, hm => by
    have hab : a = b := by
      have ha : a ∈ b :: m := hp.mem_iff.1 (by simp)
      have hb : b ∈ a :: l := hp.mem_iff.2 (by simp)
      rcases List.mem_cons.1 ha with h | h
      · exact h
      · rcases List.mem_cons.1 hb with k | k
        · exact k.symm
        · exact leI_antisymm ((List.pairwise_cons.1 hl).1 b k) ((List.pairwise_cons.1 hm).1 a h)
    subst hab
    rw [sorted_unique l m (List.Perm.cons_inv hp) (List.pairwise_cons.1 hl).2 (List.pairwise_cons.1 hm).2]

/-- where the loop over k stops -/
def posTo (x : It) (l : List It) : Nat → Nat
  | 0 => 0
  | j + 1 => if aheadB x (l.getD j (0, 0)) = true then posTo x l j else j + 1
theorem posTo_le (x : It) (l : List It) (j : Nat) : posTo x l j ≤ j := by
  induction j with
  | zero => simp [posTo]
  | succ j ih => rw [posTo]; split <;> omega
theorem posTo_behind (x : It) (l : List It) : ∀ j t, posTo x l j ≤ t → t < j → aheadB x (l.getD t (0, 0)) = true := by
  intro j
  induction j with
  | zero => intro t _ h; omega
  | succ j ih =>
    intro t h1 h2
    rw [posTo] at h1
    split at h1
    · rename_i hc
      by_cases ht : t = j
      · subst ht; exact hc
      · exact ih t h1 (by omega)
    · omega
theorem posTo_front (x : It) (l : List It) : ∀ j, 0 < posTo x l j → aheadB x (l.getD (posTo x l j - 1) (0, 0)) = false := by
  intro j
  induction j with
  | zero => intro h; simp [posTo] at h
  | succ j ih =>
    intro h
    rw [posTo] at h ⊢
    by_cases hc : aheadB x (l.getD j (0, 0)) = true
    · rw [if_pos hc] at h ⊢; exact ih h
    · rw [if_neg hc]
      simpa using hc
def pos (x : It) (l : List It) : Nat := posTo x l l.length
def ins (x : It) (l : List It) : List It := l.take (pos x l) ++ x :: l.drop (pos x l)
theorem ins_length (x : It) (l : List It) : (ins x l).length = l.length + 1 := by
  unfold ins
  have := posTo_le x l l.length
  simp [pos]; omega
theorem ins_perm (x : It) (l : List It) : (ins x l).Perm (x :: l) := by
  unfold ins
  refine List.perm_middle.trans ?_
  rw [List.take_append_drop]
theorem getD_mem {l : List It} {i : Nat} (h : i < l.length) : l.getD i (0, 0) = l[i] := by
  rw [List.getD_eq_getElem?_getD, List.getElem?_eq_getElem h]; rfl
theorem ins_sorted (x : It) (l : List It) (h : l.Pairwise leI) : (ins x l).Pairwise leI := by
  unfold ins
  have hp := posTo_le x l l.length
  have h2 := h
  rw [← List.take_append_drop (pos x l) l] at h2
  obtain ⟨h3, h4, h5⟩ := List.pairwise_append.1 h2
  have hfront : ∀ a ∈ l.take (pos x l), leI a x := by
    intro a ha
    rcases Nat.eq_zero_or_pos (pos x l) with hz | hz
    · rw [hz] at ha; simp at ha
    · have hb := not_ahead_leI (posTo_front x l l.length hz)
      have hlt : posTo x l l.length - 1 < l.length := by unfold pos at hz; omega
      rw [getD_mem hlt] at hb
      obtain ⟨i, hi, rfl⟩ := List.mem_iff_getElem.1 ha
      simp only [List.length_take] at hi
      rw [List.getElem_take]
      rcases Nat.lt_or_ge i (posTo x l l.length - 1) with hlt2 | hge
      · exact leI_trans (List.pairwise_iff_getElem.1 h i (posTo x l l.length - 1) (by omega) hlt hlt2) hb
      · have : i = posTo x l l.length - 1 := by unfold pos at hi; omega
        subst this; exact hb
  have hback : ∀ b ∈ l.drop (pos x l), leI x b := by
    intro b hb
    obtain ⟨i, hi, rfl⟩ := List.mem_iff_getElem.1 hb
    simp only [List.length_drop] at hi
    rw [List.getElem_drop]
    have := ahead_leI (posTo_behind x l l.length (pos x l + i) (by unfold pos; omega) (by omega))
    rw [getD_mem (by omega)] at this
    exact this
  refine List.pairwise_append.2 ⟨h3, List.pairwise_cons.2 ⟨hback, h4⟩, ?_⟩
  intro a ha b hb
  rcases List.mem_cons.1 hb with rfl | hb
  · exact hfront a ha
  · exact leI_trans (hfront a ha) (hback b hb)

/-- the first k items, one by one -/
def insTo (l : List It) : Nat → List It
  | 0 => []
  | k + 1 => ins (l.getD k (0, 0)) (insTo l k)
theorem insTo_length (l : List It) (k : Nat) : (insTo l k).length = k := by
  induction k with
  | zero => rfl
  | succ k ih => rw [insTo, ins_length, ih]
theorem insTo_sorted (l : List It) (k : Nat) : (insTo l k).Pairwise leI := by
  induction k with
  | zero => exact List.Pairwise.nil
  | succ k ih => exact ins_sorted _ _ ih
theorem insTo_perm (l : List It) : ∀ k, k ≤ l.length → (insTo l k).Perm (l.take k) := by
  intro k
  induction k with
  | zero => intro _; simp [insTo]
  | succ k ih =>
    intro hk
    rw [insTo, List.take_succ_eq_append_getElem (by omega), getD_mem (by omega)]
    exact (ins_perm _ _).trans ((List.Perm.cons _ (ih (by omega))).trans (List.perm_append_comm (l₁ := [l[k]]) (l₂ := l.take k)))
def sortedL (l : List It) : List It := insTo l l.length
theorem sortedL_sorted (l : List It) : (sortedL l).Pairwise leI := insTo_sorted l _
theorem sortedL_perm (l : List It) : (sortedL l).Perm l := by
  have := insTo_perm l l.length (Nat.le_refl _)
  rw [List.take_length] at this
  exact this
theorem sortedL_length (l : List It) : (sortedL l).length = l.length := insTo_length l _

/-- the least and the greatest of the first k + 1 -/
def minTo (l : List It) : Nat → It
  | 0 => l.getD 0 (0, 0)
  | k + 1 => if cmpI (l.getD (k + 1) (0, 0)) (minTo l k) < 0 then l.getD (k + 1) (0, 0) else minTo l k
def maxTo (l : List It) : Nat → It
  | 0 => l.getD 0 (0, 0)
  | k + 1 => if 0 < cmpI (l.getD (k + 1) (0, 0)) (maxTo l k) then l.getD (k + 1) (0, 0) else maxTo l k
theorem minTo_least (l : List It) : ∀ k, k < l.length → minTo l k ∈ l ∧ ∀ i, i ≤ k → leI (minTo l k) (l.getD i (0, 0)) := by
  intro k
  induction k with
  | zero =>
    intro h
    rw [minTo]
    refine ⟨by rw [getD_mem h]; exact List.getElem_mem _, fun i hi => ?_⟩
    obtain rfl : i = 0 := by omega
    exact leI_refl _
  | succ k ih =>
    intro h
    obtain ⟨h1, h2⟩ := ih (by omega)
    rw [minTo]
    split
    · rename_i hc
      refine ⟨by rw [getD_mem h]; exact List.getElem_mem _, fun i hi => ?_⟩
      by_cases e : i = k + 1
      · subst e; exact leI_refl _
      · exact leI_trans (by unfold leI; omega) (h2 i (by omega))
    · rename_i hc
      refine ⟨h1, fun i hi => ?_⟩
      by_cases e : i = k + 1
      · subst e
        rcases leI_total (minTo l k) (l.getD (k + 1) (0, 0)) with g | g
        · exact g
        · unfold leI at *
          rcases cmpI_facts (l.getD (k + 1) (0, 0)) (minTo l k) with ⟨q1, q2⟩ | ⟨q1, q2⟩ | ⟨q1, q2, _⟩ <;> omega
      · exact h2 i (by omega)
theorem maxTo_greatest (l : List It) : ∀ k, k < l.length → maxTo l k ∈ l ∧ ∀ i, i ≤ k → leI (l.getD i (0, 0)) (maxTo l k) := by
  intro k
  induction k with
  | zero =>
    intro h
    rw [maxTo]
    refine ⟨by rw [getD_mem h]; exact List.getElem_mem _, fun i hi => ?_⟩
    obtain rfl : i = 0 := by omega
    exact leI_refl _
  | succ k ih =>
    intro h
    obtain ⟨h1, h2⟩ := ih (by omega)
    rw [maxTo]
    split
    · rename_i hc
      have hle : leI (maxTo l k) (l.getD (k + 1) (0, 0)) := by
        unfold leI
        rcases cmpI_facts (l.getD (k + 1) (0, 0)) (maxTo l k) with ⟨q1, q2⟩ | ⟨q1, q2⟩ | ⟨q1, q2, _⟩ <;> omega
      refine ⟨by rw [getD_mem h]; exact List.getElem_mem _, fun i hi => ?_⟩
      by_cases e : i = k + 1
      · subst e; exact leI_refl _
      · exact leI_trans (h2 i (by omega)) hle
    · rename_i hc
      refine ⟨h1, fun i hi => ?_⟩
      by_cases e : i = k + 1
      · subst e; unfold leI; omega
      · exact h2 i (by omega)
theorem sortedL_first (l : List It) (h : 0 < l.length) : minTo l (l.length - 1) = (sortedL l).getD 0 (0, 0) := by
  obtain ⟨h1, h2⟩ := minTo_least l (l.length - 1) (by omega)
  have hs := sortedL_sorted l
  have hp := sortedL_perm l
  have hl := sortedL_length l
  have h0 : 0 < (sortedL l).length := by omega
  rw [getD_mem h0]
  refine leI_antisymm ?_ ?_
  · have hm : (sortedL l)[0] ∈ l := hp.mem_iff.1 (List.getElem_mem _)
    obtain ⟨i, hi, e⟩ := List.mem_iff_getElem.1 hm
    have := h2 i (by omega)
    rw [getD_mem hi, e] at this
    exact this
  · have hm : minTo l (l.length - 1) ∈ sortedL l := hp.mem_iff.2 h1
    obtain ⟨i, hi, e⟩ := List.mem_iff_getElem.1 hm
    rw [← e]
    rcases Nat.eq_zero_or_pos i with rfl | hpos
    · exact leI_refl _
    · exact List.pairwise_iff_getElem.1 hs 0 i h0 hi hpos
theorem sortedL_last (l : List It) (h : 0 < l.length) : maxTo l (l.length - 1) = (sortedL l).getD (l.length - 1) (0, 0) := by
  obtain ⟨h1, h2⟩ := maxTo_greatest l (l.length - 1) (by omega)
  have hs := sortedL_sorted l
  have hp := sortedL_perm l
  have hl := sortedL_length l
  have h0 : l.length - 1 < (sortedL l).length := by omega
  rw [getD_mem h0]
  refine leI_antisymm ?_ ?_
  · have hm : maxTo l (l.length - 1) ∈ sortedL l := hp.mem_iff.2 h1
    obtain ⟨i, hi, e⟩ := List.mem_iff_getElem.1 hm
    rw [← e]
    rcases Nat.lt_or_ge i (l.length - 1) with hlt | hge
    · exact List.pairwise_iff_getElem.1 hs i (l.length - 1) hi h0 hlt
    · have : i = l.length - 1 := by omega
      subst this; exact leI_refl _
  · have hm : (sortedL l)[l.length - 1] ∈ l := hp.mem_iff.1 (List.getElem_mem _)
    obtain ⟨i, hi, e⟩ := List.mem_iff_getElem.1 hm
    have := h2 i (by omega)
    rw [getD_mem hi, e] at this
    exact this
/-- what the library's sort leaves -/
theorem mergeSort_eq (l : List It) (le : It → It → Bool) (h : ∀ a b, le a b = decide (cmpI a b ≤ 0)) : l.mergeSort le = sortedL l := by
  refine sorted_unique _ _ ((List.mergeSort_perm l le).trans (sortedL_perm l).symm) ?_ (sortedL_sorted l)
  have := List.pairwise_mergeSort (le := le) (fun a b c h1 h2 => by rw [h] at *; simp at *; exact leI_trans h1 h2) (fun a b => by rw [h, h]; simp; exact leI_total a b) l
  exact this.imp fun {a b} hab => by rw [h] at hab; exact (of_decide_eq_true hab : cmpI a b ≤ 0)
end Go.Proofs.YtocblnbnifljmaaDoor.Item
