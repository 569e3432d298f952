/- tag: which tables can be, and how they are made. Nothing of the program. -/
import Derived.Test.YtobdpddamdkabaaDoorTgTT
import Derived.Test.YtobdpddamdkabaaDoorTgRf
namespace Go.Proofs.YtobdpddamdkabaaDoor.Tg
open Go.Proofs.YtobdpddamdkabaaDoor.Rx
set_option linter.unusedVariables false
set_option linter.unusedSimpArgs false
structure LsOk (x : Ls) : Prop where
  ix : fits x.ix
  tm : fits x.tm
  id : fits x.id
def allI (n : Nat) (p : Nat → Bool) : Bool := (List.range n).all p
theorem allI_iff {n : Nat} {p : Nat → Bool} : allI n p = true ↔ ∀ i, i < n → p i = true := by simp [allI]
theorem allI_no {n : Nat} {p : Nat → Bool} {i : Nat} (hi : i < n) (h : p i = false) : allI n p = false := by
  cases e : allI n p with
  | false => rfl
  | true => have := allI_iff.1 e i hi; rw [h] at this; cases this
def gOk (g : Int) : Bool := decide (0 ≤ g) && decide (g ≤ maxG)
def endB (la : List Int) : Bool := decide (0 < la.length) && decide (la.getD (la.length - 1) 0 = 0)
def lasB (la : List Int) : Bool := !endB la && allI la.length (fun i => gOk (la.getD i 0))
def srtB (l : List Ls) : Bool := allI l.length (fun i => decide (i = 0) || decide ((l.getD (i - 1) ls0).tm ≤ (l.getD i ls0).tm))
def upM (m : Md) (i : Nat) : Md := ⟨m.cap, m.ser, m.la, m.l.take i⟩
def goodB (m : Md) (i : Nat) : Bool := (decide (i = 0) || decide ((m.l.getD (i - 1) ls0).tm < (m.l.getD i ls0).tm)) && haveM (upM m i) (m.l.getD i ls0).ix (m.l.getD i ls0).gn && beM (upM m i) (m.l.getD i ls0)
def capB (m : Md) : Bool := decide (0 ≤ m.cap) && decide (m.cap ≤ 65536) && decide (0 ≤ m.ser)
def rightB (m : Md) : Bool := capB m && decide ((m.l.length : Int) ≤ m.cap) && lasB m.la && allI m.l.length (goodB m)
def refB (m : Md) : Bool := allI m.l.length (fun i => decide (revE (upM m i) (m.l.getD i ls0) = 0))
def headB (m : Md) : Bool := capB m && lasB m.la && srtB m.l
theorem take_succ {l : List Ls} {i : Nat} (h : i < l.length) : l.take (i + 1) = l.take i ++ [l.getD i ls0] := by
  rw [List.take_add_one, List.getD_eq_getElem?_getD, List.getElem?_eq_getElem h]; rfl
theorem revE_0 {m : Md} {x : Ls} : revE m x = 0 ↔ (m.l.length : Int) < m.cap ∧ tmB m.l x.tm = false ∧ haveM m x.ix x.gn = true ∧ beM m x = true := by
  unfold revE
  constructor
  · intro h
    split at h
    · rename_i h0
      split at h
      · split at h
        · rename_i h1 h2
          exact ⟨(errE_0.1 h0).1, (errE_0.1 h0).2, h1, h2⟩
        · omega
      · omega
    · rename_i h0; exact absurd h h0
  · rintro ⟨h1, h2, h3, h4⟩
    rw [if_pos (errE_0.2 ⟨h1, h2⟩), if_pos h3, if_pos h4]
/-- all ahead are earlier -/
theorem ahead_lt {l : List Ls} : ∀ {i : Nat}, i < l.length → (∀ j, j ≤ i → j = 0 ∨ (l.getD (j - 1) ls0).tm < (l.getD j ls0).tm) → ∀ y ∈ l.take i, y.tm < (l.getD i ls0).tm
  | 0, _, _ => fun y hy => by simp at hy
  | i + 1, hi, h => fun y hy => by
    rw [take_succ (by omega)] at hy
    have h1 := (h (i + 1) (Nat.le_refl _)).resolve_left (by omega)
    rw [Nat.add_sub_cancel] at h1
    rcases List.mem_append.1 hy with hy | hy
    · have := ahead_lt (i := i) (by omega) (fun j hj => h j (by omega)) y hy
      omega
    · rw [List.mem_singleton.1 hy]; exact h1
theorem ahead_mem {l : List Ls} {i : Nat} (hi : i < l.length) (h0 : 0 < i) : l.getD (i - 1) ls0 ∈ l.take i := by
  have e := take_succ (l := l) (i := i - 1) (by omega)
  rw [Nat.sub_add_cancel h0] at e
  rw [e]; simp
theorem right_is (m : Md) : rightB m = (headB m && refB m) := by
  rw [Bool.eq_iff_iff]
  unfold rightB headB refB lasB srtB
  simp only [Bool.and_eq_true, allI_iff, decide_eq_true_eq, Bool.or_eq_true]
  constructor
  · rintro ⟨⟨⟨hc, hl⟩, hla⟩, hg⟩
    have hs : ∀ i, i < m.l.length → i = 0 ∨ (m.l.getD (i - 1) ls0).tm < (m.l.getD i ls0).tm := fun i hi => by
      have := hg i hi
      unfold goodB at this
      simp only [Bool.and_eq_true, Bool.or_eq_true, decide_eq_true_eq] at this
      exact this.1.1
    refine ⟨⟨⟨hc, hla⟩, fun i hi => (hs i hi).imp id fun h => by omega⟩, fun i hi => ?_⟩
    have hgi := hg i hi
    unfold goodB at hgi
    simp only [Bool.and_eq_true] at hgi
    refine revE_0.2 ⟨?_, ?_, hgi.1.2, hgi.2⟩
    · show ((m.l.take i).length : Int) < m.cap
      rw [List.length_take]; omega
    · refine Bool.eq_false_iff.2 fun h => ?_
      have h' : (m.l.take i).any (fun x => x.tm == (m.l.getD i ls0).tm) = true := h
      obtain ⟨y, hy, e⟩ := List.any_eq_true.1 h'
      have := ahead_lt hi (fun j hj => hs j (by omega)) y hy
      have e' : y.tm = (m.l.getD i ls0).tm := by simpa using e
      omega
  · rintro ⟨⟨⟨hc, hla⟩, hs⟩, hr⟩
    have hr' := fun i hi => revE_0.1 (hr i hi)
    refine ⟨⟨⟨hc, ?_⟩, hla⟩, fun i hi => ?_⟩
    · rcases Nat.eq_zero_or_pos m.l.length with h0 | h0
      · rw [h0]; unfold capB at hc; simp only [Bool.and_eq_true, decide_eq_true_eq] at hc; omega
      · have := (hr' (m.l.length - 1) (by omega)).1
        have e : ((m.l.take (m.l.length - 1)).length : Int) < m.cap := this
        rw [List.length_take] at e; omega
    · obtain ⟨h1, h2, h3, h4⟩ := hr' i hi
      unfold goodB
      simp only [Bool.and_eq_true, Bool.or_eq_true, decide_eq_true_eq]
      refine ⟨⟨?_, h3⟩, h4⟩
      rcases Nat.eq_zero_or_pos i with h0 | h0
      · exact .inl h0
      · right
        have h5 := (hs i hi).resolve_left (by omega)
        have h6 : (m.l.take i).any (fun x => x.tm == (m.l.getD i ls0).tm) = false := h2
        have h7 := List.any_eq_false.1 h6 _ (ahead_mem hi h0)
        have h8 : ¬ (m.l.getD (i - 1) ls0).tm = (m.l.getD i ls0).tm := by simpa using h7
        omega
/-- the words of slots that were never used, or are free -/
def frW (la : List Int) : Nat → List Int
  | 0 => []
  | j + 1 => if la.getD j 0 < maxG then withW (frW la j) j else frW la j
theorem frW_ok (la : List Int) : ∀ j, okW (frW la j)
  | 0 => fun x hx => by cases hx
  | j + 1 => by
    unfold frW
    split
    · exact with_ok (frW_ok la j) _
    · exact frW_ok la j
theorem frW_bit (la : List Int) (i : Nat) : ∀ j, bitW (frW la j) i = (decide (i < j) && decide (la.getD i 0 < maxG))
  | 0 => by simp [frW, bitW]
  | j + 1 => by
    unfold frW
    by_cases hi : i = j
    · subst hi
      split
      · rename_i h; rw [with_bit (frW_ok la _), decide_eq_true h]; simp
      · rename_i h; rw [frW_bit, decide_eq_false h]; simp
    · have e : decide (i < j + 1) = decide (i < j) := by rw [Bool.eq_iff_iff]; simp only [decide_eq_true_eq]; omega
      rw [e]
      split
      · rw [with_bit (frW_ok la _), frW_bit]; simp [hi]
      · rw [frW_bit]
theorem frW_len (la : List Int) : ∀ j, j ≤ 64 → (frW la j).length ≤ 1
  | 0, _ => Nat.zero_le _
  | j + 1, h => by
    unfold frW
    have h1 := frW_len la j (by omega)
    split
    · unfold withW growW
      have : j / 64 = 0 := by omega
      rw [List.length_set, List.length_append, List.length_replicate]; omega
    · exact h1
/-- a table without operations -/
def BaseOk (m : Md) : Prop := capB m = true ∧ lasB m.la = true ∧ m.la.length ≤ 64
theorem las_all {la : List Int} (h : lasB la = true) : ∀ g ∈ la, 0 ≤ g ∧ g ≤ maxG := fun g hg => by
  unfold lasB at h
  simp only [Bool.and_eq_true, allI_iff] at h
  obtain ⟨i, hi, rfl⟩ := List.mem_iff_getElem.1 hg
  have := h.2 i hi
  unfold gOk at this
  rw [List.getD_eq_getElem?_getD, List.getElem?_eq_getElem hi] at this
  simpa using this
theorem base_m (m : Md) (h : BaseOk m) : MOk (upM m 0) := by
  have hc := h.1
  unfold capB at hc
  simp only [Bool.and_eq_true, decide_eq_true_eq] at hc
  exact ⟨hc.1.1, hc.1.2, hc.2, hc.1.1, List.Pairwise.nil, List.Pairwise.nil, List.Pairwise.nil, (fun x hx => by cases hx), las_all h.2.1⟩
theorem base_w (m : Md) (h : BaseOk m) : WOk (upM m 0) (frW m.la m.la.length) 0 :=
  ⟨frW_ok _ _, fun i => by
    rw [frW_bit]
    show _ = (decide (i < m.la.length) && decide (m.la.getD i 0 < maxG) && !false)
    simp, Int.le_refl _, by decide, fun j hj => by simp at hj, frW_len _ _ h.2.2⟩
def baseT (m : Md) (h : BaseOk m) : TT := ⟨upM m 0, frW m.la m.la.length, 0, base_m m h, base_w m h, h.2.2⟩
/-- that table with the first operations of a list -/
def upT (m : Md) (h : BaseOk m) : Nat → TT
  | 0 => baseT m h
  | i + 1 => (upT m h i).revive (m.l.getD i ls0)
theorem tw_all {p : Ls → Bool} : ∀ {l : List Ls}, (∀ y ∈ l, p y = true) → l.takeWhile p = l ∧ l.dropWhile p = []
  | [], _ => ⟨rfl, rfl⟩
  | y :: r, h => by
    have h1 := h y (List.mem_cons_self ..)
    obtain ⟨e1, e2⟩ := tw_all (l := r) fun z hz => h z (List.mem_cons_of_mem _ hz)
    rw [List.takeWhile_cons, List.dropWhile_cons, if_pos h1, if_pos h1, e1, e2]; exact ⟨rfl, rfl⟩
theorem addL_end {l : List Ls} {x : Ls} (h : ∀ y ∈ l, y.tm < x.tm) : addL l x = l ++ [x] := by
  obtain ⟨e1, e2⟩ := tw_all (l := l) (p := fun y => decide (y.tm < x.tm)) fun y hy => decide_eq_true (h y hy)
  unfold addL
  rw [e1, e2]
theorem upT_m (m : Md) (h : BaseOk m) (hs : srtB m.l = true) (hf : ∀ y ∈ m.l, fits y.tm) : ∀ i, i ≤ m.l.length → (∀ j, j < i → revE (upM m j) (m.l.getD j ls0) = 0) → (upT m h i).m = upM m i
  | 0, _, _ => rfl
  | i + 1, hi, hr => by
    have ih := upT_m m h hs hf i (by omega) fun j hj => hr j (by omega)
    show ((upT m h i).revive _).m = _
    rw [revive_m _ (hf _ (Rx.getD_mem (by omega))), ih]
    unfold revM
    rw [if_pos (hr i (by omega))]
    have h1 : ∀ y ∈ m.l.take i, y.tm < (m.l.getD i ls0).tm := by
      refine ahead_lt (by omega) fun j hj => ?_
      rcases Nat.eq_zero_or_pos j with h0 | h0
      · exact .inl h0
      · right
        have h5 := (allI_iff.1 hs) j (by omega)
        simp only [Bool.or_eq_true, decide_eq_true_eq] at h5
        have h5 := h5.resolve_left (by omega)
        have h6 : (m.l.take j).any (fun x => x.tm == (m.l.getD j ls0).tm) = false := (revE_0.1 (hr j (by omega))).2.1
        have h7 := List.any_eq_false.1 h6 _ (ahead_mem (by omega) h0)
        have h8 : ¬ (m.l.getD (j - 1) ls0).tm = (m.l.getD j ls0).tm := by simpa using h7
        omega
    show (⟨m.cap, m.ser, m.la, addL (m.l.take i) (m.l.getD i ls0)⟩ : Md) = ⟨m.cap, m.ser, m.la, m.l.take (i + 1)⟩
    rw [addL_end h1, take_succ (by omega)]
end Go.Proofs.YtobdpddamdkabaaDoor.Tg
