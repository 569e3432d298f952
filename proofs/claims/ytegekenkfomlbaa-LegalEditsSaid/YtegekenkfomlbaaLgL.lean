/- legal: counts of lists of marks, and legal lists. -/
import Derived.Test.YtegekenkfomlbaaBrL
import Derived.Test.YtegekenkfomlbaaTmRef
namespace Go.Proofs.Ytegekenkfomlbaa.Lg
open Go.Proofs.Ytegekenkfomlbaa.Rx Go.Proofs.Ytegekenkfomlbaa.Wv Go.Proofs.Ytegekenkfomlbaa.Br
set_option linter.unusedVariables false
set_option linter.unusedSimpArgs false
/-- the count at a place -/
def cts (l : List Mk) (i : Nat) : Int := Ti.psum (l.map cnt) i
theorem cts_zero (l : List Mk) : cts l 0 = 0 := by simp [cts, Ti.psum]
theorem cts_succ {l : List Mk} {i : Nat} (h : i < l.length) : cts l (i + 1) = cts l i + cnt (l.getD i mz) := by
  unfold cts
  have e : (l.map cnt).getD i 0 = cnt (l.getD i mz) := by
    rw [List.getD_eq_getElem?_getD, List.getD_eq_getElem?_getD, List.getElem?_map, List.getElem?_eq_getElem h]; rfl
  rw [Ti.psum_succ (by simpa using h), e]
theorem cts_b' {l : List Mk} : ∀ {i : Nat}, i ≤ l.length → -(i : Int) ≤ cts l i ∧ cts l i ≤ i
  | 0, _ => by rw [cts_zero]; omega
  | i + 1, h => by
    have h1 := cts_b' (l := l) (i := i) (by omega)
    have h2 := cnt_b (l.getD i mz)
    rw [cts_succ (by omega)]
    omega
theorem cts_b {l : List Mk} (hl : l.length ≤ 60) {i : Nat} (h : i ≤ l.length) : -60 ≤ cts l i ∧ cts l i ≤ 60 := by
  have := cts_b' h; omega
theorem cts_app {p q : List Mk} (j : Nat) : cts (p ++ q) (p.length + j) = cts p p.length + cts q j := by
  unfold cts
  have h := Ti.psum_append (y := p.map cnt) (z := q.map cnt) j
  rw [List.length_map] at h
  rw [List.map_append]; exact h
theorem cts_left {p q : List Mk} {j : Nat} (h : j ≤ p.length) : cts (p ++ q) j = cts p j := by
  unfold cts
  rw [List.map_append]; exact Ti.psum_left (by simpa using h)
/-- every deletion finds something -/
def Leg (l : List Mk) : Prop := ∀ j, j ≤ l.length → 0 ≤ cts l j
def legN (l : List Mk) : Nat → Bool
  | 0 => true
  | k + 1 => legN l k && decide (0 ≤ cts l (k + 1))
def legB (l : List Mk) : Bool := legN l l.length
theorem legN_iff (l : List Mk) : ∀ k, legN l k = true ↔ ∀ j, j ≤ k → 0 ≤ cts l j
  | 0 => ⟨fun _ j h => by obtain rfl : j = 0 := by omega
                          rw [cts_zero]; exact Int.le_refl _, fun _ => rfl⟩
  | k + 1 => by
    rw [legN, Bool.and_eq_true, legN_iff l k, decide_eq_true_eq]
    constructor
    · rintro ⟨h1, h2⟩ j hj
      rcases Nat.lt_or_ge k j with c | c
      · obtain rfl : j = k + 1 := by omega
        exact h2
      · exact h1 j c
    · intro h
      exact ⟨fun j hj => h j (by omega), h _ (Nat.le_refl _)⟩
theorem legB_iff {l : List Mk} : legB l = true ↔ Leg l := legN_iff l _
theorem legB_no {l : List Mk} {j : Nat} (h : j ≤ l.length) (hc : cts l j < 0) : legB l = false := by
  cases e : legB l
  · rfl
  · have := legB_iff.1 e j h; omega
/-- the least count of some places -/
def lwN (l : List Mk) (f : Nat) : Nat → Int
  | 0 => cts l f
  | k + 1 => min (lwN l f k) (cts l (f + k))
def lowI (l : List Mk) (f u : Int) : Int := lwN l (clp l.length f) (clp l.length u + 1 - clp l.length f)
structure IsLow (l : List Mk) (f u : Nat) (v : Int) : Prop where
  some : ∃ p, v = cts l p ∧ (p = f ∨ (f ≤ p ∧ p ≤ u))
  own : v ≤ cts l f
  all : ∀ p, f ≤ p → p ≤ u → v ≤ cts l p
theorem isLow_eq {l : List Mk} {f u : Nat} {v w : Int} (h : IsLow l f u v) (h' : IsLow l f u w) : v = w := by
  have key : ∀ {v w : Int}, IsLow l f u v → IsLow l f u w → v ≤ w := fun {v w} h h' => by
    obtain ⟨p, h1, h2 | ⟨h2, h3⟩⟩ := h'.some
    · rw [h1, h2]; exact h.own
    · rw [h1]; exact h.all p h2 h3
  exact Int.le_antisymm (key h h') (key h' h)
theorem lwN_is (l : List Mk) (f : Nat) : ∀ k, (∃ p, lwN l f k = cts l p ∧ (p = f ∨ (f ≤ p ∧ p < f + k))) ∧ lwN l f k ≤ cts l f ∧ ∀ p, f ≤ p → p < f + k → lwN l f k ≤ cts l p
  | 0 => ⟨⟨f, rfl, .inl rfl⟩, Int.le_refl _, fun p h1 h2 => by omega⟩
  | k + 1 => by
    obtain ⟨⟨p, h1, h2⟩, h3, h4⟩ := lwN_is l f k
    rw [lwN]
    refine ⟨?_, by omega, fun q g1 g2 => ?_⟩
    · by_cases c : lwN l f k ≤ cts l (f + k)
      · exact ⟨p, by rw [← h1]; omega, by omega⟩
      · exact ⟨f + k, by omega, .inr ⟨by omega, by omega⟩⟩
    · rcases Nat.lt_or_ge q (f + k) with c | c
      · have := h4 q g1 c; omega
      · obtain rfl : q = f + k := by omega
        omega
theorem lowI_is (l : List Mk) (f u : Int) : IsLow l (clp l.length f) (clp l.length u) (lowI l f u) := by
  obtain ⟨⟨p, h1, h2⟩, h3, h4⟩ := lwN_is l (clp l.length f) (clp l.length u + 1 - clp l.length f)
  exact ⟨⟨p, h1, by omega⟩, h3, fun q g1 g2 => h4 q g1 (by omega)⟩
theorem lowI_b {l : List Mk} (hl : l.length ≤ 60) (f u : Int) : -60 ≤ lowI l f u ∧ lowI l f u ≤ 60 := by
  have hf := clp_le l.length f
  have hu := clp_le l.length u
  obtain ⟨p, h1, h2⟩ := (lowI_is l f u).some
  rw [h1]
  exact cts_b hl (by omega)
/-- .. out of what marks side by side come to -/
theorem low_eq {x : List Int} {k : Nat} (h : 0 < k) : (∃ j, j < k ∧ Ti.lowTo x k = Ti.psum x (j + 1)) ∧ ∀ j, j < k → Ti.lowTo x k ≤ Ti.psum x (j + 1) := by
  have h2 : ∀ j, j < k → Ti.lowTo x k ≤ Ti.psum x (j + 1) := fun j hj => (low_le h).2 ⟨j, hj, Int.le_refl _⟩
  obtain ⟨j, g1, g2⟩ := (low_le (x := x) (c := Ti.lowTo x k) h).1 (Int.le_refl _)
  exact ⟨⟨j, g1, Int.le_antisymm (h2 j g1) g2⟩, h2⟩
def lstT (a : Int) (t : Ti.Td) : Int := if t.n = 0 then a else min a (a + t.l)
theorem isLow_tide {l : List Mk} {f u : Nat} (hf : f ≤ l.length) (hu : u ≤ l.length) : IsLow l f u (lstT (cts l f) (S8 (Gv.sub l f u)).c) := by
  have hx : (Gv.sub l f u).length = u - f := by
    show ((l.drop f).take (u - f)).length = _
    rw [List.length_take, List.length_drop]; omega
  have hc : ∀ j, j ≤ u - f → cts l (f + j) = cts l f + cts (Gv.sub l f u) j := fun j hj => by
    have e : l = l.take f ++ (Gv.sub l f u ++ l.drop (f + (u - f))) := by
      show l = l.take f ++ ((l.drop f).take (u - f) ++ l.drop (f + (u - f)))
      rw [← List.drop_drop, List.take_append_drop, List.take_append_drop]
    have hl : (l.take f).length = f := by rw [List.length_take]; omega
    have h1 := cts_app (p := l.take f) (q := Gv.sub l f u ++ l.drop (f + (u - f))) j
    have h0 := cts_app (p := l.take f) (q := Gv.sub l f u ++ l.drop (f + (u - f))) 0
    rw [cts_left (p := Gv.sub l f u) (q := l.drop (f + (u - f))) (by omega)] at h1
    rw [cts_zero] at h0
    rw [← e, hl] at h1 h0
    rw [Nat.add_zero] at h0
    omega
  have hn : (S8 (Gv.sub l f u)).c.n = ((u - f : Nat) : Int) := by
    show (((Gv.sub l f u).map cnt).length : Int) = _
    rw [List.length_map, hx]
  have hl : (S8 (Gv.sub l f u)).c.l = Ti.lowTo ((Gv.sub l f u).map cnt) (u - f) := by
    show Ti.lowTo _ ((Gv.sub l f u).map cnt).length = _
    rw [List.length_map, hx]
  unfold lstT
  split
  · rename_i h
    refine ⟨⟨f, rfl, .inl rfl⟩, Int.le_refl _, fun p h1 h2 => ?_⟩
    obtain rfl : p = f := by omega
    exact Int.le_refl _
  · rename_i h
    have h0 : 0 < u - f := by omega
    obtain ⟨⟨j, g1, g2⟩, g3⟩ := low_eq (x := (Gv.sub l f u).map cnt) h0
    rw [hl]
    refine ⟨?_, by omega, fun p h1 h2 => ?_⟩
    · by_cases c : cts l f ≤ cts l f + Ti.lowTo ((Gv.sub l f u).map cnt) (u - f)
      · exact ⟨f, by omega, .inl rfl⟩
      · refine ⟨f + (j + 1), ?_, .inr ⟨by omega, by omega⟩⟩
        have := hc (j + 1) (by omega)
        have e : cts (Gv.sub l f u) (j + 1) = Ti.psum ((Gv.sub l f u).map cnt) (j + 1) := rfl
        omega
    · rcases Nat.eq_or_lt_of_le h1 with c | c
      · rw [← c]; omega
      · have k1 := hc (p - f) (by omega)
        have k2 := g3 (p - f - 1) (by omega)
        rw [show f + (p - f) = p by omega] at k1
        rw [show p - f - 1 + 1 = p - f by omega] at k2
        have e : cts (Gv.sub l f u) (p - f) = Ti.psum ((Gv.sub l f u).map cnt) (p - f) := rfl
        omega
theorem ahead_c (l : List Mk) (f : Nat) : (S8 (l.take f)).c.s = cts l f := by
  show Ti.psum ((l.take f).map cnt) ((l.take f).map cnt).length = Ti.psum (l.map cnt) f
  unfold Ti.psum
  rw [List.take_length, List.map_take]
/-- places behind one -/
theorem low_pos {l : List Mk} {r : Nat} (hr : r ≤ l.length) : 0 < lowI l r l.length ↔ ∀ p, r ≤ p → p ≤ l.length → 1 ≤ cts l p := by
  have h := lowI_is l r l.length
  rw [clp_nat hr, clp_nat (Nat.le_refl _)] at h
  constructor
  · intro h0 p h1 h2
    have := h.all p h1 h2
    omega
  · intro h0
    obtain ⟨p, h1, h2⟩ := h.some
    have := h0 p (by omega) (by omega)
    omega
theorem low_leg {l : List Mk} : 0 ≤ lowI l 0 l.length ↔ Leg l := by
  have h := lowI_is l 0 l.length
  rw [clp_nat (Nat.le_refl _), show clp l.length 0 = 0 from Nat.zero_min _] at h
  constructor
  · intro h0 p h1
    have := h.all p (Nat.zero_le _) h1
    omega
  · intro h0
    obtain ⟨p, h1, h2⟩ := h.some
    have := h0 p (by omega)
    omega
/-- a mark put in at a place, one left out -/
def insM (l : List Mk) (r : Nat) (x : Mk) : List Mk := l.take r ++ x :: l.drop r
def wth (l : List Mk) (x : Mk) : List Mk := insM l (rk8 x l) x
def wout (l : List Mk) (i : Nat) : List Mk := l.take i ++ l.drop (i + 1)
theorem ins_len {l : List Mk} {r : Nat} {x : Mk} (h : r ≤ l.length) : (insM l r x).length = l.length + 1 := by
  unfold insM
  rw [List.length_append, List.length_cons, List.length_take, List.length_drop]; omega
theorem wth_len (l : List Mk) (x : Mk) : (wth l x).length = l.length + 1 := ins_len (Gv.rkE_le _ _)
theorem wout_len {l : List Mk} {i : Nat} (h : i < l.length) : (wout l i).length = l.length - 1 := by
  unfold wout
  rw [List.length_append, List.length_take, List.length_drop]; omega
theorem cts_split {l : List Mk} {r : Nat} (h : r ≤ l.length) (j : Nat) : cts l (r + j) = cts (l.take r) r + cts (l.drop r) j := by
  have hl : (l.take r).length = r := by rw [List.length_take]; omega
  have h1 := cts_app (p := l.take r) (q := l.drop r) j
  rw [List.take_append_drop, hl] at h1
  exact h1
theorem cts_take {l : List Mk} {r j : Nat} (h : r ≤ l.length) (hj : j ≤ r) : cts (l.take r) j = cts l j := by
  have h1 := cts_left (p := l.take r) (q := l.drop r) (j := j) (by rw [List.length_take]; omega)
  rw [List.take_append_drop] at h1
  exact h1.symm
theorem cts_cons (x : Mk) (l : List Mk) (j : Nat) : cts (x :: l) (j + 1) = cnt x + cts l j := by
  unfold cts Ti.psum
  rw [List.map_cons, List.take_succ_cons, List.sum_cons]
theorem ins_lo {l : List Mk} {r j : Nat} {x : Mk} (h : r ≤ l.length) (hj : j ≤ r) : cts (insM l r x) j = cts l j := by
  unfold insM
  rw [cts_left (by rw [List.length_take]; omega), cts_take h hj]
theorem ins_hi {l : List Mk} {r j : Nat} {x : Mk} (h : r ≤ l.length) (hj : r ≤ j) : cts (insM l r x) (j + 1) = cts l j + cnt x := by
  have hl : (l.take r).length = r := by rw [List.length_take]; omega
  have h1 := cts_app (p := l.take r) (q := x :: l.drop r) (j - r + 1)
  rw [hl, cts_cons] at h1
  have h2 := cts_split h (j - r)
  rw [show r + (j - r) = j by omega] at h2
  rw [show r + (j - r + 1) = j + 1 by omega] at h1
  unfold insM
  omega
theorem wout_lo {l : List Mk} {i j : Nat} (h : i < l.length) (hj : j ≤ i) : cts (wout l i) j = cts l j := by
  unfold wout
  rw [cts_left (by rw [List.length_take]; omega), cts_take (by omega) hj]
theorem wout_hi {l : List Mk} {i j : Nat} (h : i < l.length) (hj : i ≤ j) : cts (wout l i) j = cts l (j + 1) - cnt (l.getD i mz) := by
  have e : l.drop i = l.getD i mz :: l.drop (i + 1) := by
    rw [List.drop_eq_getElem_cons h, List.getD_eq_getElem?_getD, List.getElem?_eq_getElem h]; rfl
  have hl : (l.take i).length = i := by rw [List.length_take]; omega
  have h1 := cts_app (p := l.take i) (q := l.drop (i + 1)) (j - i)
  rw [hl, show i + (j - i) = j by omega] at h1
  have h2 := cts_split (Nat.le_of_lt h) (j - i + 1)
  rw [e, cts_cons, show i + (j - i + 1) = j + 1 by omega] at h2
  unfold wout
  omega
theorem leg_ins {l : List Mk} {r : Nat} {x : Mk} (hl : Leg l) (hr : r ≤ l.length) : Leg (insM l r x) ↔ ∀ p, r ≤ p → p ≤ l.length → 0 ≤ cts l p + cnt x := by
  unfold Leg
  rw [ins_len hr]
  constructor
  · intro h p h1 h2
    have := h (p + 1) (by omega)
    rwa [ins_hi hr h1] at this
  · intro h j hj
    rcases Nat.lt_or_ge r j with c | c
    · obtain ⟨k, rfl⟩ : ∃ k, j = k + 1 := ⟨j - 1, by omega⟩
      rw [ins_hi hr (by omega)]
      exact h k (by omega) (by omega)
    · rw [ins_lo hr c]; exact hl j (by omega)
theorem leg_out {l : List Mk} {i : Nat} (hl : Leg l) (hi : i < l.length) : Leg (wout l i) ↔ ∀ p, i + 1 ≤ p → p ≤ l.length → 0 ≤ cts l p - cnt (l.getD i mz) := by
  unfold Leg
  rw [wout_len hi]
  constructor
  · intro h p h1 h2
    have := h (p - 1) (by omega)
    rwa [wout_hi hi (by omega), show p - 1 + 1 = p by omega] at this
  · intro h j hj
    rcases Nat.lt_or_ge j i with c | c
    · rw [wout_lo hi (by omega)]; exact hl j (by omega)
    · rw [wout_hi hi c]; exact h (j + 1) (by omega) (by omega)
/-- a time's mark -/
def key (t : Int) : Mk := ⟨t, false, ⟨0, 0⟩, false, false, ⟨0, 0⟩⟩
theorem cnt_key (t : Int) : cnt (key t) = -1 := rfl
theorem srt_lt {l : List Mk} (hs : Gv.SrtE O8 l) {i j : Nat} (hij : i < j) (hj : j < l.length) : (l.getD i mz).t < (l.getD j mz).t := by
  have h := (List.pairwise_iff_getElem.1 hs) i j (by omega) hj hij
  rw [List.getD_eq_getElem?_getD, List.getD_eq_getElem?_getD, List.getElem?_eq_getElem hj, List.getElem?_eq_getElem (show i < l.length by omega)]
  exact (cmp_neg _ _).1 h
theorem rk_uniq {x : Mk} {l : List Mk} {k : Nat} (hk : k ≤ l.length) (h1 : ∀ j, j < k → (l.getD j mz).t < x.t) (h2 : k < l.length → ¬ (l.getD k mz).t < x.t) : rk8 x l = k := by
  rcases Nat.lt_trichotomy (rk8 x l) k with c | c | c
  · exact absurd (h1 _ c) (rk8_ge (by omega))
  · exact c
  · have h3 : rk8 x l ≤ l.length := Gv.rkE_le _ _
    exact absurd (rk8_lt c) (h2 (by omega))
theorem rk_t {x y : Mk} (h : x.t = y.t) (l : List Mk) : rk8 x l = rk8 y l := rk_uniq (Gv.rkE_le _ _) (fun j hj => by rw [h]; exact rk8_lt hj) (fun hk => by rw [h]; exact rk8_ge hk)
theorem hit_t {x y : Mk} (h : x.t = y.t) (l : List Mk) : hit8 x l = hit8 y l := by unfold hit8; rw [rk_t h, h]
theorem rk_at {l : List Mk} (hs : Gv.SrtE O8 l) {i : Nat} (hi : i < l.length) {x : Mk} (hx : x.t = (l.getD i mz).t) : rk8 x l = i := rk_uniq (by omega) (fun j hj => by rw [hx]; exact srt_lt hs hj hi) (fun _ => by rw [hx]; exact Int.lt_irrefl _)
theorem hit_iff {l : List Mk} (hs : Gv.SrtE O8 l) {x : Mk} : hit8 x l = true ↔ ∃ i, i < l.length ∧ (l.getD i mz).t = x.t := by
  constructor
  · intro h
    unfold hit8 at h
    rw [Bool.and_eq_true, decide_eq_true_eq, decide_eq_true_eq] at h
    exact ⟨_, h.1, h.2⟩
  · rintro ⟨i, h1, h2⟩
    have hr := rk_at hs h1 h2.symm
    unfold hit8
    rw [hr, decide_eq_true h1, decide_eq_true h2]; rfl
/-- what may be added, and revoked -/
def mdB (l : List Mk) (t : Int) : Bool := !hit8 (key t) l && decide (0 < lowI l (rk8 (key t) l : Int) l.length)
def mrB (l : List Mk) (t : Int) : Bool := hit8 (key t) l && (!(l.getD (rk8 (key t) l) mz).ins || decide (0 < lowI l ((rk8 (key t) l + 1 : Nat) : Int) l.length))
theorem md_leg {l : List Mk} {t : Int} (hl : Leg l) (hh : hit8 (key t) l = false) : mdB l t = legB (wth l (key t)) := by
  have hr : rk8 (key t) l ≤ l.length := Gv.rkE_le _ _
  unfold mdB
  rw [hh, Bool.eq_iff_iff, legB_iff]
  show (true && decide _) = true ↔ _
  rw [Bool.true_and, decide_eq_true_eq, low_pos hr]
  unfold wth
  rw [leg_ins hl hr, cnt_key]
  exact ⟨fun h p h1 h2 => by have := h p h1 h2; omega, fun h p h1 h2 => by have := h p h1 h2; omega⟩
theorem md_hit {l : List Mk} {t : Int} (hh : hit8 (key t) l = true) : mdB l t = false := by unfold mdB; rw [hh]; rfl
theorem mr_no {l : List Mk} {t : Int} (hh : hit8 (key t) l = false) : mrB l t = false := by unfold mrB; rw [hh]; rfl
theorem mr_leg {l : List Mk} (hs : Gv.SrtE O8 l) (hl : Leg l) {i : Nat} (hi : i < l.length) : mrB l (l.getD i mz).t = legB (wout l i) := by
  have hr : rk8 (key (l.getD i mz).t) l = i := rk_at hs hi rfl
  have hh : hit8 (key (l.getD i mz).t) l = true := (hit_iff hs).2 ⟨i, hi, rfl⟩
  unfold mrB
  rw [hh, hr, Bool.true_and, Bool.eq_iff_iff, legB_iff, leg_out hl hi, Bool.or_eq_true, decide_eq_true_eq, low_pos (by omega)]
  cases hc : (l.getD i mz).ins
  · have e : cnt (l.getD i mz) = -1 := by unfold cnt; rw [hc]; rfl
    rw [e]
    exact ⟨fun _ p h1 h2 => by have := hl p h2; omega, fun _ => .inl rfl⟩
  · have e : cnt (l.getD i mz) = 1 := by unfold cnt; rw [hc]; rfl
    rw [e]
    exact ⟨fun h p h1 h2 => by
      rcases h with h | h
      · cases h
      · have := h p h1 h2; omega, fun h => .inr fun p h1 h2 => by have := h p h1 h2; omega⟩
/-- later ones -/
theorem rk_mono {l : List Mk} {x y : Mk} (h : x.t ≤ y.t) : rk8 x l ≤ rk8 y l := by
  rcases Nat.lt_or_ge (rk8 y l) (rk8 x l) with c | c
  · have h3 : rk8 x l ≤ l.length := Gv.rkE_le _ _
    have h1 := rk8_lt c
    exact absurd (show (l.getD (rk8 y l) mz).t < y.t by omega) (rk8_ge (by omega))
  · exact c
theorem md_later {l : List Mk} {t u : Int} (h : mdB l t = true) (htu : t ≤ u) (hu : hit8 (key u) l = false) : mdB l u = true := by
  have hr : rk8 (key t) l ≤ l.length := Gv.rkE_le _ _
  have hr' : rk8 (key u) l ≤ l.length := Gv.rkE_le _ _
  have hm := rk_mono (l := l) (x := key t) (y := key u) htu
  unfold mdB at *
  rw [Bool.and_eq_true, decide_eq_true_eq, low_pos hr] at h
  rw [hu, Bool.and_eq_true, decide_eq_true_eq, low_pos hr']
  exact ⟨rfl, fun p h1 h2 => h.2 p (by omega) h2⟩
theorem md_nohit {l : List Mk} {t : Int} (h : mdB l t = true) : hit8 (key t) l = false := by
  unfold mdB at h
  cases c : hit8 (key t) l
  · rfl
  · rw [c] at h; cases h
/-- an insertion more, ahead of them -/
theorem getD_ins {l : List Mk} {r : Nat} {x : Mk} (hr : r ≤ l.length) (j : Nat) : (insM l r x).getD j mz = if j < r then l.getD j mz else if j = r then x else l.getD (j - 1) mz := by
  have hl : (l.take r).length = r := by rw [List.length_take]; omega
  unfold insM
  rw [List.getD_eq_getElem?_getD]
  split
  · rename_i h
    rw [List.getElem?_append_left (by omega), List.getElem?_take_of_lt h, List.getD_eq_getElem?_getD]
  · rename_i h
    rw [List.getElem?_append_right (by omega), hl]
    split
    · rename_i h2; subst h2; simp
    · rename_i h2
      obtain ⟨k, hk⟩ : ∃ k, j - r = k + 1 := ⟨j - r - 1, by omega⟩
      rw [hk, List.getElem?_cons_succ, List.getElem?_drop, List.getD_eq_getElem?_getD, show r + k = j - 1 by omega]
theorem wth_srt {l : List Mk} {x : Mk} (hs : Gv.SrtE O8 l) (hh : hit8 x l = false) : Gv.SrtE O8 (wth l x) := by
  have h := Gv.put_srt laws8 (e := x) hs
  rw [put8, hh] at h
  exact h
theorem hit_wth {l : List Mk} {x y : Mk} (hs : Gv.SrtE O8 l) (hx : hit8 x l = false) (hy : hit8 y l = false) (hne : x.t ≠ y.t) : hit8 y (wth l x) = false := by
  have hr : rk8 x l ≤ l.length := Gv.rkE_le _ _
  cases c : hit8 y (wth l x)
  · rfl
  · obtain ⟨i, h1, h2⟩ := (hit_iff (wth_srt hs hx)).1 c
    rw [wth_len] at h1
    have no : ∀ k, k < l.length → (l.getD k mz).t ≠ y.t := fun k hk e => by
      have := (hit_iff hs).2 ⟨k, hk, e⟩
      rw [hy] at this; cases this
    unfold wth at h2
    rw [getD_ins hr] at h2
    split at h2
    · exact absurd h2 (no i (by omega))
    · split at h2
      · exact absurd h2 hne
      · exact absurd h2 (no (i - 1) (by omega))
theorem rk_wth {l : List Mk} {x y : Mk} (h : x.t < y.t) : rk8 y (wth l x) = rk8 y l + 1 := by
  have hr : rk8 x l ≤ l.length := Gv.rkE_le _ _
  have hy : rk8 y l ≤ l.length := Gv.rkE_le _ _
  have hm := rk_mono (l := l) (x := x) (y := y) (by omega)
  refine rk_uniq (by rw [wth_len]; omega) (fun j hj => ?_) (fun hk => ?_)
  · unfold wth
    rw [getD_ins hr]
    split
    · exact rk8_lt (by omega)
    · split
      · exact h
      · exact rk8_lt (by omega)
  · unfold wth
    rw [wth_len] at hk
    rw [getD_ins hr, if_neg (by omega), if_neg (by omega)]
    exact rk8_ge (by omega)
theorem leg_more {l : List Mk} {x : Mk} (hl : Leg l) (hx : x.ins = true) : Leg (wth l x) := by
  have hr : rk8 x l ≤ l.length := Gv.rkE_le _ _
  have e : cnt x = 1 := by unfold cnt; rw [hx]; rfl
  unfold wth
  rw [leg_ins hl hr, e]
  exact fun p _ h => by have := hl p h; omega
theorem md_more {l : List Mk} {x : Mk} {t : Int} (hs : Gv.SrtE O8 l) (hl : Leg l) (hx : x.ins = true) (hh : hit8 x l = false) (ht : x.t < t) (hd : hit8 (key t) l = false) : (∀ p, rk8 (key t) l ≤ p → p ≤ l.length → 0 ≤ cts l p) → mdB (wth l x) t = true := by
  intro h0
  have hr : rk8 x l ≤ l.length := Gv.rkE_le _ _
  have hy : rk8 (key t) l ≤ l.length := Gv.rkE_le _ _
  have hm := rk_mono (l := l) (x := x) (y := key t) (Int.le_of_lt ht)
  have e : cnt x = 1 := by unfold cnt; rw [hx]; rfl
  have hk : rk8 (key t) (wth l x) = rk8 (key t) l + 1 := rk_wth ht
  unfold mdB
  rw [hit_wth hs hh hd (by show x.t ≠ t; omega), hk, Bool.and_eq_true, decide_eq_true_eq, low_pos (by rw [wth_len]; omega), wth_len]
  refine ⟨rfl, fun p h1 h2 => ?_⟩
  obtain ⟨q, rfl⟩ : ∃ q, p = q + 1 := ⟨p - 1, by omega⟩
  unfold wth
  rw [ins_hi hr (by omega), e]
  have := h0 q (by omega) (by omega)
  omega
/-- the place of a time -/
def atI (l : List Mk) (t : Int) : Int := if l.findIdx (fun m => m.t == t) < l.length then (l.findIdx (fun m => m.t == t) : Int) else -1
theorem at_neg {l : List Mk} (hs : Gv.SrtE O8 l) (t : Int) : atI l t < 0 ↔ hit8 (key t) l = false := by
  unfold atI
  constructor
  · intro h
    have hlt : ¬ l.findIdx (fun m => m.t == t) < l.length := fun c => by rw [if_pos c] at h; omega
    cases c : hit8 (key t) l
    · rfl
    · obtain ⟨i, h1, h2⟩ := (hit_iff hs).1 c
      have h3 : ((l[i]'h1).t == t) = false := List.not_of_lt_findIdx (p := fun m : Mk => m.t == t) (xs := l) (i := i) (by omega)
      rw [List.getD_eq_getElem?_getD, List.getElem?_eq_getElem h1] at h2
      rw [show ((l[i]'h1).t == t) = true from beq_iff_eq.2 h2] at h3
      cases h3
  · intro h
    split
    · rename_i c
      have h3 : ((l[l.findIdx (fun m => m.t == t)]'c).t == t) = true := List.findIdx_getElem (p := fun m : Mk => m.t == t) (xs := l) (w := c)
      have := (hit_iff hs (x := key t)).2 ⟨_, c, by rw [List.getD_eq_getElem?_getD, List.getElem?_eq_getElem c]; exact eq_of_beq h3⟩
      rw [h] at this; cases this
    · omega
/-- the longest legal list that begins so -/
def ofN (l : List Mk) : Nat → List Mk
  | 0 => []
  | i + 1 => if atI (ofN l i) (l.getD i mz).t < 0 ∧ legB (wth (ofN l i) (l.getD i mz)) = true then wth (ofN l i) (l.getD i mz) else ofN l i
abbrev ofL (l : List Mk) : List Mk := ofN l l.length
theorem ofN_ok (l : List Mk) : ∀ i, (ofN l i).length ≤ i ∧ Gv.SrtE O8 (ofN l i) ∧ Leg (ofN l i)
  | 0 => ⟨Nat.le_refl _, List.Pairwise.nil, fun j h => by obtain rfl : j = 0 := by simpa [ofN] using h
                                                          rw [cts_zero]; exact Int.le_refl _⟩
  | i + 1 => by
    obtain ⟨h1, h2, h3⟩ := ofN_ok l i
    rw [ofN]
    split
    · rename_i c
      have hh : hit8 (l.getD i mz) (ofN l i) = false := (at_neg h2 _).1 c.1 ▸ hit_t rfl _
      exact ⟨by rw [wth_len]; omega, wth_srt h2 hh, legB_iff.1 c.2⟩
    · exact ⟨by omega, h2, h3⟩
/-- sorted marks, put in one behind the other -/
theorem tmd_srt {m : List Mk} (hs : Gv.SrtE O8 m) : ∀ i, i ≤ m.length → tmd m i = m.take i
  | 0, _ => rfl
  | i + 1, h => by
    have ih := tmd_srt hs i (by omega)
    have hl : (m.take i).length = i := by rw [List.length_take]; omega
    have hr : rk8 (m.getD i mz) (m.take i) = i := rk_uniq (by omega) (fun j hj => by
      have e : (m.take i).getD j mz = m.getD j mz := by rw [List.getD_eq_getElem?_getD, List.getD_eq_getElem?_getD, List.getElem?_take_of_lt hj]
      rw [e]; exact srt_lt hs hj (by omega)) (fun c => by omega)
    have hh : hit8 (m.getD i mz) (m.take i) = false := by unfold hit8; rw [hr, decide_eq_false (by omega)]; rfl
    show Gv.putE O8 (m.getD i mz) (tmd m i) = _
    rw [ih, put8, hh, hr]
    simp only [Bool.false_eq_true, if_false]
    rw [List.take_of_length_le (by omega), List.drop_eq_nil_of_le (by omega), List.take_succ_eq_append_getElem (by omega : i < m.length), List.getD_eq_getElem?_getD, List.getElem?_eq_getElem (by omega : i < m.length)]
    rfl
theorem tmL_srt {m : List Mk} (hs : Gv.SrtE O8 m) : tmL m = m := by
  show tmd m m.length = m
  rw [tmd_srt hs _ (Nat.le_refl _), List.take_length]
end Go.Proofs.Ytegekenkfomlbaa.Lg
