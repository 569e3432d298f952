/- bridge: heights and bridges of lists of marks, items beside a place. -/
import Derived.Test.YtegekenkfomlbaaWvSw
import Derived.Test.YtegekenkfomlbaaGvRk
import Derived.Test.YtegekenkfomlbaaGvVis
namespace Go.Proofs.Ytegekenkfomlbaa.Br
open Go.Proofs.Ytegekenkfomlbaa.Rx Go.Proofs.Ytegekenkfomlbaa.Wv
set_option linter.unusedVariables false
set_option linter.unusedSimpArgs false
/-- a place that is there -/
def clp (n : Nat) (p : Int) : Nat := min p.toNat n
theorem clp_le (n : Nat) (p : Int) : clp n p ≤ n := Nat.min_le_right _ _
theorem clp_nat {n i : Nat} (h : i ≤ n) : clp n (i : Int) = i := by unfold clp; omega
/-- the height at a place -/
def hgh (l : List Mk) (base : Int) (i : Nat) : Int := base + Ti.psum (l.map wgt) i
theorem hgh_zero (l : List Mk) (base : Int) : hgh l base 0 = base := by simp [hgh, Ti.psum]
theorem hgh_succ {l : List Mk} {base : Int} {i : Nat} (h : i < l.length) : hgh l base (i + 1) = hgh l base i + wgt (l.getD i mz) := by
  unfold hgh
  have e : (l.map wgt).getD i 0 = wgt (l.getD i mz) := by
    rw [List.getD_eq_getElem?_getD, List.getD_eq_getElem?_getD, List.getElem?_map, List.getElem?_eq_getElem h]; rfl
  rw [Ti.psum_succ (by simpa using h), e]
  omega
theorem hgh_b {l : List Mk} {base : Int} (hl : l.length ≤ 60) {i : Nat} (h : i ≤ l.length) : base - 60 ≤ hgh l base i ∧ hgh l base i ≤ base + 60 := by
  have : ∀ i, i ≤ l.length → base - i ≤ hgh l base i ∧ hgh l base i ≤ base + i := by
    intro i
    induction i with
    | zero => intro _; rw [hgh_zero]; omega
    | succ i ih =>
      intro h
      have h1 := ih (by omega)
      have h2 := wgt_b (l.getD i mz)
      rw [hgh_succ (by omega)]
      omega
  have := this i h
  omega
/-- the least bridge from a place on, in so many steps -/
def nxt (l : List Mk) (base : Int) : Nat → Nat → Int
  | _, 0 => -1
  | i, j + 1 => if hgh l base i ≤ 0 then i else nxt l base (i + 1) j
/-- the greatest bridge up to a place -/
def prv (l : List Mk) (base : Int) : Nat → Int
  | 0 => if hgh l base 0 ≤ 0 then 0 else -1
  | i + 1 => if hgh l base (i + 1) ≤ 0 then ((i + 1 : Nat) : Int) else prv l base i
def nxI (l : List Mk) (p base : Int) : Int := nxt l base (clp l.length p) (l.length + 1 - clp l.length p)
def prI (l : List Mk) (p base : Int) : Int := prv l base (clp l.length p)
def hgI (l : List Mk) (p base : Int) : Int := hgh l base (clp l.length p)
/-- the first bridge of some places -/
def IsN (l : List Mk) (base : Int) (a b : Nat) (r : Int) : Prop := (r = -1 ∧ ∀ i, a ≤ i → i ≤ b → ¬ hgh l base i ≤ 0) ∨ ∃ j : Nat, r = j ∧ a ≤ j ∧ j ≤ b ∧ hgh l base j ≤ 0 ∧ ∀ i, a ≤ i → i < j → ¬ hgh l base i ≤ 0
def IsP (l : List Mk) (base : Int) (b : Nat) (r : Int) : Prop := (r = -1 ∧ ∀ i, i ≤ b → ¬ hgh l base i ≤ 0) ∨ ∃ j : Nat, r = j ∧ j ≤ b ∧ hgh l base j ≤ 0 ∧ ∀ i, j < i → i ≤ b → ¬ hgh l base i ≤ 0
theorem isN_eq {l : List Mk} {base : Int} {a b : Nat} {r r' : Int} (h : IsN l base a b r) (h' : IsN l base a b r') : r = r' := by
  rcases h with ⟨rfl, h⟩ | ⟨j, rfl, h1, h2, h3, h4⟩ <;> rcases h' with ⟨rfl, h'⟩ | ⟨j', rfl, h1', h2', h3', h4'⟩
  · rfl
  · exact absurd h3' (h j' h1' h2')
  · exact absurd h3 (h' j h1 h2)
  · rcases Nat.lt_trichotomy j j' with c | c | c
    · exact absurd h3 (h4' j h1 c)
    · rw [c]
    · exact absurd h3' (h4 j' h1' c)
theorem isP_eq {l : List Mk} {base : Int} {b : Nat} {r r' : Int} (h : IsP l base b r) (h' : IsP l base b r') : r = r' := by
  rcases h with ⟨rfl, h⟩ | ⟨j, rfl, h1, h3, h4⟩ <;> rcases h' with ⟨rfl, h'⟩ | ⟨j', rfl, h1', h3', h4'⟩
  · rfl
  · exact absurd h3' (h j' h1')
  · exact absurd h3 (h' j h1)
  · rcases Nat.lt_trichotomy j j' with c | c | c
    · exact absurd h3' (h4 j' c h1')
    · rw [c]
    · exact absurd h3 (h4' j c h1)
theorem nxt_is (l : List Mk) (base : Int) : ∀ (j i : Nat), IsN l base i (i + j) (nxt l base i (j + 1))
  | 0, i => by
    rw [nxt]
    split
    · exact .inr ⟨i, rfl, Nat.le_refl _, by omega, by assumption, fun k h1 h2 => by omega⟩
    · refine .inl ⟨rfl, fun k h1 h2 => ?_⟩
      obtain rfl : k = i := by omega
      assumption
  | j + 1, i => by
    rw [nxt]
    split
    · exact .inr ⟨i, rfl, Nat.le_refl _, by omega, by assumption, fun k h1 h2 => by omega⟩
    · rename_i h0
      rcases nxt_is l base j (i + 1) with ⟨h1, h2⟩ | ⟨k, h1, h2, h3, h4, h5⟩
      · refine .inl ⟨h1, fun k g1 g2 => ?_⟩
        rcases Nat.lt_or_ge i k with c | c
        · exact h2 k c (by omega)
        · obtain rfl : k = i := by omega
          exact h0
      · refine .inr ⟨k, h1, by omega, by omega, h4, fun m g1 g2 => ?_⟩
        rcases Nat.lt_or_ge i m with c | c
        · exact h5 m c g2
        · obtain rfl : m = i := by omega
          exact h0
theorem prv_is (l : List Mk) (base : Int) : ∀ b, IsP l base b (prv l base b)
  | 0 => by
    rw [prv]
    split
    · exact .inr ⟨0, rfl, Nat.le_refl _, by assumption, fun k h1 h2 => by omega⟩
    · refine .inl ⟨rfl, fun k h1 => ?_⟩
      obtain rfl : k = 0 := by omega
      assumption
  | b + 1 => by
    rw [prv]
    split
    · exact .inr ⟨b + 1, rfl, Nat.le_refl _, by assumption, fun k h1 h2 => by omega⟩
    · rename_i h0
      rcases prv_is l base b with ⟨h1, h2⟩ | ⟨k, h1, h2, h3, h4⟩
      · refine .inl ⟨h1, fun k g1 => ?_⟩
        rcases Nat.lt_or_ge b k with c | c
        · obtain rfl : k = b + 1 := by omega
          exact h0
        · exact h2 k c
      · refine .inr ⟨k, h1, by omega, h3, fun m g1 g2 => ?_⟩
        rcases Nat.lt_or_ge b m with c | c
        · obtain rfl : m = b + 1 := by omega
          exact h0
        · exact h4 m g1 c
theorem nxI_is (l : List Mk) (p base : Int) : IsN l base (clp l.length p) l.length (nxI l p base) := by
  have h := nxt_is l base (l.length - clp l.length p) (clp l.length p)
  have hc := clp_le l.length p
  rw [show clp l.length p + (l.length - clp l.length p) = l.length by omega, show l.length - clp l.length p + 1 = l.length + 1 - clp l.length p by omega] at h
  exact h
theorem prI_is (l : List Mk) (p base : Int) : IsP l base (clp l.length p) (prI l p base) := prv_is _ _ _
/-- the greatest item that isn't here, from a place on; the least one that is here, ahead of it -/
def bstI (l : List Mk) (p : Int) : Option It := hi (itms false (l.drop (clp l.length p)))
def lstI (l : List Mk) (p : Int) : Option It := lo (itms true (l.take (clp l.length p)))
/-- in the order of their times, the last one of each time -/
def tmd (l : List Mk) : Nat → List Mk
  | 0 => []
  | i + 1 => Gv.putE O8 (l.getD i mz) (tmd l i)
abbrev tmL (l : List Mk) : List Mk := tmd l l.length
theorem tmd_len (l : List Mk) : ∀ i, (tmd l i).length ≤ i
  | 0 => Nat.le_refl _
  | i + 1 => by
    have h := tmd_len l i
    show (Gv.putE O8 (l.getD i mz) (tmd l i)).length ≤ i + 1
    rw [Gv.put_len]; split <;> omega
/-- low: some sum of the first ones -/
theorem low_le {x : List Int} {c : Int} : ∀ {k : Nat}, 0 < k → (Ti.lowTo x k ≤ c ↔ ∃ j, j < k ∧ Ti.psum x (j + 1) ≤ c)
  | 0, h => by omega
  | 1, _ => by
    refine ⟨fun h => ⟨0, by omega, h⟩, fun ⟨j, h1, h2⟩ => ?_⟩
    obtain rfl : j = 0 := by omega
    exact h2
  | k + 2, _ => by
    have ih := low_le (x := x) (c := c) (k := k + 1) (by omega)
    show min (Ti.lowTo x (k + 1)) (Ti.psum x (k + 2)) ≤ c ↔ _
    constructor
    · intro h
      by_cases c1 : Ti.lowTo x (k + 1) ≤ c
      · obtain ⟨j, h1, h2⟩ := ih.1 c1
        exact ⟨j, by omega, h2⟩
      · refine ⟨k + 1, by omega, ?_⟩
        rw [show k + 1 + 1 = k + 2 from rfl]; omega
    · rintro ⟨j, h1, h2⟩
      by_cases c1 : j < k + 1
      · have := ih.2 ⟨j, c1, h2⟩; omega
      · obtain rfl : j = k + 1 := by omega
        rw [show k + 1 + 1 = k + 2 from rfl] at h2
        omega
/-- heights of a list and of what stands behind its first ones -/
theorem hgh_at {p l q : List Mk} {base : Int} {j : Nat} (h : j ≤ l.length) : hgh (p ++ (l ++ q)) base (p.length + j) = hgh (p ++ (l ++ q)) base p.length + Ti.psum (l.map wgt) j := by
  unfold hgh
  rw [List.map_append, show p.length = (p.map wgt).length by simp, Ti.psum_append, show (p.map wgt).length = (p.map wgt).length + 0 by rfl, Ti.psum_append, List.map_append, Ti.psum_left (y := l.map wgt) (by simpa using h)]
  simp only [Nat.add_zero]
  have : Ti.psum (l.map wgt ++ q.map wgt) 0 = 0 := by simp [Ti.psum]
  omega
theorem hgh_pre {p q : List Mk} {base : Int} : hgh (p ++ q) base p.length = base + (S8 p).w.s := by
  show base + _ = base + Ti.psum (p.map wgt) (p.map wgt).length
  rw [List.map_append, Ti.psum_left (by simp), List.length_map]
/-- what tells of bridges behind marks side by side -/
theorem asks_low {L : List Mk} {base : Int} {may : Sw → Sw → Bool} (h : ∀ p l q, p ++ (l ++ q) = L → l ≠ [] → (may (S8 p) (S8 l) = true ↔ base + (S8 p).w.s + (S8 l).w.l ≤ 0)) :
    Gv.AsksX O8 S8 may (fun i => decide (hgh L base (i + 1) ≤ 0)) L := by
  have key : ∀ p l q, p ++ (l ++ q) = L → l ≠ [] → (may (S8 p) (S8 l) = true ↔ ∃ j, j < l.length ∧ hgh L base (p.length + j + 1) ≤ 0) := fun p l q hL hl => by
    rw [h p l q hL hl]
    have hp := hgh_pre (p := p) (q := l ++ q) (base := base)
    have e : (S8 l).w.l = Ti.lowTo (l.map wgt) l.length := by show Ti.lowTo _ (l.map wgt).length = _; rw [List.length_map]
    have hlow := low_le (x := l.map wgt) (c := -(base + (S8 p).w.s)) (k := l.length) (List.length_pos_iff.2 hl)
    rw [← e] at hlow
    have e1 : base + (S8 p).w.s + (S8 l).w.l ≤ 0 ↔ (S8 l).w.l ≤ -(base + (S8 p).w.s) := by omega
    rw [e1, hlow]
    constructor
    · rintro ⟨j, h1, h2⟩
      refine ⟨j, h1, ?_⟩
      rw [← hL, show p.length + j + 1 = p.length + (j + 1) by omega, hgh_at (by omega), hp]
      omega
    · rintro ⟨j, h1, h2⟩
      refine ⟨j, h1, ?_⟩
      rw [← hL, show p.length + j + 1 = p.length + (j + 1) by omega, hgh_at (by omega), hp] at h2
      omega
  refine ⟨⟨fun p x q hL => ?_, fun p l q hL i h1 h2 h3 => ?_⟩, fun p l q hL hl hm => ?_⟩
  · have k := key p [x] q (by simpa using hL) (by simp)
    rw [show O8.sum x = S8 [x] from (S8_one x).symm, Bool.eq_iff_iff, k, decide_eq_true_eq]
    constructor
    · intro h; exact ⟨0, by simp, h⟩
    · rintro ⟨j, h1, h2⟩
      obtain rfl : j = 0 := by simpa using h1
      exact h2
  · have hl : l ≠ [] := fun h => by rw [h] at h2; simp at h2; omega
    rw [key p l q hL hl]
    exact ⟨i - p.length, by omega, by rw [show p.length + (i - p.length) + 1 = i + 1 by omega]; exact of_decide_eq_true h3⟩
  · obtain ⟨j, h1, h2⟩ := (key p l q hL hl).1 hm
    exact ⟨p.length + j, by omega, by omega, decide_eq_true h2⟩
/-- the next bridge, out of the first place -/
theorem isN_first {L : List Mk} {base : Int} {a : Nat} {r : Int} (ha : a ≤ L.length) (h0 : ¬ hgh L base a ≤ 0) (h : Gv.FirstIs (fun i => decide (hgh L base (i + 1) ≤ 0)) 0 L.length a r) : IsN L base a L.length (if r < 0 then -1 else r + 1) := by
  rcases h with ⟨h1, h2⟩ | ⟨j, h1, h2, h3, h4, h5, h6⟩
  · rw [if_pos (by omega)]
    refine .inl ⟨rfl, fun i g1 g2 => ?_⟩
    rcases Nat.eq_or_lt_of_le g1 with c | c
    · rw [← c]; exact h0
    · have := of_decide_eq_false (h2 (i - 1) (by omega) (by omega) (by omega))
      rwa [show i - 1 + 1 = i by omega] at this
  · rw [if_neg (by omega)]
    refine .inr ⟨j + 1, by omega, by omega, by omega, of_decide_eq_true h5, fun i g1 g2 => ?_⟩
    rcases Nat.eq_or_lt_of_le g1 with c | c
    · rw [← c]; exact h0
    · have := of_decide_eq_false (h6 (i - 1) (by omega) (by omega) (by omega))
      rwa [show i - 1 + 1 = i by omega] at this
/-- .. asked from the mark right ahead of it on -/
theorem isN_first' {L : List Mk} {base : Int} {a : Nat} {r : Int} (ha : a ≤ L.length) (h0 : a = 0 → ¬ base ≤ 0) (h : Gv.FirstIs (fun i => decide (hgh L base (i + 1) ≤ 0)) 0 L.length ((a : Int) - 1) r) : IsN L base a L.length (if r < 0 then -1 else r + 1) := by
  rcases h with ⟨h1, h2⟩ | ⟨j, h1, h2, h3, h4, h5, h6⟩
  · rw [if_pos (by omega)]
    refine .inl ⟨rfl, fun i g1 g2 => ?_⟩
    rcases Nat.eq_zero_or_pos i with c | c
    · rw [c, hgh_zero]; exact h0 (by omega)
    · have := of_decide_eq_false (h2 (i - 1) (by omega) (by omega) (by omega))
      rwa [show i - 1 + 1 = i by omega] at this
  · rw [if_neg (by omega)]
    refine .inr ⟨j + 1, by omega, by omega, by omega, of_decide_eq_true h5, fun i g1 g2 => ?_⟩
    rcases Nat.eq_zero_or_pos i with c | c
    · rw [c, hgh_zero]; exact h0 (by omega)
    · have := of_decide_eq_false (h6 (i - 1) (by omega) (by omega) (by omega))
      rwa [show i - 1 + 1 = i by omega] at this
/-- the one before, out of the last place -/
theorem isP_last {L : List Mk} {base : Int} {b : Nat} {r : Int} (hb : b ≤ L.length) (h : Gv.LastIs (fun i => decide (hgh L base (i + 1) ≤ 0)) 0 L.length b r) : IsP L base b (if r ≥ 0 then r + 1 else if base ≤ 0 then 0 else -1) := by
  rcases h with ⟨h1, h2⟩ | ⟨j, h1, h2, h3, h4, h5, h6⟩
  · rw [if_neg (by omega)]
    have hno : ∀ i, 0 < i → i ≤ b → ¬ hgh L base i ≤ 0 := fun i g1 g2 => by
      have := of_decide_eq_false (h2 (i - 1) (by omega) (by omega) (by omega))
      rwa [show i - 1 + 1 = i by omega] at this
    by_cases c : base ≤ 0
    · rw [if_pos c]
      exact .inr ⟨0, rfl, Nat.zero_le _, by rw [hgh_zero]; exact c, fun i g1 g2 => hno i g1 g2⟩
    · rw [if_neg c]
      refine .inl ⟨rfl, fun i g2 => ?_⟩
      rcases Nat.eq_zero_or_pos i with g | g
      · rw [g, hgh_zero]; exact c
      · exact hno i g g2
  · rw [if_pos (by omega)]
    refine .inr ⟨j + 1, by omega, by omega, of_decide_eq_true h5, fun i g1 g2 => ?_⟩
    have := of_decide_eq_false (h6 (i - 1) (by omega) (by omega) (by omega))
    rwa [show i - 1 + 1 = i by omega] at this
end Go.Proofs.Ytegekenkfomlbaa.Br
