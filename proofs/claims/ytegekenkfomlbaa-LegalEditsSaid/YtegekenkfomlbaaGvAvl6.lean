/- grove: the first and the last place. -/
import Derived.Test.YtegekenkfomlbaaGvAvl5
namespace Go.Proofs.Ytegekenkfomlbaa.Gv
open Go.Proofs.Ytegekenkfomlbaa.Rx
set_option linter.unusedVariables false
set_option linter.unusedSimpArgs false
set_option linter.unusedSectionVars false
section
variable {E A : Type} {O : Ops E A} {S : List E → A} {good : List E → Prop} (Z : Laws O S good)
/-- what is asked of places, and of more of them side by side -/
structure Asks (O : Ops E A) (S : List E → A) (may : A → A → Bool) (P : Nat → Bool) (L : List E) : Prop where
  at_ : ∀ p x q, p ++ x :: q = L → P p.length = may (S p) (O.sum x)
  mon : ∀ p l q, p ++ (l ++ q) = L → ∀ i, p.length ≤ i → i < p.length + l.length → P i = true → may (S p) (S l) = true
def FirstIs (P : Nat → Bool) (a b : Nat) (from_ r : Int) : Prop :=
  (r = -1 ∧ ∀ i : Nat, a ≤ i → i < b → from_ ≤ i → P i = false) ∨ (∃ j : Nat, r = j ∧ a ≤ j ∧ j < b ∧ from_ ≤ j ∧ P j = true ∧ ∀ i : Nat, a ≤ i → i < j → from_ ≤ i → P i = false)
def LastIs (P : Nat → Bool) (a b : Nat) (to r : Int) : Prop :=
  (r = -1 ∧ ∀ i : Nat, a ≤ i → i < b → (i : Int) < to → P i = false) ∨ (∃ j : Nat, r = j ∧ a ≤ j ∧ j < b ∧ (j : Int) < to ∧ P j = true ∧ ∀ i : Nat, j < i → i < b → (i : Int) < to → P i = false)
include Z
theorem first_tr {n : Nat} {may : A → A → Bool} {P : Nat → Bool} {L : List E} {f : Int} (hA : Asks O S may P L) (hg : good L) : ∀ (t : Tr E) {k : Nat} {m : Po E A} {p s : List E}, POk n m → Rp O S m t → p ++ (t.elems ++ s) = L → t.h < k →
    FirstIs P p.length (p.length + t.elems.length) f (first O may k m (nd O S t) ⟨p.length, S p⟩ f).1 ∧ ∃ kk, Upd [] kk (zn O) m (first O may k m (nd O S t) ⟨p.length, S p⟩ f).2
  | t, 0, m, p, s, _, _, _, hk => by omega
  | .nil, k + 1, m, p, s, ho, hr, hL, hk => by
    rw [first, if_pos (.inl (by rw [nd_h]; rfl))]
    exact ⟨.inl ⟨rfl, fun i h1 h2 => by simp [Tr.elems, Tr.items] at h2; omega⟩, 0, Upd.refl _ _ _ _⟩
  | .node r l x q, k + 1, m, p, s, ho, ⟨hr1, hr2, hr3, hr4⟩, hL, hk => by
    simp only [Tr.h] at hk
    have hlen := Z.len _ hg
    have hall := nd_all (O := O) (S := S) Z.nil (.node r l x q)
    rw [← Tr.elems_length] at hall
    have kl : lk O m l.root = nd O S l := hr3.root ho
    have kq : lk O m q.root = nd O S q := hr4.root ho
    have e1 : (nd O S (Tr.node r l x q)).l = l.root := rfl
    have e2 : (nd O S (Tr.node r l x q)).r = q.root := rfl
    have e3 : (nd O S (Tr.node r l x q)).e = x := rfl
    have e5 : ¬ (nd O S (Tr.node r l x q)).h = 0 := by rw [nd_h]; simp only [Tr.h]; omega
    have hLl := congrArg List.length hL
    rw [Tr.elems_node] at hL
    have hL1 : p ++ (l.elems ++ (x :: q.elems ++ s)) = L := by simpa using hL
    have hL2 : (p ++ l.elems) ++ x :: (q.elems ++ s) = L := by simpa using hL
    have hL3 : (p ++ l.elems ++ [x]) ++ (q.elems ++ s) = L := by simpa using hL
    have hmon := hA.mon p (Tr.node r l x q).elems s (by rw [Tr.elems_node]; exact hL)
    rw [first, e1, e2, e3, hall]
    simp only [kl, lk_first, lk_see, kq, nd_all Z.nil, ← Tr.elems_length]
    simp only [List.length_append] at hLl
    have hsl : (Tr.node r l x q).elems.length = l.elems.length + (q.elems.length + 1) := by rw [Tr.elems_node]; simp
    have w1 : W ((p.length : Int) + ((Tr.node r l x q).elems.length : Int)) = (p.length : Int) + (Tr.node r l x q).elems.length := W_of (by omega)
    rw [w1]
    by_cases c1 : (nd O S (Tr.node r l x q)).h = 0 ∨ (p.length : Int) + (Tr.node r l x q).elems.length ≤ f
    · rw [if_pos c1]
      refine ⟨.inl ⟨rfl, fun i h1 h2 h3 => ?_⟩, 0, Upd.refl _ _ _ _⟩
      rcases c1 with c1 | c1
      · exact absurd c1 e5
      · omega
    · rw [if_neg c1]
      by_cases c2 : (p.length : Int) ≥ f ∧ may (S p) (S (Tr.node r l x q).elems) = false
      · rw [if_pos c2]
        refine ⟨.inl ⟨rfl, fun i h1 h2 h3 => ?_⟩, 0, Upd.refl _ _ _ _⟩
        cases hP : P i with
        | false => rfl
        | true => have := hmon i h1 h2 hP; rw [c2.2] at this; cases this
      · rw [if_neg c2]
        obtain ⟨i1, kk, i2⟩ := first_tr hA hg l (k := k) (m := see m l.root) (p := p) (s := x :: q.elems ++ s) (see_ok.2 ho) (hr3.see _) hL1 (by omega)
        have hu := (see_upd (zn O) m l.root).to i2 (S := []) (fun s hs => by simp at hs) (Nat.le_refl _)
        by_cases c3 : (first O may k (see m l.root) (nd O S l) ⟨p.length, S p⟩ f).1 ≥ 0
        · rw [if_pos c3]
          refine ⟨?_, _, hu⟩
          rcases i1 with ⟨h1, _⟩ | ⟨j, h1, h2, h3, h4, h5, h6⟩
          · omega
          · exact .inr ⟨j, h1, h2, by omega, h4, h5, h6⟩
        · rw [if_neg c3]
          have hno : ∀ i : Nat, p.length ≤ i → i < p.length + l.elems.length → f ≤ i → P i = false := by
            rcases i1 with ⟨_, h⟩ | ⟨j, h1, _⟩
            · exact h
            · omega
          have hgl : good (p ++ l.elems) := Z.left _ (x :: (q.elems ++ s)) (by rw [hL2]; exact hg)
          have hgx : good ((p ++ l.elems) ++ [x]) := Z.left _ (q.elems ++ s) (by rw [hL3]; exact hg)
          rw [part_plus Z hgl, one_part Z, part_plus Z hgx]
          have hPx := hA.at_ (p ++ l.elems) x (q.elems ++ s) hL2
          have hpl : (p ++ l.elems).length = p.length + l.elems.length := by simp
          by_cases c4 : ((p ++ l.elems).length : Int) ≥ f ∧ may (S (p ++ l.elems)) (O.sum x) = true
          · rw [if_pos c4]
            refine ⟨.inr ⟨(p ++ l.elems).length, rfl, by omega, by omega, c4.1, by rw [hPx]; exact c4.2, fun i h1 h2 h3 => hno i h1 (by omega) h3⟩, _, hu⟩
          · rw [if_neg c4]
            obtain ⟨j1, kk2, j2⟩ := first_tr hA hg q (k := k) (m := see (first O may k (see m l.root) (nd O S l) ⟨p.length, S p⟩ f).2 q.root) (p := p ++ l.elems ++ [x]) (s := s) (see_ok.2 (first_ok.2 (see_ok.2 ho)))
              ((Rp.frame hu (fun s _ hs => by cases hs) hr4).see _) hL3 (by omega)
            refine ⟨?_, _, (hu.to (see_upd _ _ q.root) (S := []) (fun s hs => by simp at hs) (Nat.le_refl _)).to j2 (fun s hs => by simp at hs) (Nat.le_refl _)⟩
            have hxl : (p ++ l.elems ++ [x]).length = p.length + l.elems.length + 1 := by simp; omega
            have hnx : f ≤ (p ++ l.elems).length → P (p ++ l.elems).length = false := fun h => by
              rw [hPx]
              cases hm : may (S (p ++ l.elems)) (O.sum x) with
              | false => rfl
              | true => exact absurd ⟨h, hm⟩ c4
            have hall2 : ∀ i : Nat, p.length ≤ i → i < p.length + l.elems.length + 1 → f ≤ i → P i = false := fun i h1 h2 h3 => by
              rcases Nat.lt_or_ge i (p.length + l.elems.length) with h4 | h4
              · exact hno i h1 h4 h3
              · have : i = (p ++ l.elems).length := by omega
                rw [this]; exact hnx (by omega)
            rcases j1 with ⟨h1, h2⟩ | ⟨j, h1, h2, h3, h4, h5, h6⟩
            · refine .inl ⟨h1, fun i g1 g2 g3 => ?_⟩
              rcases Nat.lt_or_ge i (p.length + l.elems.length + 1) with h4 | h4
              · exact hall2 i g1 h4 g3
              · exact h2 i (by rw [hxl]; exact h4) (by rw [hxl]; omega) g3
            · rw [hxl] at h2 h3 h6
              refine .inr ⟨j, h1, by omega, by omega, h4, h5, fun i g1 g2 g3 => ?_⟩
              rcases Nat.lt_or_ge i (p.length + l.elems.length + 1) with h7 | h7
              · exact hall2 i g1 h7 g3
              · exact h6 i h7 g2 g3
theorem last_tr {n : Nat} {may : A → A → Bool} {P : Nat → Bool} {L : List E} {u : Int} (hA : Asks O S may P L) (hg : good L) : ∀ (t : Tr E) {k : Nat} {m : Po E A} {p s : List E}, POk n m → Rp O S m t → p ++ (t.elems ++ s) = L → t.h < k →
    LastIs P p.length (p.length + t.elems.length) u (last O may k m (nd O S t) ⟨p.length, S p⟩ u).1 ∧ ∃ kk, Upd [] kk (zn O) m (last O may k m (nd O S t) ⟨p.length, S p⟩ u).2
  | t, 0, m, p, s, _, _, _, hk => by omega
  | .nil, k + 1, m, p, s, ho, hr, hL, hk => by
    rw [last, if_pos (.inl (by rw [nd_h]; rfl))]
    exact ⟨.inl ⟨rfl, fun i h1 h2 => by simp [Tr.elems, Tr.items] at h2; omega⟩, 0, Upd.refl _ _ _ _⟩
  | .node r l x q, k + 1, m, p, s, ho, ⟨hr1, hr2, hr3, hr4⟩, hL, hk => by
    simp only [Tr.h] at hk
    have hlen := Z.len _ hg
    have hall := nd_all (O := O) (S := S) Z.nil (.node r l x q)
    rw [← Tr.elems_length] at hall
    have kl : lk O m l.root = nd O S l := hr3.root ho
    have kq : lk O m q.root = nd O S q := hr4.root ho
    have e1 : (nd O S (Tr.node r l x q)).l = l.root := rfl
    have e2 : (nd O S (Tr.node r l x q)).r = q.root := rfl
    have e3 : (nd O S (Tr.node r l x q)).e = x := rfl
    have e5 : ¬ (nd O S (Tr.node r l x q)).h = 0 := by rw [nd_h]; simp only [Tr.h]; omega
    have hLl := congrArg List.length hL
    rw [Tr.elems_node] at hL
    have hL1 : p ++ (l.elems ++ (x :: q.elems ++ s)) = L := by simpa using hL
    have hL2 : (p ++ l.elems) ++ x :: (q.elems ++ s) = L := by simpa using hL
    have hL3 : (p ++ l.elems ++ [x]) ++ (q.elems ++ s) = L := by simpa using hL
    have hmon := hA.mon p (Tr.node r l x q).elems s (by rw [Tr.elems_node]; exact hL)
    rw [last, e1, e2, e3, hall]
    simp only [kl, lk_last, lk_see, kq, nd_all Z.nil, ← Tr.elems_length]
    simp only [List.length_append] at hLl
    have hsl : (Tr.node r l x q).elems.length = l.elems.length + (q.elems.length + 1) := by rw [Tr.elems_node]; simp
    have w1 : W ((p.length : Int) + ((Tr.node r l x q).elems.length : Int)) = (p.length : Int) + (Tr.node r l x q).elems.length := W_of (by omega)
    rw [w1]
    by_cases c1 : (nd O S (Tr.node r l x q)).h = 0 ∨ (p.length : Int) ≥ u
    · rw [if_pos c1]
      refine ⟨.inl ⟨rfl, fun i h1 h2 h3 => ?_⟩, 0, Upd.refl _ _ _ _⟩
      rcases c1 with c1 | c1
      · exact absurd c1 e5
      · omega
    · rw [if_neg c1]
      by_cases c2 : (p.length : Int) + (Tr.node r l x q).elems.length ≤ u ∧ may (S p) (S (Tr.node r l x q).elems) = false
      · rw [if_pos c2]
        refine ⟨.inl ⟨rfl, fun i h1 h2 h3 => ?_⟩, 0, Upd.refl _ _ _ _⟩
        cases hP : P i with
        | false => rfl
        | true => have := hmon i h1 h2 hP; rw [c2.2] at this; cases this
      · rw [if_neg c2]
        have hgl : good (p ++ l.elems) := Z.left _ (x :: (q.elems ++ s)) (by rw [hL2]; exact hg)
        have hgx : good ((p ++ l.elems) ++ [x]) := Z.left _ (q.elems ++ s) (by rw [hL3]; exact hg)
        rw [part_plus Z hgl, one_part Z, part_plus Z hgx]
        obtain ⟨i1, kk, i2⟩ := last_tr hA hg q (k := k) (m := see (see m l.root) q.root) (p := p ++ l.elems ++ [x]) (s := s) (see_ok.2 (see_ok.2 ho)) ((hr4.see _).see _) hL3 (by omega)
        have hu := (see2_upd (O := O) m l.root q.root).to i2 (S := []) (fun s hs => by simp at hs) (Nat.le_refl _)
        have hxl : (p ++ l.elems ++ [x]).length = p.length + l.elems.length + 1 := by simp; omega
        have hpl : (p ++ l.elems).length = p.length + l.elems.length := by simp
        have hPx := hA.at_ (p ++ l.elems) x (q.elems ++ s) hL2
        by_cases c3 : (last O may k (see (see m l.root) q.root) (nd O S q) ⟨(p ++ l.elems ++ [x]).length, S (p ++ l.elems ++ [x])⟩ u).1 ≥ 0
        · rw [if_pos c3]
          refine ⟨?_, _, hu⟩
          rcases i1 with ⟨h1, _⟩ | ⟨j, h1, h2, h3, h4, h5, h6⟩
          · omega
          · rw [hxl] at h2 h3
            exact .inr ⟨j, h1, by omega, by omega, h4, h5, fun i g1 g2 g3 => h6 i g1 (by rw [hxl]; omega) g3⟩
        · rw [if_neg c3]
          have hno : ∀ i : Nat, p.length + l.elems.length + 1 ≤ i → i < p.length + (Tr.node r l x q).elems.length → (i : Int) < u → P i = false := by
            rcases i1 with ⟨_, h⟩ | ⟨j, h1, _⟩
            · exact fun i g1 g2 g3 => h i (by rw [hxl]; exact g1) (by rw [hxl]; omega) g3
            · omega
          by_cases c4 : ((p ++ l.elems).length : Int) < u ∧ may (S (p ++ l.elems)) (O.sum x) = true
          · rw [if_pos c4]
            refine ⟨.inr ⟨(p ++ l.elems).length, rfl, by omega, by omega, c4.1, by rw [hPx]; exact c4.2, fun i h1 h2 h3 => hno i (by omega) h2 h3⟩, _, hu⟩
          · rw [if_neg c4]
            obtain ⟨j1, kk2, j2⟩ := last_tr hA hg l (k := k) (m := (last O may k (see (see m l.root) q.root) (nd O S q) ⟨(p ++ l.elems ++ [x]).length, S (p ++ l.elems ++ [x])⟩ u).2) (p := p) (s := x :: q.elems ++ s) (last_ok.2 (see_ok.2 (see_ok.2 ho)))
              (Rp.frame hu (fun s _ hs => by cases hs) hr3) hL1 (by omega)
            refine ⟨?_, _, hu.to j2 (S := []) (fun s hs => by simp at hs) (Nat.le_refl _)⟩
            have hnx : ((p ++ l.elems).length : Int) < u → P (p ++ l.elems).length = false := fun h => by
              rw [hPx]
              cases hm : may (S (p ++ l.elems)) (O.sum x) with
              | false => rfl
              | true => exact absurd ⟨h, hm⟩ c4
            have hall2 : ∀ i : Nat, p.length + l.elems.length ≤ i → i < p.length + (Tr.node r l x q).elems.length → (i : Int) < u → P i = false := fun i h1 h2 h3 => by
              rcases Nat.lt_or_ge (p.length + l.elems.length) i with h4 | h4
              · exact hno i h4 h2 h3
              · have : i = (p ++ l.elems).length := by omega
                rw [this]; exact hnx (by omega)
            rcases j1 with ⟨h1, h2⟩ | ⟨j, h1, h2, h3, h4, h5, h6⟩
            · refine .inl ⟨h1, fun i g1 g2 g3 => ?_⟩
              rcases Nat.lt_or_ge i (p.length + l.elems.length) with h4 | h4
              · exact h2 i g1 h4 g3
              · exact hall2 i h4 g2 g3
            · refine .inr ⟨j, h1, h2, by omega, h4, h5, fun i g1 g2 g3 => ?_⟩
              rcases Nat.lt_or_ge i (p.length + l.elems.length) with h7 | h7
              · exact h6 i g1 h7 g3
              · exact hall2 i h7 g2 g3
end
end Go.Proofs.Ytegekenkfomlbaa.Gv
