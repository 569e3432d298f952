/- grove: how many nodes the first and the last place cost, where may tells of places side by side just what it tells of one of them. -/
import Derived.Test.YtegekenkfomlbaaGvK
namespace Go.Proofs.Ytegekenkfomlbaa.Gv
open Go.Proofs.Ytegekenkfomlbaa.Rx
set_option linter.unusedVariables false
set_option linter.unusedSimpArgs false
set_option linter.unusedSectionVars false
section
variable {E A : Type} {O : Ops E A} {S : List E → A} {good : List E → Prop} (Z : Laws O S good)
/-- may holds of places side by side just if it holds at one of them -/
structure AsksX (O : Ops E A) (S : List E → A) (may : A → A → Bool) (P : Nat → Bool) (L : List E) : Prop extends Asks O S may P L where
  ex : ∀ p l q, p ++ (l ++ q) = L → l ≠ [] → may (S p) (S l) = true → ∃ i, p.length ≤ i ∧ i < p.length + l.length ∧ P i = true
/-- what the first place costs: from f, places a to b, found r, so high -/
def CostF (h a b : Nat) (f r : Int) (kk : Nat) : Prop := kk ≤ 4 * h ∧ (f ≤ a → kk ≤ 2 * h) ∧ (r < 0 → kk ≤ 2 * h) ∧ (f ≤ a → r < 0 → kk = 0) ∧ ((b : Int) ≤ f → kk = 0)
def CostL (h a b : Nat) (u r : Int) (kk : Nat) : Prop := kk ≤ 4 * h ∧ ((b : Int) ≤ u → kk ≤ 2 * h) ∧ (r < 0 → kk ≤ 2 * h) ∧ ((b : Int) ≤ u → r < 0 → kk = 0) ∧ (u ≤ a → kk = 0)
theorem costF_left {hl hq a ll b : Nat} {f r : Int} {kk : Nat} (x : CostF hl a (a + ll) f r kk) (h3 : 0 ≤ r) (hc : ¬ ((b : Nat) : Int) ≤ f) : CostF (1 + max hl hq) a b f r (1 + kk) := by
  obtain ⟨x1, x2, x3, x4, x5⟩ := x
  exact ⟨by omega, fun w => by have := x2 w; omega, fun w => by omega, fun w w' => by omega, fun w => absurd w hc⟩
theorem costF_mid {hl hq a ll b : Nat} {f r rl : Int} {kk : Nat} (x : CostF hl a (a + ll) f rl kk) (h3 : rl < 0) (h0 : 0 ≤ r) (hc : ¬ ((b : Nat) : Int) ≤ f) : CostF (1 + max hl hq) a b f r (1 + kk) := by
  obtain ⟨x1, x2, x3, x4, x5⟩ := x
  have z3 := x3 h3
  exact ⟨by omega, fun w => by have := x2 w; omega, fun w => by omega, fun w w' => by omega, fun w => absurd w hc⟩
theorem costF_right {hl hq a ll lq am : Nat} {f rl rq : Int} {kk kk2 : Nat} (x : CostF hl a (a + ll) f rl kk) (y : CostF hq am (am + lq) f rq kk2) (hm : am = a + ll + 1) (h3 : rl < 0) (h0 : f ≤ a → ¬ rq < 0) (hc : ¬ ((a + (ll + (lq + 1)) : Nat) : Int) ≤ f) :
    CostF (1 + max hl hq) a (a + (ll + (lq + 1))) f rq (1 + kk + 1 + kk2) := by
  subst hm
  obtain ⟨x1, x2, x3, x4, x5⟩ := x
  obtain ⟨y1, y2, y3, y4, y5⟩ := y
  have z3 := x3 h3
  refine ⟨?_, fun w => ?_, fun w => ?_, fun w w' => absurd w' (h0 w), fun w => absurd w hc⟩
  · by_cases w2 : f ≤ ((a + ll + 1 : Nat) : Int)
    · have := y2 w2; omega
    · have := x5 (by omega); omega
  · have := y2 (by omega); have := x4 w h3; omega
  · have := y3 w
    by_cases w2 : f ≤ ((a + ll + 1 : Nat) : Int)
    · have := y4 w2 w; omega
    · have := x5 (by omega); omega
theorem costL_right {hl hq a ll lq b am : Nat} {u r : Int} {kk : Nat} (x : CostL hq am (am + lq) u r kk) (hm : am = a + ll + 1) (h3 : 0 ≤ r) (hb : b = a + (ll + (lq + 1))) (hc : ¬ u ≤ ((a : Nat) : Int)) : CostL (1 + max hl hq) a b u r (2 + kk) := by
  subst hm
  obtain ⟨x1, x2, x3, x4, x5⟩ := x
  exact ⟨by omega, fun w => by have := x2 (by omega); omega, fun w => by omega, fun w w' => by omega, fun w => absurd w hc⟩
theorem costL_mid {hl hq a ll lq b am : Nat} {u r rl : Int} {kk : Nat} (x : CostL hq am (am + lq) u rl kk) (hm : am = a + ll + 1) (h3 : rl < 0) (h0 : 0 ≤ r) (hb : b = a + (ll + (lq + 1))) (hc : ¬ u ≤ ((a : Nat) : Int)) : CostL (1 + max hl hq) a b u r (2 + kk) := by
  subst hm
  obtain ⟨x1, x2, x3, x4, x5⟩ := x
  have z3 := x3 h3
  exact ⟨by omega, fun w => by have := x2 (by omega); omega, fun w => by omega, fun w w' => by omega, fun w => absurd w hc⟩
theorem costL_left {hl hq a ll lq am : Nat} {u rl rq : Int} {kk kk2 : Nat} (x : CostL hq am (am + lq) u rq kk) (hm : am = a + ll + 1) (y : CostL hl a (a + ll) u rl kk2) (h3 : rq < 0) (h0 : ((a + (ll + (lq + 1)) : Nat) : Int) ≤ u → ¬ rl < 0) (hc : ¬ u ≤ ((a : Nat) : Int)) :
    CostL (1 + max hl hq) a (a + (ll + (lq + 1))) u rl (2 + kk + kk2) := by
  subst hm
  obtain ⟨x1, x2, x3, x4, x5⟩ := x
  obtain ⟨y1, y2, y3, y4, y5⟩ := y
  have z3 := x3 h3
  refine ⟨?_, fun w => ?_, fun w => ?_, fun w w' => absurd w' (h0 w), fun w => absurd w hc⟩
  · by_cases w2 : ((a + ll : Nat) : Int) ≤ u
    · have := y2 w2; omega
    · have := x5 (by omega); omega
  · have := y2 (by omega); have := x4 (by omega) h3; omega
  · have := y3 w
    by_cases w2 : ((a + ll : Nat) : Int) ≤ u
    · have := y4 w2 w; omega
    · have := x5 (by omega); omega
include Z
theorem first_cost {n : Nat} {may : A → A → Bool} {P : Nat → Bool} {L : List E} {f : Int} (hA : AsksX O S may P L) (hg : good L) : ∀ (t : Tr E) {k : Nat} {m : Po E A} {p s : List E}, POk n m → Rp O S m t → p ++ (t.elems ++ s) = L → t.h < k →
    ∃ kk, CostF t.h p.length (p.length + t.elems.length) f (first O may k m (nd O S t) ⟨p.length, S p⟩ f).1 kk ∧ Upd [] kk (zn O) m (first O may k m (nd O S t) ⟨p.length, S p⟩ f).2
  | t, 0, m, p, s, _, _, _, hk => by omega
  | .nil, k + 1, m, p, s, ho, hr, hL, hk => by
    rw [first, if_pos (.inl (by rw [nd_h]; rfl))]
    exact ⟨0, ⟨Nat.zero_le _, fun _ => Nat.zero_le _, fun _ => Nat.zero_le _, fun _ _ => rfl, fun _ => rfl⟩, Upd.refl _ _ _ _⟩
  | .node r l x q, k + 1, m, p, s, ho, ⟨hr1, hr2, hr3, hr4⟩, hL, hk => by
    have whole := (first_tr Z (f := f) hA.toAsks hg (.node r l x q) (k := k + 1) (m := m) (p := p) (s := s) ho ⟨hr1, hr2, hr3, hr4⟩ hL hk).1
    simp only [Tr.h] at hk
    have hlen := Z.len _ hg
    have hall := nd_all (O := O) (S := S) Z.nil (.node r l x q)
    rw [← Tr.elems_length] at hall
    have kl : lk O m l.root = nd O S l := hr3.root ho
    have kq : lk O m q.root = nd O S q := hr4.root ho
    have e1 : (nd O S (Tr.node r l x q)).l = l.root := rfl
    have e2 : (nd O S (Tr.node r l x q)).r = q.root := rfl
    have e3 : (nd O S (Tr.node r l x q)).e = x := rfl
    have e5 : ¬ (nd O S (Tr.node r l x q)).h = 0 := by rw [nd_h]; simp only [Tr.h]; omega
    have hLl := congrArg List.length hL
    rw [Tr.elems_node] at hL
    have hL1 : p ++ (l.elems ++ (x :: q.elems ++ s)) = L := by simpa using hL
    have hL2 : (p ++ l.elems) ++ x :: (q.elems ++ s) = L := by simpa using hL
    have hL3 : (p ++ l.elems ++ [x]) ++ (q.elems ++ s) = L := by simpa using hL
    have hex := hA.ex p (Tr.node r l x q).elems s (by rw [Tr.elems_node]; exact hL) (by rw [Tr.elems_node]; simp)
    have hsl : (Tr.node r l x q).elems.length = l.elems.length + (q.elems.length + 1) := by rw [Tr.elems_node]; simp
    have hkl : l.h < k := by omega
    have hkq : q.h < k := by omega
    have hhh : (Tr.node r l x q).h = 1 + max l.h q.h := rfl
    rw [first, e1, e2, e3, hall] at whole ⊢
    simp only [kl, lk_first, lk_see, kq, nd_all Z.nil, ← Tr.elems_length] at whole ⊢
    simp only [List.length_append] at hLl
    have w1 : W ((p.length : Int) + ((Tr.node r l x q).elems.length : Int)) = (p.length : Int) + (Tr.node r l x q).elems.length := W_of (by omega)
    rw [w1] at whole ⊢
    by_cases c1 : (nd O S (Tr.node r l x q)).h = 0 ∨ (p.length : Int) + (Tr.node r l x q).elems.length ≤ f
    · rw [if_pos c1]
      exact ⟨0, ⟨Nat.zero_le _, fun _ => Nat.zero_le _, fun _ => Nat.zero_le _, fun _ _ => rfl, fun _ => rfl⟩, Upd.refl _ _ _ _⟩
    · rw [if_neg c1] at whole ⊢
      have hc : ¬ ((p.length + (Tr.node r l x q).elems.length : Nat) : Int) ≤ f := fun h => c1 (.inr (by omega))
      by_cases c2 : (p.length : Int) ≥ f ∧ may (S p) (S (Tr.node r l x q).elems) = false
      · rw [if_pos c2]
        exact ⟨0, ⟨Nat.zero_le _, fun _ => Nat.zero_le _, fun _ => Nat.zero_le _, fun _ _ => rfl, fun _ => rfl⟩, Upd.refl _ _ _ _⟩
      · rw [if_neg c2] at whole ⊢
        have hyes : f ≤ p.length → ∃ i : Nat, p.length ≤ i ∧ i < p.length + (Tr.node r l x q).elems.length ∧ P i = true := fun hf => by
          cases hm : may (S p) (S (Tr.node r l x q).elems) with
          | false => exact absurd ⟨hf, hm⟩ c2
          | true => exact hex hm
        obtain ⟨kk, x0, i2⟩ := first_cost hA hg l (k := k) (m := see m l.root) (p := p) (s := x :: q.elems ++ s) (see_ok.2 ho) (hr3.see _) hL1 hkl
        have hu := (see_upd (zn O) m l.root).to i2 (S := []) (fun s hs => by simp at hs) (Nat.le_refl _)
        rw [hhh]
        by_cases c3 : (first O may k (see m l.root) (nd O S l) ⟨p.length, S p⟩ f).1 ≥ 0
        · rw [if_pos c3]
          exact ⟨_, costF_left x0 c3 hc, hu⟩
        · rw [if_neg c3] at whole ⊢
          have hgl : good (p ++ l.elems) := Z.left _ (x :: (q.elems ++ s)) (by rw [hL2]; exact hg)
          have hgx : good ((p ++ l.elems) ++ [x]) := Z.left _ (q.elems ++ s) (by rw [hL3]; exact hg)
          rw [part_plus Z hgl, one_part Z, part_plus Z hgx] at whole ⊢
          by_cases c4 : ((p ++ l.elems).length : Int) ≥ f ∧ may (S (p ++ l.elems)) (O.sum x) = true
          · rw [if_pos c4]
            exact ⟨_, costF_mid x0 (Int.not_le.mp c3) (Int.natCast_nonneg _) hc, hu⟩
          · rw [if_neg c4] at whole ⊢
            obtain ⟨kk2, y0, j2⟩ := first_cost hA hg q (k := k) (m := see (first O may k (see m l.root) (nd O S l) ⟨p.length, S p⟩ f).2 q.root) (p := p ++ l.elems ++ [x]) (s := s) (see_ok.2 (first_ok.2 (see_ok.2 ho)))
              ((Rp.frame hu (fun s _ hs => by cases hs) hr4).see _) hL3 hkq
            refine ⟨_, ?_, (hu.to (see_upd _ _ q.root) (S := []) (fun s hs => by simp at hs) (Nat.le_refl _)).to j2 (fun s hs => by simp at hs) (Nat.le_refl _)⟩
            have hxl : (p ++ l.elems ++ [x]).length = p.length + l.elems.length + 1 := by simp; omega
            rw [hsl] at hc ⊢
            refine costF_right x0 y0 hxl (Int.not_le.mp c3) (fun hf hr => ?_) hc
            obtain ⟨i, g1, g2, g3⟩ := hyes hf
            clear hyes hex
            rcases whole with ⟨h1, h2⟩ | ⟨j, h1, _⟩
            · rw [h2 i g1 g2 (by omega)] at g3; cases g3
            · rw [h1] at hr; exact absurd hr (Int.not_lt.mpr (Int.natCast_nonneg j))
theorem last_cost {n : Nat} {may : A → A → Bool} {P : Nat → Bool} {L : List E} {u : Int} (hA : AsksX O S may P L) (hg : good L) : ∀ (t : Tr E) {k : Nat} {m : Po E A} {p s : List E}, POk n m → Rp O S m t → p ++ (t.elems ++ s) = L → t.h < k →
    ∃ kk, CostL t.h p.length (p.length + t.elems.length) u (last O may k m (nd O S t) ⟨p.length, S p⟩ u).1 kk ∧ Upd [] kk (zn O) m (last O may k m (nd O S t) ⟨p.length, S p⟩ u).2
  | t, 0, m, p, s, _, _, _, hk => by omega
  | .nil, k + 1, m, p, s, ho, hr, hL, hk => by
    rw [last, if_pos (.inl (by rw [nd_h]; rfl))]
    exact ⟨0, ⟨Nat.zero_le _, fun _ => Nat.zero_le _, fun _ => Nat.zero_le _, fun _ _ => rfl, fun _ => rfl⟩, Upd.refl _ _ _ _⟩
  | .node r l x q, k + 1, m, p, s, ho, ⟨hr1, hr2, hr3, hr4⟩, hL, hk => by
    have whole := (last_tr Z (u := u) hA.toAsks hg (.node r l x q) (k := k + 1) (m := m) (p := p) (s := s) ho ⟨hr1, hr2, hr3, hr4⟩ hL hk).1
    simp only [Tr.h] at hk
    have hlen := Z.len _ hg
    have hall := nd_all (O := O) (S := S) Z.nil (.node r l x q)
    rw [← Tr.elems_length] at hall
    have kl : lk O m l.root = nd O S l := hr3.root ho
    have kq : lk O m q.root = nd O S q := hr4.root ho
    have e1 : (nd O S (Tr.node r l x q)).l = l.root := rfl
    have e2 : (nd O S (Tr.node r l x q)).r = q.root := rfl
    have e3 : (nd O S (Tr.node r l x q)).e = x := rfl
    have e5 : ¬ (nd O S (Tr.node r l x q)).h = 0 := by rw [nd_h]; simp only [Tr.h]; omega
    have hLl := congrArg List.length hL
    rw [Tr.elems_node] at hL
    have hL1 : p ++ (l.elems ++ (x :: q.elems ++ s)) = L := by simpa using hL
    have hL2 : (p ++ l.elems) ++ x :: (q.elems ++ s) = L := by simpa using hL
    have hL3 : (p ++ l.elems ++ [x]) ++ (q.elems ++ s) = L := by simpa using hL
    have hex := hA.ex p (Tr.node r l x q).elems s (by rw [Tr.elems_node]; exact hL) (by rw [Tr.elems_node]; simp)
    have hsl : (Tr.node r l x q).elems.length = l.elems.length + (q.elems.length + 1) := by rw [Tr.elems_node]; simp
    have hkl : l.h < k := by omega
    have hkq : q.h < k := by omega
    have hhh : (Tr.node r l x q).h = 1 + max l.h q.h := rfl
    rw [last, e1, e2, e3, hall] at whole ⊢
    simp only [kl, lk_last, lk_see, kq, nd_all Z.nil, ← Tr.elems_length] at whole ⊢
    simp only [List.length_append] at hLl
    have w1 : W ((p.length : Int) + ((Tr.node r l x q).elems.length : Int)) = (p.length : Int) + (Tr.node r l x q).elems.length := W_of (by omega)
    rw [w1] at whole ⊢
    by_cases c1 : (nd O S (Tr.node r l x q)).h = 0 ∨ (p.length : Int) ≥ u
    · rw [if_pos c1]
      exact ⟨0, ⟨Nat.zero_le _, fun _ => Nat.zero_le _, fun _ => Nat.zero_le _, fun _ _ => rfl, fun _ => rfl⟩, Upd.refl _ _ _ _⟩
    · rw [if_neg c1] at whole ⊢
      have hc : ¬ u ≤ ((p.length : Nat) : Int) := fun h => c1 (.inr h)
      by_cases c2 : (p.length : Int) + (Tr.node r l x q).elems.length ≤ u ∧ may (S p) (S (Tr.node r l x q).elems) = false
      · rw [if_pos c2]
        exact ⟨0, ⟨Nat.zero_le _, fun _ => Nat.zero_le _, fun _ => Nat.zero_le _, fun _ _ => rfl, fun _ => rfl⟩, Upd.refl _ _ _ _⟩
      · rw [if_neg c2] at whole ⊢
        have hyes : ((p.length + (Tr.node r l x q).elems.length : Nat) : Int) ≤ u → ∃ i : Nat, p.length ≤ i ∧ i < p.length + (Tr.node r l x q).elems.length ∧ P i = true := fun hf => by
          cases hm : may (S p) (S (Tr.node r l x q).elems) with
          | false => exact absurd ⟨by omega, hm⟩ c2
          | true => exact hex hm
        have hgl : good (p ++ l.elems) := Z.left _ (x :: (q.elems ++ s)) (by rw [hL2]; exact hg)
        have hgx : good ((p ++ l.elems) ++ [x]) := Z.left _ (q.elems ++ s) (by rw [hL3]; exact hg)
        rw [part_plus Z hgl, one_part Z, part_plus Z hgx] at whole ⊢
        obtain ⟨kk, x0, i2⟩ := last_cost hA hg q (k := k) (m := see (see m l.root) q.root) (p := p ++ l.elems ++ [x]) (s := s) (see_ok.2 (see_ok.2 ho)) ((hr4.see _).see _) hL3 hkq
        have hu := (see2_upd (O := O) m l.root q.root).to i2 (S := []) (fun s hs => by simp at hs) (Nat.le_refl _)
        have hxl : (p ++ l.elems ++ [x]).length = p.length + l.elems.length + 1 := by simp; omega
        rw [hhh]
        by_cases c3 : (last O may k (see (see m l.root) q.root) (nd O S q) ⟨(p ++ l.elems ++ [x]).length, S (p ++ l.elems ++ [x])⟩ u).1 ≥ 0
        · rw [if_pos c3]
          exact ⟨_, costL_right x0 hxl c3 (by rw [hsl]) hc, hu⟩
        · rw [if_neg c3] at whole ⊢
          by_cases c4 : ((p ++ l.elems).length : Int) < u ∧ may (S (p ++ l.elems)) (O.sum x) = true
          · rw [if_pos c4]
            exact ⟨_, costL_mid x0 hxl (Int.not_le.mp c3) (Int.natCast_nonneg _) (by rw [hsl]) hc, hu⟩
          · rw [if_neg c4] at whole ⊢
            obtain ⟨kk2, y0, j2⟩ := last_cost hA hg l (k := k) (m := (last O may k (see (see m l.root) q.root) (nd O S q) ⟨(p ++ l.elems ++ [x]).length, S (p ++ l.elems ++ [x])⟩ u).2) (p := p) (s := x :: q.elems ++ s) (last_ok.2 (see_ok.2 (see_ok.2 ho)))
              (Rp.frame hu (fun s _ hs => by cases hs) hr3) hL1 hkl
            refine ⟨_, ?_, hu.to j2 (S := []) (fun s hs => by simp at hs) (Nat.le_refl _)⟩
            rw [hsl] at hyes whole ⊢
            refine costL_left x0 hxl y0 (Int.not_le.mp c3) (fun hf hr => ?_) hc
            obtain ⟨i, g1, g2, g3⟩ := hyes hf
            clear hyes hex
            rcases whole with ⟨h1, h2⟩ | ⟨j, h1, _⟩
            · rw [h2 i g1 g2 (by omega)] at g3; cases g3
            · rw [h1] at hr; exact absurd hr (Int.not_lt.mpr (Int.natCast_nonneg j))
theorem first_few {n K : Nat} {f : Int} {may : A → A → Bool} {P : Nat → Bool} {m : Po E A} {a b : Tr E} (h : St O S good n m a b) (hA : AsksX O S may P a.elems) (hk : a.h < K) :
    Vis (4 * a.h + 1) m (first O may K (see m a.root) (lk O m a.root) ⟨0, O.a0⟩ f).2 := by
  have h2 := h.see a.root
  obtain ⟨kk, r1, r2⟩ := first_cost Z (f := f) hA h.ga a (k := K) (p := []) (s := []) h2.ok h2.ra (by simp) hk
  have e0 : (([] : List E).length : Int) = 0 := rfl
  rw [e0, Z.nil] at r2
  rw [h.lk]
  exact (h.up (r := a.root) r2).vis.mono (by have := r1.1; omega)
theorem last_few {n K : Nat} {f : Int} {may : A → A → Bool} {P : Nat → Bool} {m : Po E A} {a b : Tr E} (h : St O S good n m a b) (hA : AsksX O S may P a.elems) (hk : a.h < K) :
    Vis (4 * a.h + 1) m (last O may K (see m a.root) (lk O m a.root) ⟨0, O.a0⟩ f).2 := by
  have h2 := h.see a.root
  obtain ⟨kk, r1, r2⟩ := last_cost Z (u := f) hA h.ga a (k := K) (p := []) (s := []) h2.ok h2.ra (by simp) hk
  have e0 : (([] : List E).length : Int) = 0 := rfl
  rw [e0, Z.nil] at r2
  rw [h.lk]
  exact (h.up (r := a.root) r2).vis.mono (by have := r1.1; omega)
end
theorem TS.first_vis {E A : Type} {k : Kd E A} {may : A → A → Bool} {P : Nat → Bool} {s : TS k} {f : Int} (h : AsksX k.O k.S may P s.l) : Vis (4 * hgt s.l.length + 1) s.m (s.first may f).m := by
  obtain ⟨a, b, h1, h2, h3, h4, h5, h6⟩ := s.ok
  have hk := s.k1
  show Vis _ s.m (Gv.first k.O may KK (see s.m s.r) (lk k.O s.m s.r) ⟨0, k.O.a0⟩ f).2
  rw [← h4] at h hk
  rw [← h4, ← h1]
  have hb := a.h_hgt h3.ba
  rw [← Tr.elems_length] at hb
  exact (first_few k.Z h3 h (Nat.lt_of_le_of_lt (h_elems a) hk)).mono (by omega)
theorem TS.last_vis {E A : Type} {k : Kd E A} {may : A → A → Bool} {P : Nat → Bool} {s : TS k} {f : Int} (h : AsksX k.O k.S may P s.l) : Vis (4 * hgt s.l.length + 1) s.m (s.last may f).m := by
  obtain ⟨a, b, h1, h2, h3, h4, h5, h6⟩ := s.ok
  have hk := s.k1
  show Vis _ s.m (Gv.last k.O may KK (see s.m s.r) (lk k.O s.m s.r) ⟨0, k.O.a0⟩ f).2
  rw [← h4] at h hk
  rw [← h4, ← h1]
  have hb := a.h_hgt h3.ba
  rw [← Tr.elems_length] at hb
  exact (last_few k.Z h3 h (Nat.lt_of_le_of_lt (h_elems a) hk)).mono (by omega)
end Go.Proofs.Ytegekenkfomlbaa.Gv
