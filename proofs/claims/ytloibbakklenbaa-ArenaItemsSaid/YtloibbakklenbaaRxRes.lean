/- Symbolic runs: things of the proof's that stand for a few blocks. Nothing of the program. -/
import Derived.Test.YtloibbakklenbaaRxLift
namespace Go.Proofs.Ytloibbakklenbaa.Rx
open Go.RowKit Go.Proofs.Ytloibbakklenbaa.State
set_option linter.unusedVariables false
set_option linter.unusedSimpArgs false
section
variable {R R0 : Type}
/-- what things of the proof's stand for -/
structure Lay (R R0 : Type) where
  lay : R → Hp R0
  ne : ∀ x, 0 < (lay x).length
  own : ∀ (x : R) (b : Nat) (X : SB R0), (lay x)[b]? = some (some X) → isView X = false
  ins : ∀ x, hpIn (lay x).length (lay x) = true
def resOf (D0 : Res R0) (L : Lay R R0) : Res R where
  H x p F w := ∃ ρl ftl, ρl 0 = p ∧ (∀ k, F k ↔ ∃ i, ftl i k) ∧ HM D0 ⟨w, F, ρl, 0⟩ ρl ftl (L.lay x) w
  keep x p F w w' h hk := by
    obtain ⟨ρl, ftl, h1, h2, h3⟩ := h
    refine ⟨ρl, ftl, h1, h2, ?_⟩
    refine ⟨fun i B hi => ⟨hold_ctx (L.own x i B hi) (hold_keep (h3.at_ i B hi).1 fun k hk' => hk k ((h2 k).2 ⟨i, hk'⟩)), (h3.at_ i B hi).2⟩, fun i k hik => ?_, fun i k hik => Or.inl ((h2 k).2 ⟨i, hik⟩), h3.apart, h3.some_, Kept.refl _ _⟩
    have h4 := hk k ((h2 k).2 ⟨i, hik⟩)
    have h5 := h3.lt i k hik
    rw [Array.getElem?_eq_getElem h5] at h4
    exact (Array.getElem?_eq_some_iff.1 h4).1
  lt x p F w k h hk := by
    obtain ⟨ρl, ftl, h1, h2, h3⟩ := h
    obtain ⟨i, hi⟩ := (h2 k).1 hk
    exact h3.lt i k hi
variable {L : Lay R R0}
def width (L : Lay R R0) : Option (SB R) → Nat
  | some (.inr (.inr (.inr x))) => (L.lay x).length
  | _ => 1
/-- where a block's first one is -/
def off (L : Lay R R0) : Hp R → Nat → Nat
  | [], b => b
  | _ :: _, 0 => 0
  | x :: l, b + 1 => width L x + off L l b
def loc (L : Lay R R0) : Hp R → Nat → Nat × Nat
  | [], j => (j, 0)
  | x :: l, j => if j < width L x then (0, j) else ((loc L l (j - width L x)).1 + 1, (loc L l (j - width L x)).2)
def unfB (L : Lay R R0) (s : Nat → Nat) (o : Nat) : Option (SB R) → Hp R0
  | none => [none]
  | some (.inl (t, cs)) => [some (.inl (t, mvL s cs))]
  | some (.inr (.inl tr)) => [some (.inr (.inl tr))]
  | some (.inr (.inr (.inl r))) => [some (.inr (.inr (.inl r)))]
  | some (.inr (.inr (.inr x))) => newHp (fun i => i + o) (L.lay x)
def unfGo (L : Lay R R0) (s : Nat → Nat) : Nat → Hp R → Hp R0
  | _, [] => []
  | o, x :: l => unfB L s o x ++ unfGo L s (o + width L x) l
/-- a heap without such things -/
def unf (L : Lay R R0) (h : Hp R) : Hp R0 := unfGo L (off L h) 0 h
theorem width_pos (x : Option (SB R)) : 0 < width L x := by
  rcases x with _ | ⟨t, cs⟩ | tr | r | x
  · exact Nat.one_pos
  · exact Nat.one_pos
  · exact Nat.one_pos
  · exact Nat.one_pos
  · exact L.ne x
theorem unfB_length (s : Nat → Nat) (o : Nat) (x : Option (SB R)) : (unfB L s o x).length = width L x := by
  rcases x with _ | ⟨t, cs⟩ | tr | r | x
  · rfl
  · rfl
  · rfl
  · rfl
  · exact (newHp_get (i := 0)).1
theorem unfGo_get (s : Nat → Nat) : ∀ (h : Hp R) (o b i : Nat), b < h.length → i < width L (at2 h b) → (unfGo L s o h)[off L h b + i]? = (unfB L s (o + off L h b) (at2 h b))[i]?
  | [], o, b, i, hb, _ => by simp at hb
  | x :: l, o, 0, i, _, hi => by
    have e : at2 (x :: l) 0 = x := by simp [at2]
    rw [e] at hi ⊢
    simp only [unfGo, off, Nat.zero_add, Nat.add_zero]
    rw [List.getElem?_append_left (by rw [unfB_length]; exact hi)]
  | x :: l, o, b + 1, i, hb, hi => by
    have e : at2 (x :: l) (b + 1) = at2 l b := by simp [at2]
    rw [e] at hi ⊢
    simp only [List.length_cons] at hb
    simp only [unfGo, off]
    rw [List.getElem?_append_right (by rw [unfB_length]; omega), unfB_length, show width L x + off L l b + i - width L x = off L l b + i by omega]
    rw [unfGo_get s l (o + width L x) b i (by omega) hi, Nat.add_assoc]
theorem off_mono : ∀ (h : Hp R) (b b' : Nat), b < b' → b < h.length → off L h b + width L (at2 h b) ≤ off L h b'
  | [], b, b', _, hb => by simp at hb
  | x :: l, 0, 0, h, _ => by omega
  | x :: l, 0, b' + 1, _, _ => by
    have e : at2 (x :: l) 0 = x := by simp [at2]
    rw [e]
    simp only [off]
    omega
  | x :: l, b + 1, 0, h, _ => by omega
  | x :: l, b + 1, b' + 1, h, hb => by
    have e : at2 (x :: l) (b + 1) = at2 l b := by simp [at2]
    rw [e]
    simp only [List.length_cons] at hb
    simp only [off]
    have := off_mono l b b' (by omega) (by omega)
    omega
theorem unfGo_length (s : Nat → Nat) : ∀ (h : Hp R) (o : Nat), (unfGo L s o h).length = off L h h.length
  | [], o => rfl
  | x :: l, o => by
    simp only [unfGo, List.length_append, unfB_length, List.length_cons, off]
    rw [unfGo_length s l]
theorem unf_length (h : Hp R) : (unf L h).length = off L h h.length := unfGo_length _ _ _
theorem off_lt (h : Hp R) {b i : Nat} (hb : b < h.length) (hi : i < width L (at2 h b)) : off L h b + i < (unf L h).length := by
  rw [unf_length]
  have := off_mono (L := L) h b h.length hb hb
  omega
theorem loc_off : ∀ (h : Hp R) (b i : Nat), b < h.length → i < width L (at2 h b) → loc L h (off L h b + i) = (b, i)
  | [], b, i, hb, _ => by simp at hb
  | x :: l, 0, i, _, hi => by
    have e : at2 (x :: l) 0 = x := by simp [at2]
    rw [e] at hi
    simp only [loc, off, Nat.zero_add, hi, if_true]
  | x :: l, b + 1, i, hb, hi => by
    have e : at2 (x :: l) (b + 1) = at2 l b := by simp [at2]
    rw [e] at hi
    simp only [List.length_cons] at hb
    have e2 : off L (x :: l) (b + 1) + i = width L x + (off L l b + i) := by simp only [off]; omega
    rw [e2]
    simp only [loc]
    rw [if_neg (by omega), show width L x + (off L l b + i) - width L x = off L l b + i by omega, loc_off l b i (by omega) hi]
theorem off_loc : ∀ (h : Hp R) (j : Nat), (loc L h j).1 < h.length → off L h (loc L h j).1 + (loc L h j).2 = j ∧ (loc L h j).2 < width L (at2 h (loc L h j).1)
  | [], j, hj => by simp at hj
  | x :: l, j, hj => by
    simp only [loc] at hj ⊢
    split
    · rename_i hlt
      have e : at2 (x :: l) 0 = x := by simp [at2]
      refine ⟨by simp [off], by rw [e]; exact hlt⟩
    · rename_i hge
      rw [if_neg hge] at hj
      simp only [List.length_cons] at hj
      obtain ⟨h1, h2⟩ := off_loc l (j - width L x) (by simpa using hj)
      have e : at2 (x :: l) ((loc L l (j - width L x)).1 + 1) = at2 l (loc L l (j - width L x)).1 := by simp [at2]
      simp only [off]
      rw [e]
      exact ⟨by omega, h2⟩
theorem loc_lt : ∀ (h : Hp R) (j : Nat), j < off L h h.length → (loc L h j).1 < h.length
  | [], j, hj => by simp [off] at hj
  | x :: l, j, hj => by
    simp only [loc]
    split
    · simp
    · rename_i hge
      simp only [List.length_cons, off] at hj
      have := loc_lt l (j - width L x) (by omega)
      simp only [List.length_cons]
      omega
/-- a block of the heap without such things comes from one with -/
theorem unf_src (h : Hp R) {j : Nat} {B : SB R0} (hj : (unf L h)[j]? = some (some B)) : ∃ b i, b < h.length ∧ i < width L (at2 h b) ∧ j = off L h b + i ∧ loc L h j = (b, i) ∧ (unfB L (off L h) (off L h b) (at2 h b))[i]? = some (some B) := by
  have hlt : j < off L h h.length := by
    have := (List.getElem?_eq_some_iff.1 hj).1
    rwa [unf_length] at this
  have h1 := loc_lt h j hlt
  obtain ⟨h2, h3⟩ := off_loc h j h1
  refine ⟨_, _, h1, h3, h2.symm, rfl, ?_⟩
  rw [← h2] at hj
  unfold unf at hj
  rw [unfGo_get _ h 0 _ _ h1 h3, Nat.zero_add] at hj
  exact hj
variable {D0 : Res R0} {C : Ctx} {ρ ρ' : Env} {ft ft' : Nat → Nat → Prop} {w w' : World} {h : Hp R} {P : Program}
/-- the blocks that such things stand for -/
theorem HM.open_ (hm : HM (resOf D0 L) C ρ ft h w) : ∃ ρ' ft', (∀ b, b < h.length → ρ' (off L h b) = ρ b) ∧ HM D0 C ρ' ft' (unf L h) w := by
  have key : ∀ b, ∃ pr : (Env × (Nat → Nat → Prop)), pr.1 0 = ρ b ∧ (∀ k, ft b k ↔ ∃ i, pr.2 i k) ∧ (∀ i k, b < h.length → pr.2 i k → i < width L (at2 h b)) ∧
      (∀ x, at2 h b = some (.inr (.inr (.inr x))) → HM D0 ⟨w, ft b, pr.1, 0⟩ pr.1 pr.2 (L.lay x) w) ∧ ((∀ x, at2 h b ≠ some (.inr (.inr (.inr x)))) → ∀ i k, pr.2 i k → i = 0) := by
    intro b
    by_cases hx : ∃ x, at2 h b = some (.inr (.inr (.inr x)))
    · obtain ⟨x, hx⟩ := hx
      obtain ⟨ρl, ftl, h1, h2, h3⟩ := (hm.at_ b _ (at2_some hx)).1
      refine ⟨⟨ρl, ftl⟩, h1, h2, fun i k _ hik => ?_, fun y hy => ?_, fun hn => absurd hx (hn x)⟩
      · rw [hx]
        obtain ⟨B, hB⟩ := h3.some_ i k hik
        exact (List.getElem?_eq_some_iff.1 hB).1
      · rw [hx] at hy
        injection hy with hy; injection hy with hy; injection hy with hy; injection hy with hy
        subst hy
        exact h3
    · refine ⟨⟨fun _ => ρ b, fun i k => i = 0 ∧ ft b k⟩, rfl, fun k => ⟨fun hk => ⟨0, rfl, hk⟩, fun ⟨_, _, hk⟩ => hk⟩, fun i k _ hik => ?_, fun x hx' => absurd ⟨x, hx'⟩ hx, fun _ i k hik => hik.1⟩
      rw [hik.1]
      exact width_pos _
  obtain ⟨pr, hpr⟩ := Classical.axiomOfChoice key
  have hρ : ∀ b, b < h.length → (pr (loc L h (off L h b)).1).1 (loc L h (off L h b)).2 = ρ b := fun b hb => by
    have := loc_off (L := L) h b 0 hb (width_pos _)
    rw [Nat.add_zero] at this
    rw [this]
    exact (hpr b).1
  refine ⟨fun j => (pr (loc L h j).1).1 (loc L h j).2, fun j k => (pr (loc L h j).1).2 (loc L h j).2 k, hρ, ?_⟩
  have hsub : ∀ j k, (pr (loc L h j).1).2 (loc L h j).2 k → ft (loc L h j).1 k := fun j k hk => ((hpr _).2.1 k).2 ⟨_, hk⟩
  have hb : ∀ b k, ft b k → b < h.length := fun b k hk => by
    obtain ⟨B, hB⟩ := hm.some_ b k hk
    exact (List.getElem?_eq_some_iff.1 hB).1
  refine ⟨fun j B hj => ?_, fun j k hk => hm.lt _ k (hsub j k hk), fun j k hk => hm.fresh _ k (hsub j k hk), fun j j' k hk hk' => ?_, fun j k hk => ?_, hm.kept⟩
  · obtain ⟨b, i, hbl, hil, rfl, hl, hB⟩ := unf_src h hj
    rw [hl]
    obtain ⟨p1, p2, p3, p4, p5⟩ := hpr b
    have hfb : (∀ x, at2 h b ≠ some (.inr (.inr (.inr x)))) → (pr b).2 0 = ft b := fun hn => funext fun k => propext ⟨fun hk => (p2 k).2 ⟨0, hk⟩, fun hk => by
      obtain ⟨i, hi⟩ := (p2 k).1 hk
      rw [p5 hn i k hi] at hi
      exact hi⟩
    cases hx : at2 h b with
    | none =>
      rw [hx] at hil hB
      simp only [width] at hil
      obtain rfl : i = 0 := by omega
      simp [unfB] at hB
    | some X =>
      have hX := at2_some hx
      obtain ⟨g1, g2⟩ := hm.at_ b X hX
      rcases X with ⟨t, cs⟩ | ⟨t, r⟩ | r | x
      · rw [hx] at hil hB
        simp only [width] at hil
        obtain rfl : i = 0 := by omega
        simp only [unfB, List.getElem?_cons_zero, Option.some.injEq] at hB
        subst hB
        simp only [hfb (fun x e => by rw [hx] at e; cases e)]
        obtain ⟨q1, q2, q3⟩ := g1
        simp only [inside] at g2
        refine ⟨?_, ?_⟩
        · simp only [hold, hl, p1]
          refine ⟨q1, q2, ?_⟩
          have e : (mvL (off L h) cs).map (ren (fun j => (pr (loc L h j).1).1 (loc L h j).2)) = cs.map (ren ρ) := by
            rw [map_ren_mv, ← renL_eq, ← renL_eq]
            exact renL_congr (n := h.length) (fun b hb => hρ b hb) cs g2
          rw [e]
          exact q3
        · simp only [inside]
          refine inbL_mv (n := h.length) (fun b hb => ?_) cs g2
          have := off_lt (L := L) h (b := b) (i := 0) hb (width_pos _)
          simpa using this
      · rw [hx] at hil hB
        simp only [width] at hil
        obtain rfl : i = 0 := by omega
        simp only [unfB, List.getElem?_cons_zero, Option.some.injEq] at hB
        subst hB
        simp only [hfb (fun x e => by rw [hx] at e; cases e)]
        simp only [hold, hl, p1] at g1 ⊢
        exact ⟨g1, trivial⟩
      · rw [hx] at hil hB
        simp only [width] at hil
        obtain rfl : i = 0 := by omega
        simp only [unfB, List.getElem?_cons_zero, Option.some.injEq] at hB
        subst hB
        simp only [hfb (fun x e => by rw [hx] at e; cases e)]
        simp only [hold, hl, p1] at g1 ⊢
        exact ⟨g1, trivial⟩
      · rw [hx] at hil hB
        simp only [width] at hil
        simp only [unfB] at hB
        rw [newHp_get.2] at hB
        cases hY : (L.lay x)[i]? with
        | none => rw [hY] at hB; cases hB
        | some Y =>
          rw [hY] at hB
          simp only [Option.map_some, Option.some.injEq] at hB
          obtain ⟨Y, rfl, rfl⟩ := mvO_some hB
          have h3 := p4 x hx
          obtain ⟨q1, q2⟩ := h3.at_ i Y hY
          have hnv := L.own x i Y hY
          have q3 : hold D0 C (pr b).1 i ((pr b).2 i) w Y := hold_ctx hnv q1
          have hρ2 : ∀ i', i' < (L.lay x).length → (pr (loc L h (i' + off L h b)).1).1 (loc L h (i' + off L h b)).2 = (pr b).1 i' := fun i' hi' => by
            rw [Nat.add_comm i' (off L h b), loc_off h b i' hbl (by rw [hx]; exact hi')]
          rcases Y with ⟨t, cs⟩ | ⟨t, r⟩ | r | y
          · obtain ⟨z1, z2, z3⟩ := q3
            simp only [inside] at q2
            refine ⟨?_, ?_⟩
            · simp only [mvSB, hold, hl]
              refine ⟨z1, z2, ?_⟩
              have e : (mvL (fun i => i + off L h b) cs).map (ren (fun j => (pr (loc L h j).1).1 (loc L h j).2)) = cs.map (ren (pr b).1) := by
                rw [map_ren_mv, ← renL_eq, ← renL_eq]
                exact renL_congr (n := (L.lay x).length) (fun i' hi' => hρ2 i' hi') cs q2
              rw [e]
              exact z3
            · simp only [mvSB, inside]
              refine inbL_mv (n := (L.lay x).length) (fun i' hi' => ?_) cs q2
              have := off_lt (L := L) h (b := b) (i := i') hbl (by rw [hx]; exact hi')
              omega
          · simp only [mvSB, hold, hl] at q3 ⊢; exact ⟨q3, trivial⟩
          · simp [isView] at hnv
          · simp only [mvSB, hold, hl] at q3 ⊢; exact ⟨q3, trivial⟩
  · have e1 := hm.apart _ _ k (hsub j k hk) (hsub j' k hk')
    have hbl := hb _ k (hsub j k hk)
    have hbl' := hb _ k (hsub j' k hk')
    have o1 := off_loc h j hbl
    have o2 := off_loc h j' hbl'
    obtain ⟨p1, p2, p3, p4, p5⟩ := hpr (loc L h j).1
    have e2 : (loc L h j).2 = (loc L h j').2 := by
      rw [← e1] at hk'
      by_cases hx : ∃ x, at2 h (loc L h j).1 = some (.inr (.inr (.inr x)))
      · obtain ⟨x, hx⟩ := hx
        exact (p4 x hx).apart _ _ k hk hk'
      · have hn : ∀ x, at2 h (loc L h j).1 ≠ some (.inr (.inr (.inr x))) := fun x e => hx ⟨x, e⟩
        rw [p5 hn _ k hk, p5 hn _ k hk']
    rw [← o1.1, ← o2.1, e1, e2]
  · have hft := hsub j k hk
    have hbl := hb _ k hft
    obtain ⟨o1, o2⟩ := off_loc h j hbl
    have hg := unfGo_get (L := L) (off L h) h 0 _ _ hbl o2
    rw [Nat.zero_add, o1] at hg
    show ∃ B, (unfGo L (off L h) 0 h)[j]? = some (some B)
    rw [hg]
    obtain ⟨X, hX⟩ := hm.some_ _ k hft
    obtain ⟨p1, p2, p3, p4, p5⟩ := hpr (loc L h j).1
    rw [at2_of hX] at o2 ⊢
    rcases X with ⟨t, cs⟩ | tr | r | x
    · have : (loc L h j).2 = 0 := by simp only [width] at o2; omega
      rw [this]; exact ⟨_, rfl⟩
    · have : (loc L h j).2 = 0 := by simp only [width] at o2; omega
      rw [this]; exact ⟨_, rfl⟩
    · have : (loc L h j).2 = 0 := by simp only [width] at o2; omega
      rw [this]; exact ⟨_, rfl⟩
    · obtain ⟨B, hB⟩ := (p4 x (at2_of hX)).some_ _ k hk
      simp only [unfB]
      rw [newHp_get.2, hB]
      exact ⟨_, rfl⟩
/-- and back -/
theorem HM.close_ (hm : HM D0 C ρ ft (unf L h) w) (hin : hpIn h.length h = true) :
    HM (resOf D0 L) C (fun b => ρ (off L h b)) (fun b k => b < h.length ∧ ∃ i, i < width L (at2 h b) ∧ ft (off L h b + i) k) h w := by
  have hunf : ∀ b i, b < h.length → i < width L (at2 h b) → (unf L h)[off L h b + i]? = (unfB L (off L h) (off L h b) (at2 h b))[i]? := fun b i hb hi => by
    have := unfGo_get (L := L) (off L h) h 0 b i hb hi
    rw [Nat.zero_add] at this
    exact this
  refine ⟨fun b B hB => ⟨?_, hpIn_get hin hB⟩, fun b k hk => ?_, fun b k hk => ?_, fun b b' k hk hk' => ?_, fun b k hk => ?_, hm.kept⟩
  · have hbl : b < h.length := (List.getElem?_eq_some_iff.1 hB).1
    have hx := at2_of hB
    have hbase : width L (at2 h b) = 1 → (fun k => b < h.length ∧ ∃ i, i < width L (at2 h b) ∧ ft (off L h b + i) k) = ft (off L h b) := fun hw => funext fun k => propext ⟨fun ⟨_, i, hi, hk⟩ => by
      obtain rfl : i = 0 := by omega
      exact hk, fun hk => ⟨hbl, 0, by omega, hk⟩⟩
    have h0 := hunf b 0 hbl (width_pos _)
    rw [Nat.add_zero] at h0
    rcases B with ⟨t, cs⟩ | ⟨t, r⟩ | r | x
    · rw [hbase (by rw [hx]; rfl)]
      rw [hx] at h0
      obtain ⟨g1, g2⟩ := hm.at_ _ _ h0
      obtain ⟨q1, q2, q3⟩ := g1
      refine ⟨q1, q2, ?_⟩
      rw [map_ren_mv] at q3
      exact q3
    · rw [hbase (by rw [hx]; rfl)]
      rw [hx] at h0
      exact (hm.at_ _ _ h0).1
    · rw [hbase (by rw [hx]; rfl)]
      rw [hx] at h0
      exact (hm.at_ _ _ h0).1
    · refine ⟨fun i => ρ (off L h b + i), fun i k => i < (L.lay x).length ∧ ft (off L h b + i) k, rfl, fun k => ⟨fun ⟨_, i, hi, hk⟩ => ⟨i, by rw [hx] at hi; exact hi, hk⟩, fun ⟨i, hi, hk⟩ => ⟨hbl, i, by rw [hx]; exact hi, hk⟩⟩, ?_⟩
      have hget : ∀ i Y, (L.lay x)[i]? = some (some Y) → (unf L h)[off L h b + i]? = some (some (mvSB (fun i => i + off L h b) Y)) := fun i Y hY => by
        have hil := (List.getElem?_eq_some_iff.1 hY).1
        rw [hunf b i hbl (by rw [hx]; exact hil), hx]
        simp only [unfB]
        rw [newHp_get.2, hY]
        rfl
      refine ⟨fun i Y hY => ?_, fun i k hk => hm.lt _ k hk.2, fun i k hk => Or.inl ⟨hbl, i, by rw [hx]; exact hk.1, hk.2⟩, fun i j k hi hj => ?_, fun i k hk => ?_, Kept.refl _ _⟩
      · have hil := (List.getElem?_eq_some_iff.1 hY).1
        obtain ⟨g1, g2⟩ := hm.at_ _ _ (hget i Y hY)
        have hins := hpIn_get (L.ins x) hY
        have := hold_like g1 (like_mv (ρn := fun i => ρ (off L h b + i)) (fun i => by rw [Nat.add_comm i]) hins) (b := i) rfl
        have e : (fun k => i < (L.lay x).length ∧ ft (off L h b + i) k) = ft (off L h b + i) := funext fun k => propext ⟨fun h => h.2, fun h => ⟨hil, h⟩⟩
        rw [e]
        exact ⟨hold_ctx (L.own x i Y hY) this.1, this.2⟩
      · have := hm.apart _ _ k hi.2 hj.2
        omega
      · obtain ⟨Z, hZ⟩ := hm.some_ _ k hk.2
        rw [hunf b i hbl (by rw [hx]; exact hk.1), hx] at hZ
        simp only [unfB] at hZ
        rw [newHp_get.2] at hZ
        cases hY : (L.lay x)[i]? with
        | none => rw [hY] at hZ; cases hZ
        | some Y =>
          rw [hY] at hZ
          simp only [Option.map_some, Option.some.injEq] at hZ
          obtain ⟨Y, rfl, _⟩ := mvO_some hZ
          exact ⟨Y, rfl⟩
  · obtain ⟨_, i, _, hk⟩ := hk
    exact hm.lt _ k hk
  · obtain ⟨_, i, _, hk⟩ := hk
    exact hm.fresh _ k hk
  · obtain ⟨hb, i, hi, hk⟩ := hk
    obtain ⟨hb', i', hi', hk'⟩ := hk'
    have e := hm.apart _ _ k hk hk'
    rcases Nat.lt_trichotomy b b' with hlt | he | hlt
    · have := off_mono (L := L) h b b' hlt hb; omega
    · exact he
    · have := off_mono (L := L) h b' b hlt hb'; omega
  · obtain ⟨hb, i, hi, hk⟩ := hk
    obtain ⟨Z, hZ⟩ := hm.some_ _ k hk
    rw [hunf b i hb hi] at hZ
    cases hx : at2 h b with
    | none =>
      rw [hx] at hZ hi
      simp only [width] at hi
      obtain rfl : i = 0 := by omega
      simp [unfB] at hZ
    | some X => exact ⟨X, at2_some hx⟩
/-- a run's end is as the contract says, whose things stand for blocks -/
structure EndsU (L : Lay R R0) (hh : Hp R) (x : Out R) (v : Value) (hp : Hp R0) : Prop where
  ex : ∃ s : List Nat, v = dnV hp.length (mvV (nth s) (mvV (off L x.hp) x.v)) ∧ inb hp.length v = true ∧ Pulls hp.length (nth s) hp 0 (unf L x.hp) ∧ nodupB (hits hp.length (nth s) 0 (unf L x.hp)) = true ∧ Nat.ble (unf L hh).length hp.length = true ∧ allLt (fun b => Nat.beq (nth s (off L x.hp b)) (off L hh b)) hh.length = true ∧
    hpIn (unf L x.hp).length (unf L x.hp) = true ∧ hpIn x.hp.length x.hp = true
/-- a contract on such things, out of a run on what they stand for -/
theorem res_prim {f : FuncId} {fn : Func} {root : Code} {on : List Value → Hp R → Prop} {spec : Prim R} (hf : P.funcs[f]? = some fn) (hb : fn.body = some root) (hname : (fn.name == "runtime.NumGoroutine") = false)
    (H : ∀ args hh x, spec args hh = some x → hh.length ≤ x.hp.length ∧ (∀ b, x.lit = some b → x.v = .bool b) ∧ (x.wr = [] → x.hp = hh) ∧
      (on args hh → x.vc → At D0 P root (unf L hh).length (retK P fn.results.toList (EndsU L hh x)) [.inl []] ⟨someL (mvL (off L hh) args) ++ List.replicate (fn.ntmps - args.length) none, [], unf L hh⟩)) : PrimOk (resOf D0 L) P f on spec where
  known := ⟨fn, hf, hname, by rw [hb]; rfl⟩
  run args hh x hon hx C ρ ft w hm hv hi := by
    obtain ⟨_, _, _, h4⟩ := H args hh x hx
    obtain ⟨ρ1, ft1, o1, o2⟩ := hm.open_
    have hargs : args.map (ren ρ) = (mvL (off L hh) args).map (ren ρ1) := by
      rw [map_ren_mv, ← renL_eq, ← renL_eq]
      exact (renL_congr (n := hh.length) (fun b hb => o1 b hb) args hi).symm
    have hlen : (mvL (off L hh) args).length = args.length := by
      have : ∀ l : List Value, (mvL (off L hh) l).length = l.length := fun l => by
        induction l with
        | nil => simp [mvL]
        | cons v l ih => simp [mvL, ih]
      exact this args
    rw [hargs]
    have hin : inbL (unf L hh).length (mvL (off L hh) args) = true := inbL_mv (n := hh.length) (fun b hb => by
      have := off_lt (L := L) hh (b := b) (i := 0) hb (width_pos _)
      simpa using this) args hi
    have h5 := h4 hon hv
    rw [← hlen] at h5
    refine (calls_At hf hb h5 o2 hin).mono fun e w' ⟨ρ', ft', v, hp', g1, g2, g3, g4⟩ => ?_
    obtain ⟨s, e1, e1', e2, e3, e3', e4, e5, e6⟩ := g3.ex
    have hren := g4.pulled e2 e3 e5
    refine ⟨_, _, fun b hb => ?_, ?_, hren.close_ e6⟩
    · show plusE ρ' hp'.length (nth s (off L x.hp b)) = ρ b
      have h6 : off L hh b < (unf L hh).length := by
        have := off_lt (L := L) hh (b := b) (i := 0) hb (width_pos _)
        simpa using this
      have := allLt_get e4 hb
      have h7 := Nat.le_of_ble_eq_true e3'
      rw [Nat.eq_of_beq_eq_true this, plus_lt (by omega), g1 _ h6, o1 b hb]
    · rw [g2]
      rw [e1] at e1' ⊢
      rw [ren_dn _ e1', ren_mv, ren_mv]
  len args hh x hx := (H args hh x hx).1
  lit args hh x hx := (H args hh x hx).2.1
  still args hh x hx := (H args hh x hx).2.2.1
/-- the cells of a thing's first block, to be read -/
def rdCon (L : Lay R R0) : Con R := con1 fun args hh =>
  match args, hh with
  | [.pointer (some ⟨0, e, none⟩)], [some (.inr (.inr (.inr X)))] =>
    match L.lay X with
    | some (.inl (_, cs)) :: _ => match cs[e]? with
      | some v => if flat v then some ⟨True, v, none, hh, [], []⟩ else none
      | none => none
    | _ => none
  | _, _ => none
theorem rdCon_ok : RdOk (resOf D0 L) (rdCon L) := by
  intro e X x p F w hx ⟨ρl, ftl, h1, h2, h3⟩
  simp only [rdCon, con1] at hx
  split at hx
  · rename_i t cs tl hl
    split at hx
    · rename_i v hv
      split at hx
      · rename_i hf
        injection hx with hx
        subst hx
        have h4 := cells_reads h3 (i := 0) (t := t) (cs := cs) (by rw [hl]; rfl) e
        rw [hv, h1] at h4
        exact ⟨hf, by rw [h4]; simp [flat_ren _ hf]⟩
      · cases hx
    · cases hx
  · cases hx
end
end Go.Proofs.Ytloibbakklenbaa.Rx
