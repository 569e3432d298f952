/- Symbolic runs: a contract on a few blocks serves on any heap. Nothing of the program. -/
import Derived.Test.YtloibbakklenbaaRxPrim
namespace Go.Proofs.Ytloibbakklenbaa.Rx
open Go.RowKit Go.Proofs.Ytloibbakklenbaa.State
set_option linter.unusedVariables false
set_option linter.unusedSimpArgs false
section
variable {R : Type} {D : Res R} {P : Program} {T : Tab R}
/-- what a lifted contract yields -/
theorem liftP_out {z : Nat → Bool} {d : Nat} {spec : Prim R} {args : List Value} {h : Hp R} {y : Out R} (hy : liftP z d spec args h = some y) :
    ∃ s x, s = nub (reach h d (blksL args)) [] ∧ onL (mem s) args = true ∧ selOk s h s = true ∧ nodupB s = true ∧ spec (mvL (pos s) args) (locHp z (pos s) h 0 s) = some x ∧ backOk (locHp z (pos s) h 0 s) x.hp = true ∧ inb x.hp.length x.v = true ∧
      y = ⟨x.vc, mvV (outOf s h.length) x.v, x.lit, backHp s (outOf s h.length) (locHp z (pos s) h 0 s) x.hp 0 h ++ newHp (outOf s h.length) (x.hp.drop s.length), [], match x.wr with
        | [] => []
        | _ => [(0, 0)]⟩ := by
  simp only [liftP, fNs_eq, fHp_eq] at hy
  split at hy
  · rename_i hc
    simp only [Bool.and_eq_true] at hc
    split at hy
    · rename_i x hx
      split at hy
      · rename_i hb
        simp only [Bool.and_eq_true] at hb
        injection hy with hy
        exact ⟨_, x, rfl, hc.1.1, hc.1.2, hc.2, hx, hb.1, hb.2, hy.symm⟩
      · cases hy
    · cases hy
  · cases hy
theorem outOf_lt {s : List Nat} {n i : Nat} (h : i < s.length) : outOf s n i = nth s i := by
  unfold outOf; rw [blt_iff.2 h]; rfl
theorem outOf_ge {s : List Nat} {n i : Nat} (h : ¬ i < s.length) : outOf s n i = n + (i - s.length) := by
  unfold outOf
  split
  · rename_i hb; exact absurd (blt_iff.1 hb) h
  · rfl
theorem mvO_some {f : Nat → Nat} {x : Option (SB R)} {X : SB R} (h : mvO f x = some X) : ∃ Y, x = some Y ∧ X = mvSB f Y := by
  cases x with
  | none => cases h
  | some Y => injection h with h; exact ⟨Y, rfl, h.symm⟩
theorem mvSB_view {f : Nat → Nat} {B : SB R} : isView (mvSB f B) = isView B := by
  rcases B with ⟨t, cs⟩ | B <;> rfl
theorem ownAt_own {h : Hp R} {b : Nat} : ownAt h b = true ↔ Own h b := ownAt_iff
def liftOn (z : Nat → Bool) (d : Nat) (on : List Value → Hp R → Prop) (args : List Value) (h : Hp R) : Prop :=
  on (mvL (pos (nub (reach h d (blksL args)) [])) args) (locHp z (pos (nub (reach h d (blksL args)) [])) h 0 (nub (reach h d (blksL args)) []))
theorem liftP_ok {f : FuncId} {on : List Value → Hp R → Prop} {spec : Prim R} (z : Nat → Bool) (d : Nat) (ok : PrimOk D P f on spec) : PrimOk D P f (liftOn z d on) (liftP z d spec) where
  known := ok.known
  len args h y hy := by
    obtain ⟨s, x, _, _, _, _, _, _, _, rfl⟩ := liftP_out hy
    simp only [List.length_append]
    have := (backHp_get (s := s) (f := outOf s h.length) (hl := locHp z (pos s) h 0 s) (hx := x.hp) (h := h) (b0 := 0) (b := 0)).1
    omega
  lit args h y hy b hb := by
    obtain ⟨s, x, _, _, _, _, hx, _, _, rfl⟩ := liftP_out hy
    have := ok.lit _ _ _ hx b hb
    simp only [this, mvV]
  still args h y hy hw := by
    obtain ⟨s, x, hs0, h1, h2, h3, hx, h5, h6, rfl⟩ := liftP_out hy
    have hw' : x.wr = [] := by
      simp only at hw
      split at hw
      · assumption
      · cases hw
    have he := ok.still _ _ _ hx hw'
    simp only [he]
    have hl0 : (locHp z (pos s) h 0 s).length = s.length := (locHp_get (i0 := 0) (i := 0)).1
    have hd : (locHp z (pos s) h 0 s).drop s.length = [] := by rw [List.drop_eq_nil_iff]; omega
    rw [hd]
    simp only [newHp, List.append_nil]
    apply List.ext_getElem?
    intro b
    rcases Nat.lt_or_ge b h.length with hlt | hge
    · rw [(backHp_get (b0 := 0) (b := b)).2 hlt, Nat.zero_add]
      split
      · rename_i hc
        simp only [Bool.and_eq_true] at hc
        have hm := mem_iff.1 hc.1
        obtain ⟨p1, p2⟩ := pos_nth hm
        obtain ⟨X, hX, hv⟩ := ownAt_iff.1 hc.2
        have hg := (locHp_get (z := z) (u := pos s) (h := h) (l := s) (i0 := 0) (i := pos s b)).2 p2
        rw [hX, p1] at hg
        injection hg with hg
        cases hb : at2 h b with
        | none => rw [hb] at hg; cases hg
        | some B =>
          rw [hb] at hg
          simp only at hg
          injection hg with hg
          rw [at2_of hX, at2_get hlt, hb, hg]
          simp only [mvO]
          have hfr : frzSB (z (0 + pos s b)) B = B := by
            rcases B with ⟨t, cs⟩ | ⟨t, r⟩ | r | q
            · rfl
            · cases hz : z (0 + pos s b) with
              | false => rfl
              | true =>
                rw [hz] at hg
                rw [hg] at hv
                simp [frzSB, mvSB, isView] at hv
            · rfl
            · rfl
          rw [hfr]
          congr 2
          rcases B with ⟨t, cs⟩ | B
          · simp only [mvSB]
            rw [mvL_mvL, mvL_id (p := mem s)]
            · intro i hi
              obtain ⟨q1, q2⟩ := pos_nth (mem_iff.1 hi)
              rw [outOf_lt q2, q1]
            · exact (selOk_get h2 hm).2 t cs hb
          · rfl
      · rw [at2_get hlt]
    · rw [List.getElem?_eq_none hge, List.getElem?_eq_none (by rw [(backHp_get (b0 := 0) (b := 0)).1]; exact hge)]
  run args h y hon hy C ρ ft w hm hvc hin := by
    obtain ⟨s, x, hs0, h1, h2, h3, hx, h5, h6, rfl⟩ := liftP_out hy
    simp only at hvc ⊢
    unfold liftOn at hon
    rw [← hs0] at hon
    have hl0 : (locHp z (pos s) h 0 s).length = s.length := (locHp_get (i0 := 0) (i := 0)).1
    have hxl : s.length ≤ x.hp.length := by rw [← hl0]; exact (backOk_get (b := 0) (X := .inl (0, [])) h5).1
    have hslt : ∀ b, b ∈ s → b < h.length := fun b hb => (selOk_get h2 hb).1
    -- what is seen, under the numbers of the whole
    let hr : Hp R := (List.range h.length).map fun b => if mem s b then (match at2 h b with
      | some B => some (frzSB (z (pos s b)) B)
      | none => none) else none
    have hrl : hr.length = h.length := by simp [hr]
    have hr_get : ∀ (b : Nat) (X : SB R), hr[b]? = some (some X) → b ∈ s ∧ ∃ B, at2 h b = some B ∧ X = frzSB (z (pos s b)) B := by
      intro b X hX
      have hlt : b < h.length := by
        have := (List.getElem?_eq_some_iff.1 hX).1
        omega
      simp only [hr, List.getElem?_map, List.getElem?_range hlt, Option.map_some] at hX
      split at hX
      · rename_i hms
        refine ⟨mem_iff.1 hms, ?_⟩
        cases hb : at2 h b with
        | none => rw [hb] at hX; simp at hX
        | some B => rw [hb] at hX; simp at hX; exact ⟨B, rfl, hX.symm⟩
      · simp at hX
    have hr_of : ∀ (b : Nat) (B : SB R), b ∈ s → at2 h b = some B → hr[b]? = some (some (frzSB (z (pos s b)) B)) := by
      intro b B hb hB
      simp only [hr, List.getElem?_map, List.getElem?_range (hslt b hb), Option.map_some, mem_iff.2 hb, if_true, hB]
    have hsub : Sub hr h := by
      intro b X hX
      obtain ⟨_, B, hB, rfl⟩ := hr_get b X hX
      have hB' := at2_some hB
      rcases B with ⟨t, cs⟩ | ⟨t, r⟩ | r | q
      · exact Or.inl hB'
      · cases hz : z (pos s b) with
        | false => exact Or.inl hB'
        | true => exact Or.inr ⟨t, r, rfl, hB'⟩
      · exact Or.inl hB'
      · exact Or.inl hB'
    have hlend := hm.lend hsub hrl 0
    -- and under numbers of its own
    have hpn : ∀ i, i < s.length → pos s (nth s i) = i := fun i hi => nth_pos h3 hi
    have hloc : HM D (lentC w hr ft ρ 0) (fun i => ρ (nth s i)) (fun b k => (∃ X, (locHp z (pos s) h 0 s)[b]? = some (some X)) ∧ (Own hr (nth s b) ∧ ft (nth s b) k)) (locHp z (pos s) h 0 s) w := by
      refine hlend.rename (nth s) (fun i X hX => Or.inl ⟨rfl, ?_⟩) fun i j X Y _ hX hY he => ?_
      · have hi : i < s.length := by have := (List.getElem?_eq_some_iff.1 hX).1; omega
        have hg := (locHp_get (z := z) (u := pos s) (h := h) (l := s) (i0 := 0) (i := i)).2 hi
        rw [hX, Nat.zero_add] at hg
        injection hg with hg
        cases hb : at2 h (nth s i) with
        | none => rw [hb] at hg; cases hg
        | some B =>
          rw [hb] at hg
          simp only at hg
          injection hg with hg
          have hq := hr_of (nth s i) B (nth_mem hi) hb
          rw [hpn i hi] at hq
          refine ⟨_, hq, ?_⟩
          rw [hg]
          rcases B with ⟨t, cs⟩ | B
          · have hon' := (selOk_get h2 (nth_mem hi)).2 t cs hb
            refine ⟨rfl, ?_, ?_⟩
            · rw [map_ren_mv, ← renL_eq, ← renL_eq]
              refine renL_on (p := mem s) (fun b hb => ?_) cs hon'
              rw [(pos_nth (mem_iff.1 hb)).1]
            · rw [hl0]
              refine onL_inb _ (onL_mv (p := mem s) (q := fun i => Nat.blt i s.length) (fun b hb => blt_iff.2 (pos_nth (mem_iff.1 hb)).2) cs hon')
          · rcases B with ⟨t, r⟩ | r | q
            · cases hz : z i
              · exact ⟨rfl, Or.inl rfl⟩
              · rfl
            · rfl
            · rfl
      · have hi : i < s.length := by have := (List.getElem?_eq_some_iff.1 hX).1; omega
        have hj : j < s.length := by have := (List.getElem?_eq_some_iff.1 hY).1; omega
        rw [← hpn i hi, he, hpn j hj]
    have hargs : args.map (ren ρ) = (mvL (pos s) args).map (ren (fun i => ρ (nth s i))) := by
      rw [map_ren_mv, ← renL_eq, ← renL_eq]
      refine renL_on (p := mem s) (fun b hb => ?_) args h1
      rw [(pos_nth (mem_iff.1 hb)).1]
    rw [hargs]
    have hain : inbL (locHp z (pos s) h 0 s).length (mvL (pos s) args) = true := by
      rw [hl0]
      exact onL_inb _ (onL_mv (p := mem s) (q := fun i => Nat.blt i s.length) (fun b hb => blt_iff.2 (pos_nth (mem_iff.1 hb)).2) args h1)
    refine (ok.run _ _ _ hon hx _ _ _ w hloc hvc hain).mono fun e w' ⟨ρ', ft', g1, g2, g3⟩ => ?_
    rw [hl0] at g1
    -- back
    let tB : Nat → Nat := fun b => if mem s b then pos s b else s.length + (b - h.length)
    let ρ2 : Env := fun b => if b < h.length then ρ b else ρ' (s.length + (b - h.length))
    let hx2 : Hp R := (List.range (h.length + (x.hp.length - s.length))).map fun b => if b < h.length then (if mem s b then mvO (outOf s h.length) (at2 x.hp (pos s b)) else none) else mvO (outOf s h.length) (at2 x.hp (s.length + (b - h.length)))
    have hx2l : hx2.length = h.length + (x.hp.length - s.length) := by simp [hx2]
    have hx2_get : ∀ (b : Nat), b < h.length + (x.hp.length - s.length) → hx2[b]? = some (if b < h.length then (if mem s b then mvO (outOf s h.length) (at2 x.hp (pos s b)) else none) else mvO (outOf s h.length) (at2 x.hp (s.length + (b - h.length)))) := fun b hb => by
      simp only [hx2, List.getElem?_map, List.getElem?_range hb, Option.map_some]
    have hx2_src : ∀ (b : Nat) (X : SB R), hx2[b]? = some (some X) → ∃ Y, x.hp[tB b]? = some (some Y) ∧ X = mvSB (outOf s h.length) Y ∧ ρ2 b = ρ' (tB b) ∧ (b < h.length → b ∈ s) ∧ (h.length ≤ b → ¬ b ∈ s) := by
      intro b X hX
      have hlt : b < h.length + (x.hp.length - s.length) := by
        have := (List.getElem?_eq_some_iff.1 hX).1
        omega
      rw [hx2_get b hlt] at hX
      injection hX with hX
      split at hX
      · rename_i hb
        split at hX
        · rename_i hms
          obtain ⟨Y, hY, rfl⟩ := mvO_some hX
          obtain ⟨p1, p2⟩ := pos_nth (mem_iff.1 hms)
          refine ⟨Y, ?_, rfl, ?_, fun _ => mem_iff.1 hms, fun hge => by omega⟩
          · simp only [tB, hms, if_true]; exact at2_some hY
          · simp only [tB, hms, if_true, ρ2, hb]
            rw [g1 _ p2, p1]
        · cases hX
      · rename_i hb
        obtain ⟨Y, hY, rfl⟩ := mvO_some hX
        have hns : ¬ b ∈ s := fun hh => hb (hslt b hh)
        have hms : mem s b = false := by
          cases hh : mem s b with
          | false => rfl
          | true => exact absurd (mem_iff.1 hh) hns
        refine ⟨Y, ?_, rfl, ?_, fun hlt => absurd hlt hb, fun _ => hns⟩
        · simp only [tB, hms, Bool.false_eq_true, if_false]; exact at2_some hY
        · simp only [tB, hms, Bool.false_eq_true, if_false, ρ2, hb]
    have hout : ∀ i, i < x.hp.length → ρ2 (outOf s h.length i) = ρ' i ∧ outOf s h.length i < h.length + (x.hp.length - s.length) := by
      intro i hi
      by_cases hs : i < s.length
      · rw [outOf_lt hs]
        have := hslt _ (nth_mem hs)
        refine ⟨?_, by omega⟩
        simp only [ρ2, this, if_true]
        exact (g1 i hs).symm
      · rw [outOf_ge hs]
        refine ⟨?_, by omega⟩
        simp only [ρ2]
        rw [if_neg (by omega)]
        congr 1
        omega
    have hback : HM D (lentC w hr ft ρ 0) ρ2 (fun b k => (∃ X, hx2[b]? = some (some X)) ∧ ft' (tB b) k) hx2 w' := by
      refine g3.rename tB (fun b X hX => Or.inl ?_) fun b b' X X' _ hX hX' he => ?_
      · obtain ⟨Y, hY, rfl, hρ, _⟩ := hx2_src b X hX
        refine ⟨hρ, Y, hY, ?_⟩
        rcases Y with ⟨t, cs⟩ | Y
        · have hcs := (g3.at_ _ _ hY).2
          simp only [inside] at hcs
          refine ⟨rfl, ?_, ?_⟩
          · rw [map_ren_mv, ← renL_eq, ← renL_eq]
            exact renL_congr (n := x.hp.length) (fun i hi => (hout i hi).1) cs hcs
          · rw [hx2l]
            exact inbL_mv (n := x.hp.length) (fun i hi => (hout i hi).2) cs hcs
        · exact LikeI.refl Y
      · obtain ⟨_, _, _, _, a1, a2⟩ := hx2_src b X hX
        obtain ⟨_, _, _, _, b1, b2⟩ := hx2_src b' X' hX'
        simp only [tB] at he
        rcases Nat.lt_or_ge b h.length with c1 | c1 <;> rcases Nat.lt_or_ge b' h.length with c2 | c2
        · rw [mem_iff.2 (a1 c1), mem_iff.2 (b1 c2)] at he
          simp only [if_true] at he
          rw [← (pos_nth (a1 c1)).1, he, (pos_nth (b1 c2)).1]
        · have := (pos_nth (a1 c1)).2
          have hms : mem s b' = false := by
            cases hh : mem s b' with
            | false => rfl
            | true => exact absurd (mem_iff.1 hh) (b2 c2)
          rw [mem_iff.2 (a1 c1), hms] at he
          simp at he
          omega
        · have := (pos_nth (b1 c2)).2
          have hms : mem s b = false := by
            cases hh : mem s b with
            | false => rfl
            | true => exact absurd (mem_iff.1 hh) (a2 c1)
          rw [mem_iff.2 (b1 c2), hms] at he
          simp at he
          omega
        · have hms : mem s b = false := by
            cases hh : mem s b with
            | false => rfl
            | true => exact absurd (mem_iff.1 hh) (a2 c1)
          have hms' : mem s b' = false := by
            cases hh : mem s b' with
            | false => rfl
            | true => exact absurd (mem_iff.1 hh) (b2 c2)
          rw [hms, hms'] at he
          simp at he
          omega
    have hbk := fun b X => backOk_get (b := b) (X := X) h5
    -- what the caller's heap holds then
    have hown : ∀ b, Own hr b ↔ (b ∈ s ∧ ownAt (locHp z (pos s) h 0 s) (pos s b) = true) := by
      intro b
      constructor
      · intro ⟨X, hX, hv⟩
        obtain ⟨hb, B, hB, rfl⟩ := hr_get b X hX
        refine ⟨hb, ownAt_iff.2 ?_⟩
        obtain ⟨p1, p2⟩ := pos_nth hb
        have hg := (locHp_get (z := z) (u := pos s) (h := h) (l := s) (i0 := 0) (i := pos s b)).2 p2
        rw [p1, hB, Nat.zero_add] at hg
        exact ⟨_, hg, by rw [mvSB_view]; exact hv⟩
      · intro ⟨hb, hh⟩
        obtain ⟨X, hX, hv⟩ := ownAt_iff.1 hh
        obtain ⟨p1, p2⟩ := pos_nth hb
        have hg := (locHp_get (z := z) (u := pos s) (h := h) (l := s) (i0 := 0) (i := pos s b)).2 p2
        rw [hX, p1, Nat.zero_add] at hg
        injection hg with hg
        cases hB : at2 h b with
        | none => rw [hB] at hg; cases hg
        | some B =>
          rw [hB] at hg
          simp only at hg
          injection hg with hg
          refine ⟨_, hr_of b B hb hB, ?_⟩
          rw [hg, mvSB_view] at hv
          exact hv
    have hregain := hm.regain hsub hrl (n := 0) (h' := backHp s (outOf s h.length) (locHp z (pos s) h 0 s) x.hp 0 h ++ newHp (outOf s h.length) (x.hp.drop s.length)) hback
      (fun b hb => by simp only [ρ2, hb, if_true]) (by rw [hx2l]; omega) ?_ ?_ ?_ ?_
    · refine ⟨ρ2, _, fun i hi => by simp only [ρ2, hi, if_true], ?_, hregain⟩
      rw [g2, ren_mv, ren_congr (n := x.hp.length) (fun i hi => (hout i hi).1) x.v h6]
    · intro b X hX
      obtain ⟨Y, hY, rfl, _, a1, a2⟩ := hx2_src b X hX
      rw [mvSB_view]
      rcases ((hbk _ Y).2 hY).2 with h7 | ⟨Z, hZ, hv⟩
      · exact Or.inl h7
      · right
        rcases Nat.lt_or_ge b h.length with c1 | c1
        · have hb := a1 c1
          obtain ⟨p1, p2⟩ := pos_nth hb
          simp only [tB, mem_iff.2 hb, if_true] at hZ
          have hg := (locHp_get (z := z) (u := pos s) (h := h) (l := s) (i0 := 0) (i := pos s b)).2 p2
          rw [hZ, p1, Nat.zero_add] at hg
          injection hg with hg
          cases hB : at2 h b with
          | none => rw [hB] at hg; cases hg
          | some B =>
            rw [hB] at hg
            simp only at hg
            injection hg with hg
            refine ⟨_, hr_of b B hb hB, ?_⟩
            rw [hg, mvSB_view] at hv
            exact hv
        · have hms : mem s b = false := by
            cases hh : mem s b with
            | false => rfl
            | true => exact absurd (mem_iff.1 hh) (a2 c1)
          simp only [tB, hms, Bool.false_eq_true, if_false] at hZ
          have := (List.getElem?_eq_some_iff.1 hZ).1
          omega
    · rw [List.length_append, (backHp_get (b0 := 0) (b := 0)).1, newHp_get (i := 0) |>.1, hx2l, List.length_drop]
    · intro b hb
      rcases Nat.lt_or_ge b h.length with c1 | c1
      · have ho : Own hr b := hb.elim id fun hge => by omega
        obtain ⟨hbs, hoa⟩ := (hown b).1 ho
        rw [List.getElem?_append_left (by rw [(backHp_get (b0 := 0) (b := 0)).1]; exact c1), (backHp_get (b0 := 0) (b := b)).2 c1, Nat.zero_add, hx2_get b (by omega)]
        rw [mem_iff.2 hbs, hoa]
        simp only [Bool.and_self, if_true, c1]
      · rw [List.getElem?_append_right (by rw [(backHp_get (b0 := 0) (b := 0)).1]; exact c1), (backHp_get (b0 := 0) (b := 0)).1, newHp_get.2, List.getElem?_drop]
        rcases Nat.lt_or_ge b (h.length + (x.hp.length - s.length)) with c2 | c2
        · rw [hx2_get b c2, if_neg (by omega)]
          have : s.length + (b - h.length) < x.hp.length := by omega
          rw [at2_get this]
          rfl
        · rw [List.getElem?_eq_none (by omega), List.getElem?_eq_none (by rw [hx2l]; omega)]
          rfl
    · intro b hb hn
      rw [List.getElem?_append_left (by rw [(backHp_get (b0 := 0) (b := 0)).1]; exact hb), (backHp_get (b0 := 0) (b := b)).2 hb, Nat.zero_add]
      split
      · rename_i hc
        simp only [Bool.and_eq_true] at hc
        exact absurd ((hown b).2 ⟨mem_iff.1 hc.1, hc.2⟩) hn
      · rw [at2_get hb]
theorem liftC_ok {f : FuncId} {c : Con R} (z : Nat → Bool) (d : Nat) (ok : ConOk D P f c) : ConOk D P f (liftC z d c) := by
  intro b
  have := liftP_ok z d (ok b)
  have e : (liftC z d c).go b = liftP z d (c.go b) := by cases b <;> rfl
  rw [e]
  refine ⟨this.known, fun args h x hon => this.run args h x ?_, this.len, this.lit, this.still⟩
  unfold way liftC liftW at hon
  simp only [fNs_eq, fHp_eq] at hon
  exact hon
end
end Go.Proofs.Ytloibbakklenbaa.Rx
