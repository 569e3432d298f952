/- Symbolic runs: regions whose order is open: what the records of a run say. Nothing of the program. -/
import Derived.Test.YtloibbakklenbaaRxDrawA
import Derived.Test.YtloibbakklenbaaRxStill
namespace Go.Proofs.Ytloibbakklenbaa.Rx
open Go.RowKit Go.Proofs.Ytloibbakklenbaa.State
set_option linter.unusedVariables false
set_option linter.unusedSimpArgs false
section
variable {R : Type} {D : Res R} {P : Program} {T : Tab R}
/-- what a record says, with those ahead of it -/
structure RecOk (P : Program) (T : Tab R) (ops : List Oper) (σ0 : SS R) (ahead : List (Rec R)) (i : Nat) (r : Rec R) : Prop where
  o : ops[i]? = some r.o
  pre : preOf ahead r.o.after.toList = some r.pre
  how : (guardSt ahead r.pre r.o.guard = 1 ∧ r.v = undef ∧ r.lit = none ∧ r.hr = [] ∧ r.hx = [] ∧ r.w = false) ∨
    (guardSt ahead r.pre r.o.guard = 0 ∧ ∃ x, (∃ b, goes (forkOf T (seenSt ops σ0 ahead r.pre r.o) r.o) b ∧ sop P T (seenSt ops σ0 ahead r.pre r.o) r.o b = some x) ∧ seenOk σ0 (seenSt ops σ0 ahead r.pre r.o) r.o x = true ∧ x.vc ∧
      r.v = x.v ∧ (∀ b, r.lit = some b → x.lit = some b ∨ x.v = .bool b) ∧ r.hr = (seenSt ops σ0 ahead r.pre r.o).hp ∧ r.hx = x.hp ∧ r.w = !x.wr.isEmpty)
def RecsOk (P : Program) (T : Tab R) (ops : List Oper) (σ0 : SS R) (recs : List (Rec R)) : Prop := ∀ i r, recs[i]? = some r → RecOk P T ops σ0 (recs.take i) i r
theorem RecsOk.add {ops : List Oper} {σ0 : SS R} {recs : List (Rec R)} {r : Rec R} (h : RecsOk P T ops σ0 recs) (hr : RecOk P T ops σ0 recs recs.length r) : RecsOk P T ops σ0 (addRec recs r) := by
  intro i q hq
  unfold addRec at hq ⊢
  rcases Nat.lt_or_ge i recs.length with hlt | hge
  · rw [List.getElem?_append_left hlt] at hq
    rw [List.take_append_of_le_length (by omega)]
    exact h i q hq
  · rw [List.getElem?_append_right hge] at hq
    have : i = recs.length := by
      rcases Nat.lt_or_ge recs.length i with hlt | hle
      · rw [List.getElem?_eq_none (by simp; omega)] at hq; cases hq
      · omega
    subst this
    simp at hq
    subst hq
    rw [List.take_left']
    · exact hr
    · rfl
theorem also_out {e : Bool} {p q : Prop} (h : also e p q) (he : e = true → p) : p ∧ q := by
  cases e with
  | true => exact ⟨he rfl, h⟩
  | false => exact ⟨h.1.out, h.2⟩
theorem drawGo_ok {ops : List Oper} {σ0 : SS R} {asm : List (Nat × Bool)} {k : List (Rec R) → Prop} {fk : Nat → Bool → Prop} : ∀ (l : List Oper) {recs : List (Rec R)}, ops.drop recs.length = l → RecsOk P T ops σ0 recs →
    drawGo P T ops σ0 asm k fk l recs → (∃ recs', recs'.length = ops.length ∧ RecsOk P T ops σ0 recs' ∧ k recs') ∨ ∃ t c, fk t c
  | [], recs, hl, hok, h => by
    rcases Nat.lt_or_ge recs.length ops.length with hlt | hge
    · exact absurd hl (by rw [List.drop_eq_nil_iff]; omega)
    · -- not longer than the operations
      refine Or.inl ⟨recs, ?_, hok, h⟩
      rcases Nat.lt_or_ge ops.length recs.length with hlt | hle
      · have hq : recs[ops.length]? = some (recs[ops.length]) := List.getElem?_eq_getElem hlt
        have := (hok _ _ hq).o
        rw [List.getElem?_eq_none (Nat.le_refl _)] at this
        cases this
      · omega
  | o :: l, recs, hl, hok, h => by
    have ho : ops[recs.length]? = some o := by
      have := congrArg (fun m => m[0]?) hl
      simpa [List.getElem?_drop] using this
    have hnext : ∀ r : Rec R, ops.drop (addRec recs r).length = l := fun r => by
      unfold addRec
      rw [List.length_append, List.length_singleton, ← List.drop_drop, hl]
      rfl
    simp only [drawGo, fNs_eq, fTm_eq, fLi_eq, fHp_eq] at h
    split at h
    · exact h.elim
    · rename_i pre hp
      have hst : (⟨seenTm ops σ0 recs pre o, mkLi ops σ0.li recs pre (tmpsOf o.op.operands.toList), heapOf σ0.hp recs (mem pre) (mem (selOf o (blksL (someV (seenTm ops σ0 recs pre o))) (heapOf σ0.hp recs (mem pre) (fun _ => true) 0 (lenOf (mem pre) recs 0 σ0.hp.length)))) 0 (lenOf (mem pre) recs 0 σ0.hp.length)⟩ : SS R) = seenSt ops σ0 recs pre o := rfl
      have hsh : heapOf σ0.hp recs (mem pre) (mem (selOf o (blksL (someV (seenTm ops σ0 recs pre o))) (heapOf σ0.hp recs (mem pre) (fun _ => true) 0 (lenOf (mem pre) recs 0 σ0.hp.length)))) 0 (lenOf (mem pre) recs 0 σ0.hp.length) = (seenSt ops σ0 recs pre o).hp := rfl
      simp only [hst] at h
      simp only [hsh] at h
      split at h
      · rename_i hg
        have one : ∀ b, goes (forkOf T (seenSt ops σ0 recs pre o) o) b → drawOne P T σ0 asm o pre (seenTm ops σ0 recs pre o) (mkLi ops σ0.li recs pre (tmpsOf o.op.operands.toList)) (seenSt ops σ0 recs pre o).hp (fun r => drawGo P T ops σ0 asm k fk l (addRec recs r)) b →
            (∃ recs', recs'.length = ops.length ∧ RecsOk P T ops σ0 recs' ∧ k recs') ∨ ∃ t c, fk t c := by
          intro way hway h
          simp only [drawOne, fHp_eq, fV_eq, fB_eq] at h
          have hst2 : (⟨seenTm ops σ0 recs pre o, mkLi ops σ0.li recs pre (tmpsOf o.op.operands.toList), (seenSt ops σ0 recs pre o).hp⟩ : SS R) = seenSt ops σ0 recs pre o := rfl
          simp only [hst2] at h
          split at h
          · exact h.elim
          · rename_i x hx
            split at h
            · rename_i hs
              -- what is asked for
              obtain ⟨hvc, h⟩ := also_out h (easy_vc hx)
              split at h
              · rename_i b hb
                exact drawGo_ok l (hnext _) (hok.add ⟨ho, hp, Or.inr ⟨hg, x, ⟨way, hway, hx⟩, hs, hvc, rfl, (fun c hc => Or.inl (by rw [hb]; exact hc)), rfl, rfl, rfl⟩⟩) h
              · rename_i hb
                split at h
                · rename_i b hab
                  exact drawGo_ok l (hnext _) (hok.add ⟨ho, hp, Or.inr ⟨hg, x, ⟨way, hway, hx⟩, hs, hvc, h.1.out.symm, (fun c hc => Or.inr (by injection hc with hc; subst hc; exact h.1.out)), rfl, rfl, rfl⟩⟩) h.2
                · exact drawGo_ok l (hnext _) (hok.add ⟨ho, hp, Or.inr ⟨hg, x, ⟨way, hway, hx⟩, hs, hvc, rfl, (fun c hc => by cases hc), rfl, rfl, rfl⟩⟩) h
            · exact h.elim
        split at h
        · rename_i hf
          exact one true (Or.inl ⟨hf, rfl⟩) h
        · rename_i c hf
          cases c with
          | true => exact one true (Or.inr hf) (h.1 rfl)
          | false => exact one false (Or.inr hf) (h.2 rfl)
      · rename_i hg
        exact drawGo_ok l (hnext _) (hok.add ⟨ho, hp, Or.inl ⟨hg, rfl, rfl, rfl, rfl, rfl⟩⟩) h
      · split at h
        · split at h
          · split at h
            · exact Or.inr ⟨_, _, h⟩
            · exact h.elim
          · exact h.elim
        · exact h.elim
      · exact h.elim
theorem rxDraw_ok {ops : List Oper} {σ0 : SS R} {k : SS R → Prop} : ∀ (n : Nat) {asm : List (Nat × Bool)}, rxDraw P T ops σ0 k n asm →
    ∃ recs, recs.length = ops.length ∧ RecsOk P T ops σ0 recs ∧ allPairs (lenOf (fun _ => true) recs 0 σ0.hp.length) 0 recs = true ∧ k (finSt ops σ0 recs)
  | 0, asm, h => h.elim
  | n + 1, asm, h => by
    simp only [rxDraw, fSS_eq] at h
    rcases drawGo_ok ops (recs := []) rfl (fun i r hr => by simp at hr) h with ⟨recs, h1, h2, h3⟩ | ⟨t, c, h3⟩
    · split at h3
      · exact ⟨recs, h1, h2, by assumption, h3⟩
      · exact h3.elim
    · cases c with
      | true => exact rxDraw_ok n (h3.1 rfl)
      | false => exact rxDraw_ok n (h3.2 rfl)

/-- the records of a region -/
structure Good (P : Program) (T : Tab R) (ops : List Oper) (σ0 : SS R) (recs : List (Rec R)) : Prop where
  len : recs.length = ops.length
  all : RecsOk P T ops σ0 recs
  pairs : allPairs (lenOf (fun _ => true) recs 0 σ0.hp.length) 0 recs = true
variable {ops : List Oper} {σ0 : SS R} {recs : List (Rec R)}
theorem Good.pre_lt (g : Good P T ops σ0 recs) : ∀ (i : Nat) {r : Rec R} {j : Nat}, recs[i]? = some r → j ∈ r.pre → j < i := by
  intro i
  induction i using Nat.strongRecOn with
  | _ i ih =>
    intro r j hr hj
    obtain ⟨_, h2⟩ := preOf_mem (g.all i r hr).pre
    obtain ⟨e, _, _, q, hq, hjq⟩ := h2 j hj
    have hlt : e.on < i := by
      have := (List.getElem?_eq_some_iff.1 hq).1
      rw [List.length_take] at this
      omega
    rcases hjq with rfl | hjq
    · exact hlt
    · have := ih e.on hlt (r := q) (j := j) (by rw [List.getElem?_take_of_lt hlt] at hq; exact hq) hjq
      omega
theorem Good.pre_ge (g : Good P T ops σ0 recs) {i : Nat} {r : Rec R} (hr : recs[i]? = some r) : ∀ j, i ≤ j → mem r.pre j = false := fun j hj => by
  cases hm : mem r.pre j with
  | false => rfl
  | true => have := g.pre_lt i hr (mem_iff.1 hm); omega
theorem Good.pair (g : Good P T ops σ0 recs) {i j : Nat} {a b : Rec R} (hi : recs[i]? = some a) (hj : recs[j]? = some b) (hlt : i < j) : pairOk (lenOf (fun _ => true) recs 0 σ0.hp.length) i j a b = true := by
  have := allPairs_get g.pairs hi hj hlt
  simpa using this
/-- what an operation sees of the heap -/
theorem Good.hr (g : Good P T ops σ0 recs) {i : Nat} {r : Rec R} (hr : recs[i]? = some r) : r.hr = [] ∧ r.hx = [] ∧ r.w = false ∨
    ∃ sel, r.hr = heapOf σ0.hp recs (mem r.pre) sel 0 (lenOf (mem r.pre) recs 0 σ0.hp.length) := by
  rcases (g.all i r hr).how with ⟨_, _, _, h1, h2, h3⟩ | ⟨_, x, _, _, _, _, _, h1, _, _⟩
  · exact Or.inl ⟨h1, h2, h3⟩
  · refine Or.inr ⟨seenSel ops σ0 (recs.take i) r.pre r.o, ?_⟩
    rw [h1]
    simp only [seenSt]
    have hz : ∀ j, i ≤ j → mem r.pre (0 + j) = false := fun j hj => by rw [Nat.zero_add]; exact g.pre_ge hr j hj
    rw [lenOf_take recs i 0 _ hz]
    apply List.ext_getElem?
    intro b
    rcases Nat.lt_or_ge b (lenOf (mem r.pre) recs 0 σ0.hp.length) with hlt | hge
    · rw [(heapOf_get _ 0 b).2 hlt, (heapOf_get _ 0 b).2 hlt, content_take recs i 0 _ hz]
    · rw [List.getElem?_eq_none (by rw [(heapOf_get _ 0 0).1]; exact hge), List.getElem?_eq_none (by rw [(heapOf_get _ 0 0).1]; exact hge)]
theorem Good.hr_get (g : Good P T ops σ0 recs) {i b : Nat} {r : Rec R} {X : SB R} (hr : recs[i]? = some r) (hb : r.hr[b]? = some (some X)) :
    b < lenOf (mem r.pre) recs 0 σ0.hp.length ∧ content (mem r.pre) b recs 0 (at2 σ0.hp b) = some X := by
  rcases g.hr hr with ⟨h1, _⟩ | ⟨sel, h1⟩
  · rw [h1] at hb; simp at hb
  · rw [h1] at hb
    have hlt : b < lenOf (mem r.pre) recs 0 σ0.hp.length := by
      have := (List.getElem?_eq_some_iff.1 hb).1
      rwa [(heapOf_get _ 0 0).1] at this
    rw [(heapOf_get _ 0 b).2 hlt, Nat.zero_add] at hb
    refine ⟨hlt, ?_⟩
    split at hb
    · injection hb
    · cases hb
theorem Good.hx (g : Good P T ops σ0 recs) {i : Nat} {r : Rec R} (hr : recs[i]? = some r) (hT : TabOk D P T) : r.hr.length ≤ r.hx.length ∧ (r.w = false → r.hx = r.hr) ∧
    ∀ (b : Nat) (X : SB R), r.hx[b]? = some (some X) → (b < r.hr.length → ∃ Y, r.hr[b]? = some (some Y)) ∧ (isView X = false ∨ ∃ Y, r.hr[b]? = some (some Y) ∧ isView Y = true) := by
  rcases (g.all i r hr).how with ⟨_, _, _, h1, h2, h3⟩ | ⟨_, x, hx, hs, _, _, _, h1, h2, h3⟩
  · refine ⟨by rw [h1, h2]; exact Nat.le_refl _, fun _ => by rw [h1, h2], fun b X hb => ?_⟩
    rw [h2] at hb; simp at hb
  · simp only [seenOk, Bool.and_eq_true] at hs
    have hb := fun b X => backOk_get (b := b) (X := X) hs.2
    rw [h1, h2]
    refine ⟨(hs.2 |> backOk_get (b := 0) (X := .inl (0, []))).1, fun hw => ?_, fun b X => (hb b X).2⟩
    obtain ⟨way, _, hx⟩ := hx
    refine sop_still hT hx ?_
    rw [h3] at hw
    simpa using hw
theorem allocs_iff {r : Rec R} : allocs r = true ↔ r.hr.length < r.hx.length := by simp [allocs, Nat.blt_eq]
theorem newAt_iff {r : Rec R} {b : Nat} : newAt r b = true ↔ r.hr.length ≤ b ∧ b < r.hx.length := by simp [newAt, Nat.blt_eq]
theorem ownAt_iff {h : Hp R} {b : Nat} : ownAt h b = true ↔ ∃ X, h[b]? = some (some X) ∧ isView X = false := by
  unfold ownAt
  constructor
  · intro hh
    split at hh
    · rename_i X hX; exact ⟨X, hX, by simpa using hh⟩
    · cases hh
  · intro ⟨X, hX, hv⟩
    rw [hX]
    simp [hv]
theorem Good.hr_len (g : Good P T ops σ0 recs) {i : Nat} {r : Rec R} (hr : recs[i]? = some r) (h : r.hr ≠ [] ∨ allocs r = true ∨ r.w = true) : r.hr.length = lenOf (mem r.pre) recs 0 σ0.hp.length := by
  rcases g.hr hr with ⟨h1, h2, h3⟩ | ⟨sel, h1⟩
  · rcases h with h | h | h
    · exact absurd h1 h
    · rw [allocs_iff, h1, h2] at h; simp at h
    · rw [h3] at h; cases h
  · rw [h1, (heapOf_get _ 0 0).1]
theorem Good.len_ge (g : Good P T ops σ0 recs) : ∀ (i : Nat) {r : Rec R}, recs[i]? = some r → allocs r = true → σ0.hp.length ≤ r.hr.length := by
  intro i
  induction i using Nat.strongRecOn with
  | _ i ih =>
    intro r hr ha
    rw [g.hr_len hr (Or.inr (Or.inl ha))]
    rcases lenOf_from (p := mem r.pre) recs 0 σ0.hp.length with h | ⟨j, q, hq, hp, hqa, h⟩
    · omega
    · rw [h]
      rw [Nat.zero_add] at hp
      have := ih j (g.pre_lt i hr (mem_iff.1 hp)) hq hqa
      have := allocs_iff.1 hqa
      omega
theorem Good.len0 (g : Good P T ops σ0 recs) (p : Nat → Bool) : σ0.hp.length ≤ lenOf p recs 0 σ0.hp.length := by
  rcases lenOf_from (p := p) recs 0 σ0.hp.length with h | ⟨j, q, hq, hp, hqa, h⟩
  · omega
  · rw [h]
    have := g.len_ge j hq hqa
    have := allocs_iff.1 hqa
    omega
theorem lenOf_ge {q : Nat → Bool} : ∀ (recs : List (Rec R)) (j0 acc i : Nat) (r : Rec R), (∀ (i j : Nat) (a b : Rec R), recs[i]? = some a → recs[j]? = some b → i < j → allocs a = true → allocs b = true → a.hx.length ≤ b.hx.length) →
    recs[i]? = some r → q (j0 + i) = true → allocs r = true → r.hx.length ≤ lenOf q recs j0 acc
  | [], _, _, _, _, _, hi, _, _ => by simp at hi
  | r0 :: l, j0, acc, i, r, hm, hi, hq, ha => by
    simp only [lenOf]
    cases i with
    | zero =>
      simp only [List.getElem?_cons_zero, Option.some.injEq] at hi
      subst hi
      rw [Nat.add_zero] at hq
      simp only [hq, ha, Bool.and_self, if_true]
      rcases lenOf_from (p := q) l (j0 + 1) r0.hx.length with h | ⟨j, b, hb, hp, hqa, h⟩
      · omega
      · rw [h]
        exact hm 0 (j + 1) r0 b (by simp) (by simpa using hb) (by omega) ha hqa
    | succ i =>
      simp only [List.getElem?_cons_succ] at hi
      exact lenOf_ge l (j0 + 1) _ i r (fun i j a b h1 h2 h3 => hm (i + 1) (j + 1) a b (by simpa using h1) (by simpa using h2) (by omega)) hi (by rwa [show j0 + 1 + i = j0 + (i + 1) by omega]) ha
theorem Good.hx_mono (g : Good P T ops σ0 recs) : ∀ (i j : Nat) (a b : Rec R), recs[i]? = some a → recs[j]? = some b → i < j → allocs a = true → allocs b = true → a.hx.length ≤ b.hx.length := by
  intro i j a b hi hj hlt ha hb
  have := g.pair hi hj hlt
  simp only [pairOk, Bool.and_eq_true, Bool.or_eq_true, Bool.not_eq_true', Bool.and_eq_false_iff, Nat.ble_eq] at this
  rcases this.2 with h | h
  · rw [ha, hb] at h; simp at h
  · have := allocs_iff.1 hb; omega
theorem Good.len_mono (g : Good P T ops σ0 recs) {p q : Nat → Bool} (h : ∀ j, p j = true → q j = true) : lenOf p recs 0 σ0.hp.length ≤ lenOf q recs 0 σ0.hp.length := by
  rcases lenOf_from (p := p) recs 0 σ0.hp.length with e | ⟨j, r, hr, hp, hra, e⟩
  · rw [e]; exact g.len0 q
  · rw [e]
    exact lenOf_ge recs 0 _ j r g.hx_mono hr (h _ hp) hra
theorem Good.hx_le (g : Good P T ops σ0 recs) {i : Nat} {r : Rec R} (hr : recs[i]? = some r) : r.hx.length ≤ lenOf (fun _ => true) recs 0 σ0.hp.length := by
  rcases Nat.lt_or_ge r.hr.length r.hx.length with hlt | hge
  · exact lenOf_ge recs 0 _ i r g.hx_mono hr rfl (allocs_iff.2 hlt)
  · rcases g.hr hr with ⟨h1, h2, _⟩ | ⟨sel, h1⟩
    · rw [h2]; simp
    · have : r.hr.length = lenOf (mem r.pre) recs 0 σ0.hp.length := by rw [h1, (heapOf_get _ 0 0).1]
      have := g.len_mono (p := mem r.pre) (q := fun _ => true) (fun _ _ => rfl)
      omega
/-- a row that is only read is not written -/
theorem Good.view_not (g : Good P T ops σ0 recs) (hT : TabOk D P T) {i b : Nat} {r : Rec R} {X : SB R} (hr : recs[i]? = some r) (ht : touches r b = true) (hb : at2 r.hx b = some X) : isView X = false := by
  have hx : r.hx[b]? = some (some X) := by
    unfold at2 at hb
    split at hb
    · rename_i hh; rw [hh, hb]
    · cases hb
  rcases ((g.hx hr hT).2.2 b X hx).2 with h | ⟨Y, hY, hv⟩
  · exact h
  · simp only [touches, Bool.and_eq_true, Bool.or_eq_true] at ht
    rcases ht.2 with h | h
    · obtain ⟨Z, hZ, hv2⟩ := ownAt_iff.1 h
      rw [hY] at hZ
      injection hZ with hZ; injection hZ with hZ
      subst hZ
      rw [hv] at hv2
      cases hv2
    · have h1 := (newAt_iff.1 h).1
      have := (List.getElem?_eq_some_iff.1 hY).1
      omega
theorem Good.view_src (g : Good P T ops σ0 recs) (hT : TabOk D P T) {p : Nat → Bool} {b : Nat} {X : SB R} (h : content p b recs 0 (at2 σ0.hp b) = some X) (hv : isView X = true) : at2 σ0.hp b = some X := by
  rcases content_from (p := p) (b := b) recs 0 (at2 σ0.hp b) with e | ⟨i, r, hr, _, ht, e⟩
  · rw [← e]; exact h
  · rw [e] at h
    have := g.view_not hT hr ht h
    rw [hv] at this
    cases this
theorem Good.view_safe (g : Good P T ops σ0 recs) {b : Nat} {X : SB R} (h : at2 σ0.hp b = some X) (hv : isView X = true) : ∀ (i : Nat) {r : Rec R}, recs[i]? = some r → touches r b = false := by
  intro i
  induction i using Nat.strongRecOn with
  | _ i ih =>
    intro r hr
    cases ht : touches r b with
    | false => rfl
    | true =>
      exfalso
      have hw : r.w = true := by simp only [touches, Bool.and_eq_true] at ht; exact ht.1
      simp only [touches, Bool.and_eq_true, Bool.or_eq_true] at ht
      rcases ht.2 with h1 | h1
      · obtain ⟨Y, hY, hv2⟩ := ownAt_iff.1 h1
        obtain ⟨_, hc⟩ := g.hr_get hr hY
        rcases content_from (p := mem r.pre) (b := b) recs 0 (at2 σ0.hp b) with e | ⟨j, q, hq, hp, htq, e⟩
        · rw [e, h] at hc
          injection hc with hc
          subst hc
          rw [hv] at hv2
          cases hv2
        · rw [Nat.zero_add] at hp
          rw [ih j (g.pre_lt i hr (mem_iff.1 hp)) hq] at htq
          cases htq
      · have h2 := (newAt_iff.1 h1).1
        have hlt : b < σ0.hp.length := by
          unfold at2 at h
          split at h
          · rename_i hh; exact (List.getElem?_eq_some_iff.1 hh).1
          · cases h
        rw [g.hr_len hr (Or.inr (Or.inr hw))] at h2
        have := g.len0 (mem r.pre)
        omega
/-- two operations of which neither is ahead of the other don't meet -/
theorem Good.no_clash (g : Good P T ops σ0 recs) {i j : Nat} {a b : Rec R} (hi : recs[i]? = some a) (hj : recs[j]? = some b) (hlt : i < j) (hn : mem b.pre i = false) {c : Nat} (hc : c < lenOf (fun _ => true) recs 0 σ0.hp.length) :
    ¬ (touches a c = true ∧ sees b c = true) ∧ ¬ (touches b c = true ∧ sees a c = true) ∧ ¬ (allocs a = true ∧ allocs b = true) := by
  have := g.pair hi hj hlt
  simp only [pairOk, Bool.and_eq_true, Bool.or_eq_true, Bool.not_eq_true'] at this
  obtain ⟨⟨_, h2⟩, _⟩ := this
  rcases h2 with h2 | h2
  · rw [hn] at h2; cases h2
  · obtain ⟨h3, h4⟩ := h2
    have key : (a.w = true ∨ b.w = true) → ((touches a c && sees b c) || (touches b c && sees a c)) = false := fun hw => by
      have hw' : (a.w || b.w) = true := by simpa using hw
      rw [hw', Bool.true_and] at h3
      unfold clash at h3
      simp only [Bool.not_eq_false'] at h3
      have := allLt_get h3 hc
      simpa only [Bool.not_eq_true'] using this
    refine ⟨fun ⟨h5, h6⟩ => ?_, fun ⟨h5, h6⟩ => ?_, fun ⟨h5, h6⟩ => ?_⟩
    · have hw : a.w = true := by simp only [touches, Bool.and_eq_true] at h5; exact h5.1
      have := key (Or.inl hw)
      rw [h5, h6] at this
      simp at this
    · have hw : b.w = true := by simp only [touches, Bool.and_eq_true] at h5; exact h5.1
      have := key (Or.inr hw)
      rw [h5, h6] at this
      simp at this
    · rw [h5, h6] at h4
      cases h4
/-- the operations listed so far, and one that may follow -/
structure Next (recs : List (Rec R)) (p : Nat → Bool) (i : Nat) (r : Rec R) : Prop where
  at_ : recs[i]? = some r
  new : p i = false
  pre : ∀ j, j ∈ r.pre → p j = true
  closed : ∀ j q, p j = true → recs[j]? = some q → ∀ l ∈ q.pre, p l = true
variable {p : Nat → Bool} {i : Nat} {r : Rec R}
theorem Next.alone (n : Next recs p i r) (g : Good P T ops σ0 recs) {j : Nat} {q : Rec R} (hq : recs[j]? = some q) (hp : p j = true) (hm : mem r.pre j = false) {c : Nat} (hc : c < lenOf (fun _ => true) recs 0 σ0.hp.length) :
    ¬ (touches q c = true ∧ sees r c = true) ∧ ¬ (touches r c = true ∧ sees q c = true) ∧ ¬ (allocs q = true ∧ allocs r = true) := by
  rcases Nat.lt_or_ge j i with hlt | hge
  · exact g.no_clash hq n.at_ hlt hm hc
  · have hne : j ≠ i := fun e => by rw [e, n.new] at hp; cases hp
    have hlt : i < j := by omega
    have hn : mem q.pre i = false := by
      cases hm2 : mem q.pre i with
      | false => rfl
      | true =>
        have := n.closed j q hp hq i (mem_iff.1 hm2)
        rw [n.new] at this
        cases this
    obtain ⟨h1, h2, h3⟩ := g.no_clash n.at_ hq hlt hn hc
    exact ⟨h2, h1, fun h => h3 ⟨h.2, h.1⟩⟩
theorem Next.later (n : Next recs p i r) (g : Good P T ops σ0 recs) {j : Nat} {q : Rec R} (hq : recs[j]? = some q) (hp : p j = true) (hlt : i < j) : mem q.pre i = false := by
  cases hm2 : mem q.pre i with
  | false => rfl
  | true =>
    have := n.closed j q hp hq i (mem_iff.1 hm2)
    rw [n.new] at this
    cases this
/-- what it sees is there -/
theorem Next.sub (n : Next recs p i r) (g : Good P T ops σ0 recs) (hT : TabOk D P T) {b : Nat} {X : SB R} (hb : r.hr[b]? = some (some X)) : content p b recs 0 (at2 σ0.hp b) = some X := by
  obtain ⟨hlt, hc⟩ := g.hr_get n.at_ hb
  rw [← hc]
  refine content_congr recs 0 _ fun j q hq ht => ?_
  rw [Nat.zero_add]
  cases hv : isView X with
  | true =>
    have := g.view_safe (g.view_src hT hc hv) hv j hq
    rw [ht] at this
    cases this
  | false =>
    cases hm : mem r.pre j with
    | true => exact n.pre j (mem_iff.1 hm)
    | false =>
      cases hp : p j with
      | false => rfl
      | true =>
        have hlt' : b < lenOf (fun _ => true) recs 0 σ0.hp.length := Nat.lt_of_lt_of_le hlt (g.len_mono (fun _ _ => rfl))
        exact absurd ⟨ht, by simp only [sees, Bool.or_eq_true]; exact Or.inl (ownAt_iff.2 ⟨X, hb, hv⟩)⟩ (n.alone g hq hp hm hlt').1
/-- how many blocks it sees -/
theorem Next.len_le (n : Next recs p i r) (g : Good P T ops σ0 recs) : r.hr.length ≤ lenOf p recs 0 σ0.hp.length := by
  rcases g.hr n.at_ with ⟨h1, _⟩ | ⟨sel, h1⟩
  · rw [h1]; simp
  · rw [h1, (heapOf_get _ 0 0).1]
    exact g.len_mono fun j hj => n.pre j (mem_iff.1 hj)
theorem Next.len_eq (n : Next recs p i r) (g : Good P T ops σ0 recs) (ha : allocs r = true) : r.hr.length = lenOf p recs 0 σ0.hp.length := by
  rw [g.hr_len n.at_ (Or.inr (Or.inl ha))]
  refine lenOf_congr recs 0 _ fun j q hq hqa => ?_
  rw [Nat.zero_add]
  cases hm : mem r.pre j with
  | true => exact (n.pre j (mem_iff.1 hm)).symm
  | false =>
    cases hp : p j with
    | false => rfl
    | true =>
      have hn : 0 < lenOf (fun _ => true) recs 0 σ0.hp.length := by
        have := g.hx_le n.at_
        have := allocs_iff.1 ha
        omega
      exact absurd ⟨hqa, ha⟩ (n.alone g hq hp hm hn).2.2
def addP (p : Nat → Bool) (i : Nat) : Nat → Bool := fun j => Nat.beq j i || p j
theorem addP_self (p : Nat → Bool) (i : Nat) : addP p i i = true := by simp [addP]
theorem addP_ne (p : Nat → Bool) {i j : Nat} (h : j ≠ i) : addP p i j = p j := by
  have : Nat.beq j i = false := by
    cases hb : Nat.beq j i with
    | false => rfl
    | true => exact absurd (Nat.eq_of_beq_eq_true hb) h
  simp [addP, this]
theorem Next.content_no (n : Next recs p i r) {b : Nat} (ht : touches r b = false) : content (addP p i) b recs 0 (at2 σ0.hp b) = content p b recs 0 (at2 σ0.hp b) := by
  refine content_congr recs 0 _ fun j q hq htq => ?_
  rw [Nat.zero_add]
  refine addP_ne p fun e => ?_
  subst e
  rw [n.at_] at hq
  injection hq with hq
  subst hq
  rw [ht] at htq
  cases htq
theorem Next.content_yes (n : Next recs p i r) (g : Good P T ops σ0 recs) {b : Nat} (ht : touches r b = true) : content (addP p i) b recs 0 (at2 σ0.hp b) = at2 r.hx b := by
  have hsee : sees r b = true := by
    simp only [touches, Bool.and_eq_true] at ht
    exact ht.2
  have hb : b < lenOf (fun _ => true) recs 0 σ0.hp.length := by
    simp only [sees, Bool.or_eq_true] at hsee
    rcases hsee with h | h
    · obtain ⟨X, hX, _⟩ := ownAt_iff.1 h
      exact Nat.lt_of_lt_of_le (g.hr_get n.at_ hX).1 (g.len_mono (fun _ _ => rfl))
    · exact Nat.lt_of_lt_of_le (newAt_iff.1 h).2 (g.hx_le n.at_)
  refine content_last recs 0 _ i r n.at_ (by rw [Nat.zero_add]; exact addP_self p i) ht fun j q hq hlt hp => ?_
  rw [Nat.zero_add, addP_ne p (by omega)] at hp
  cases htq : touches q b with
  | false => rfl
  | true => exact absurd ⟨htq, hsee⟩ (g.no_clash n.at_ hq hlt (n.later g hq hp hlt) hb).2.1
theorem Next.len_no (n : Next recs p i r) (ha : allocs r = false) : lenOf (addP p i) recs 0 σ0.hp.length = lenOf p recs 0 σ0.hp.length := by
  refine lenOf_congr recs 0 _ fun j q hq hqa => ?_
  rw [Nat.zero_add]
  refine addP_ne p fun e => ?_
  subst e
  rw [n.at_] at hq
  injection hq with hq
  subst hq
  rw [ha] at hqa
  cases hqa
theorem Next.len_yes (n : Next recs p i r) (g : Good P T ops σ0 recs) (ha : allocs r = true) : lenOf (addP p i) recs 0 σ0.hp.length = r.hx.length := by
  refine lenOf_last recs 0 _ i r n.at_ (by rw [Nat.zero_add]; exact addP_self p i) ha fun j q hq hlt hp => ?_
  rw [Nat.zero_add, addP_ne p (by omega)] at hp
  cases hqa : allocs q with
  | false => rfl
  | true =>
    have hn : 0 < lenOf (fun _ => true) recs 0 σ0.hp.length := by
      have := g.hx_le n.at_
      have := allocs_iff.1 ha
      omega
    exact absurd ⟨ha, hqa⟩ (g.no_clash n.at_ hq hlt (n.later g hq hp hlt) hn).2.2
end
end Go.Proofs.Ytloibbakklenbaa.Rx
