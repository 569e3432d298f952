/- Symbolic runs: regions whose order is open: each order comes to the same. Nothing of the program. -/
import Derived.Test.YtloibbakklenbaaRxDrawB
namespace Go.Proofs.Ytloibbakklenbaa.Rx
open Go.RowKit Go.Proofs.Ytloibbakklenbaa.State
set_option linter.unusedVariables false
set_option linter.unusedSimpArgs false
section
variable {R : Type} {D : Res R} {P : Program} {T : Tab R} {C : Ctx} {ops : List Oper} {σ0 : SS R} {recs : List (Rec R)} {w w' : World}
theorem Good.recAt (g : Good P T ops σ0 recs) {j : Nat} {o : Oper} (h : ops[j]? = some o) : ∃ r, recs[j]? = some r ∧ r.o = o := by
  have hl : j < recs.length := by rw [g.len]; exact (List.getElem?_eq_some_iff.1 h).1
  have hr : recs[j]? = some recs[j] := List.getElem?_eq_getElem hl
  refine ⟨_, hr, ?_⟩
  have := (g.all j _ hr).o
  rw [h] at this
  injection this with this
  exact this.symm
theorem Good.dst_ne (g : Good P T ops σ0 recs) {i j : Nat} {a b : Oper} {t : Tmp} (hi : ops[i]? = some a) (hj : ops[j]? = some b) (ha : a.dst = some t) (hb : b.dst = some t) : i = j := by
  have key : ∀ (i j : Nat) (a b : Oper), ops[i]? = some a → ops[j]? = some b → a.dst = some t → b.dst = some t → i < j → False := by
    intro i j a b hi hj ha hb hlt
    obtain ⟨ra, h1, h2⟩ := g.recAt hi
    obtain ⟨rb, h3, h4⟩ := g.recAt hj
    have := g.pair h1 h3 hlt
    simp only [pairOk, Bool.and_eq_true, h2, h4, ha, hb] at this
    have := this.1.1
    simp at this
  rcases Nat.lt_trichotomy i j with h | h | h
  · exact (key i j a b hi hj ha hb h).elim
  · exact h
  · exact (key j i b a hj hi hb ha h).elim
theorem Good.dst_at (g : Good P T ops σ0 recs) {i : Nat} {a : Oper} {t : Tmp} (hi : ops[i]? = some a) (ha : a.dst = some t) : dstIdx ops t 0 = some i := by
  have := dstIdx_first (i0 := 0) hi ha fun j o' hj hlt e => by
    have := g.dst_ne hj hi e ha
    omega
  rwa [Nat.zero_add] at this
theorem dst_src {t j : Nat} (h : dstIdx ops t 0 = some j) : ∃ o, ops[j]? = some o ∧ o.dst = some t := by
  obtain ⟨k, o, h1, h2, h3⟩ := dstIdx_some h
  rw [Nat.zero_add] at h1
  subst h1
  exact ⟨o, h2, h3⟩
theorem mkTm_at {pre tms : List Nat} : ∀ {l : List (Option Value)} {t0 i : Nat} {x : Option Value}, l[i]? = some x → (mkTm ops recs pre tms t0 l)[i]? = some (if mem tms (t0 + i) then
      match dstIdx ops (t0 + i) 0 with
      | some j => if mem pre j then (match recs[j]? with
        | some r => some r.v
        | none => none) else none
      | none => x
    else none) := by
  intro l
  induction l with
  | nil => intro t0 i x h; simp at h
  | cons y l ih =>
    intro t0 i x h
    cases i with
    | zero =>
      simp only [List.getElem?_cons_zero, Option.some.injEq] at h
      subst h
      simp only [mkTm, List.getElem?_cons_zero, Nat.add_zero]
      rfl
    | succ i =>
      simp only [List.getElem?_cons_succ] at h
      simp only [mkTm, List.getElem?_cons_succ]
      rw [ih (t0 := t0 + 1) h, show t0 + 1 + i = t0 + (i + 1) by omega]
theorem take_get {i j : Nat} {r : Rec R} (h : (recs.take i)[j]? = some r) : j < i ∧ recs[j]? = some r := by
  have hlt : j < i := by
    have := (List.getElem?_eq_some_iff.1 h).1
    rw [List.length_take] at this
    omega
  rw [List.getElem?_take_of_lt hlt] at h
  exact ⟨hlt, h⟩
/-- the truths that are known are so -/
theorem Good.lit (g : Good P T ops σ0 recs) (hT : TabOk D P T) (hl0 : LI σ0.li σ0.tm) : ∀ (i : Nat) {r : Rec R}, recs[i]? = some r →
    (∀ b, r.lit = some b → r.v = .bool b ∧ ∀ t, r.o.dst = some t → t < σ0.tm.length) ∧
    ∀ x, seenOk σ0 (seenSt ops σ0 (recs.take i) r.pre r.o) r.o x = true → LI (seenSt ops σ0 (recs.take i) r.pre r.o).li (seenSt ops σ0 (recs.take i) r.pre r.o).tm := by
  intro i
  induction i using Nat.strongRecOn with
  | _ i ih =>
    intro r hr
    have hLI : LI (seenSt ops σ0 (recs.take i) r.pre r.o).li (seenSt ops σ0 (recs.take i) r.pre r.o).tm := by
      intro t b htb
      simp only [seenSt] at htb ⊢
      obtain ⟨h1, h2⟩ := mkLi_mem htb
      rcases h2 with ⟨j, q, h3, h4, h5, h6⟩ | ⟨h3, h4⟩
      · obtain ⟨hji, hq⟩ := take_get h5
        obtain ⟨o, ho, hd⟩ := dst_src h3
        have hqo : q.o = o := by
          have := (g.all j q hq).o
          rw [ho] at this
          injection this with this
          exact this.symm
        obtain ⟨hv, ht⟩ := (ih j hji hq).1 b h6
        have hlt := ht t (by rw [hqo]; exact hd)
        have := mkTm_at (ops := ops) (recs := recs.take i) (pre := r.pre) (tms := tmpsOf r.o.op.operands.toList) (t0 := 0) (List.getElem?_eq_getElem hlt)
        rw [Nat.zero_add, mem_iff.2 h1, h3] at this
        simp only [if_true, mem_iff.2 h4, h5, hv] at this
        exact this
      · have h5 := hl0 t b h4
        have := mkTm_at (ops := ops) (recs := recs.take i) (pre := r.pre) (tms := tmpsOf r.o.op.operands.toList) (t0 := 0) h5
        rw [Nat.zero_add, mem_iff.2 h1, h3] at this
        simp only [seenTm]
        simpa using this
    refine ⟨fun b hb => ?_, fun _ _ => hLI⟩
    rcases (g.all i r hr).how with ⟨_, _, h1, _⟩ | ⟨_, x, hx, hs, _, hv, hlit, _⟩
    · rw [h1] at hb; cases hb
    · refine ⟨?_, fun t ht => ?_⟩
      · rw [hv]
        rcases hlit b hb with h | h
        · obtain ⟨way, hway, hx⟩ := hx
          exact (sop_ok hT hway hx (D := D)).lit hLI b h
        · exact h
      · simp only [seenOk, Bool.and_eq_true, dstOk] at hs
        have := hs.1.1.1.2
        rw [ht] at this
        simpa [Nat.blt_eq] using this
/-- what holds when the operations p are done -/
structure DInv (D : Res R) (C : Ctx) (ops : List Oper) (σ0 : SS R) (recs : List (Rec R)) (p : Nat → Bool) (a : Act) (w : World) : Prop where
  defers : a.defers = []
  closed : ∀ j q, p j = true → recs[j]? = some q → ∀ l ∈ q.pre, p l = true
  ex : ∃ ρ ft, (∀ i, i < C.n0 → ρ i = C.e0 i) ∧ a.tmps.size = σ0.tm.length ∧
    (∀ t v, dstIdx ops t 0 = none → σ0.tm[t]? = some (some v) → a.tmps[t]? = some (ren ρ v) ∧ inb (lenOf p recs 0 σ0.hp.length) v = true) ∧
    (∀ t j q, t < σ0.tm.length → dstIdx ops t 0 = some j → p j = true → recs[j]? = some q → a.tmps[t]? = some (ren ρ q.v) ∧ inb (lenOf p recs 0 σ0.hp.length) q.v = true) ∧
    HM D C ρ ft (heapOf σ0.hp recs p (fun _ => true) 0 (lenOf p recs 0 σ0.hp.length)) w
theorem content_none (b : Nat) (acc : Option (SB R)) : ∀ (l : List (Rec R)) (j1 : Nat), content (fun _ => false) b l j1 acc = acc := by
  intro l
  induction l with
  | nil => intro _; rfl
  | cons r l ih => intro j1; simp only [content, Bool.false_and, Bool.false_eq_true, if_false]; exact ih _
theorem lenOf_none (acc : Nat) : ∀ (l : List (Rec R)) (j1 : Nat), lenOf (fun _ => false) l j1 acc = acc := by
  intro l
  induction l with
  | nil => intro _; rfl
  | cons r l ih => intro j1; simp only [lenOf, Bool.false_and, Bool.false_eq_true, if_false]; exact ih _
theorem at2_get {h : Hp R} {b : Nat} (hlt : b < h.length) : h[b]? = some (at2 h b) := by
  unfold at2
  rw [List.getElem?_eq_getElem hlt]
theorem DInv.start {a : Act} (hm : M D C σ0 a w) : DInv D C ops σ0 recs (fun _ => false) a w := by
  obtain ⟨ρ, ft, h0, h1, h2⟩ := hm.ex
  refine ⟨hm.defers, (fun j q hp => by cases hp), ρ, ft, h0, h1.size, fun t v _ hv => ?_, (fun t j q _ _ hp => by cases hp), ?_⟩
  · rw [lenOf_none]; exact h1.val t v hv
  · rw [lenOf_none]
    have : heapOf σ0.hp recs (fun _ => false) (fun _ => true) 0 σ0.hp.length = σ0.hp := by
      apply List.ext_getElem?
      intro b
      rcases Nat.lt_or_ge b σ0.hp.length with hlt | hge
      · rw [(heapOf_get _ 0 b).2 hlt, content_none, Nat.zero_add, at2_get hlt]
        rfl
      · rw [List.getElem?_eq_none hge, List.getElem?_eq_none (by rw [(heapOf_get _ 0 0).1]; exact hge)]
    rw [this]
    exact h2
theorem DInv.yield {a : Act} {p : Nat → Bool} (g : Good P T ops σ0 recs) (hT : TabOk D P T) (hl0 : LI σ0.li σ0.tm) (h : DInv D C ops σ0 recs p a w) {j : Nat} {q : Rec R} {b : Bool} {t : Tmp} (hq : recs[j]? = some q) (hp : p j = true)
    (hd : q.o.dst = some t) (hb : q.lit = some b) : yielded ops.toArray a.tmps j = some b := by
  obtain ⟨ρ, ft, _, _, _, h4, _⟩ := h.ex
  have ho := (g.all j q hq).o
  obtain ⟨hv, ht⟩ := (g.lit hT hl0 j hq).1 b hb
  have := (h4 t j q (ht t hd) (g.dst_at ho hd) hp hq).1
  rw [hv, ren_bool] at this
  exact yielded_of (by unfold dstOf; rw [ho]; exact hd) this
/-- one more -/
theorem DInv.step {a : Act} {p : Nat → Bool} (g : Good P T ops σ0 recs) (hT : TabOk D P T) (hl0 : LI σ0.li σ0.tm) (hn0 : C.n0 ≤ σ0.hp.length) (h : DInv D C ops σ0 recs p a w) {i : Nat} {r : Rec R} (n : Next recs p i r)
    {K : Act → World → Prop} {Q : Exit → Act → World → Prop} (hK : ∀ a' w', DInv D C ops σ0 recs (addP p i) a' w' → K a' w') : wpOp P ops.toArray Q i K a w := by
  have ho := (g.all i r n.at_).o
  have hcl : ∀ j q, addP p i j = true → recs[j]? = some q → ∀ l ∈ q.pre, addP p i l = true := by
    intro j q hp hq l hl
    by_cases hl' : l = i
    · subst hl'; exact addP_self p l
    · rw [addP_ne p hl']
      by_cases hj : j = i
      · subst hj
        rw [n.at_] at hq
        injection hq with hq
        subst hq
        exact n.pre l hl
      · rw [addP_ne p hj] at hp
        exact h.closed j q hp hq l hl
  obtain ⟨ρ, ft, h0, h1, h2, h3, h4⟩ := h.ex
  -- what is put into the frame
  have frame : ∀ (ρ2 : Env) (ft2 : Nat → Nat → Prop) (w' : World) (v : Value), (∀ b, b < lenOf p recs 0 σ0.hp.length → ρ2 b = ρ b) → lenOf p recs 0 σ0.hp.length ≤ lenOf (addP p i) recs 0 σ0.hp.length →
      v = ren ρ2 r.v → inb (lenOf (addP p i) recs 0 σ0.hp.length) r.v = true → HM D C ρ2 ft2 (heapOf σ0.hp recs (addP p i) (fun _ => true) 0 (lenOf (addP p i) recs 0 σ0.hp.length)) w' →
      DInv D C ops σ0 recs (addP p i) (a.put r.o.dst v) w' := by
    intro ρ2 ft2 w' v hρ hle hv hin hm
    have hren : ∀ u, inb (lenOf p recs 0 σ0.hp.length) u = true → ren ρ u = ren ρ2 u := fun u hu => ren_congr (n := lenOf p recs 0 σ0.hp.length) (fun b hb => (hρ b hb).symm) u hu
    refine ⟨by cases r.o.dst <;> exact h.defers, hcl, ρ2, ft2, fun b hb => ?_, ?_, fun t u hd hu => ?_, fun t j q ht hd hp hq => ?_, hm⟩
    · have := g.len0 p
      rw [hρ b (by omega)]; exact h0 b hb
    · cases hd : r.o.dst with
      | none => exact h1
      | some t => simp [Act.put, h1]
    · obtain ⟨k1, k2⟩ := h2 t u hd hu
      refine ⟨?_, inb_mono hle u k2⟩
      cases hd2 : r.o.dst with
      | none => simp only [Act.put]; rw [k1, hren u k2]
      | some t' =>
        have hne : t' ≠ t := fun e => by
          subst e
          rw [g.dst_at ho hd2] at hd
          cases hd
        simp only [Act.put]
        rw [Array.getElem?_setIfInBounds_ne hne, k1, hren u k2]
    · by_cases hj : j = i
      · subst hj
        rw [n.at_] at hq
        injection hq with hq
        subst hq
        obtain ⟨o, ho', hdo⟩ := dst_src hd
        rw [ho] at ho'
        injection ho' with ho'
        subst ho'
        refine ⟨?_, hin⟩
        simp only [hdo, Act.put]
        rw [Array.getElem?_setIfInBounds]
        simp [h1, ht, hv]
      · rw [addP_ne p hj] at hp
        obtain ⟨k1, k2⟩ := h3 t j q ht hd hp hq
        refine ⟨?_, inb_mono hle q.v k2⟩
        cases hd2 : r.o.dst with
        | none => simp only [Act.put]; rw [k1, hren q.v k2]
        | some t' =>
          have hne : t' ≠ t := fun e => by
            subst e
            rw [g.dst_at ho hd2] at hd
            injection hd with hd
            exact hj hd.symm
          simp only [Act.put]
          rw [Array.getElem?_setIfInBounds_ne hne, k1, hren q.v k2]
  have guard : ∀ (m : Nat), guardSt (recs.take i) r.pre r.o.guard = m → m < 2 → Region.wanted r.o (yielded ops.toArray a.tmps) = (Nat.beq m 0) := by
    intro m hg hm
    unfold guardSt at hg
    split at hg
    · rename_i hgd
      subst hg
      simp [Region.wanted, hgd]
    · rename_i j want hgd
      split at hg
      · rename_i hmj
        split at hg
        · rename_i q hq
          obtain ⟨_, hq⟩ := take_get hq
          split at hg
          · rename_i t hd
            split at hg
            · rename_i b hb
              have hy := h.yield g hT hl0 hq (n.pre j (mem_iff.1 hmj)) hd hb
              split at hg
              · rename_i hbw
                subst hg
                simp [Region.wanted, hgd, hy]
                simpa using hbw
              · rename_i hbw
                subst hg
                simp [Region.wanted, hgd, hy]
                have : (b == want) = false := by simpa using hbw
                rw [this]
                rfl
            · omega
          · omega
        · omega
      · omega
  unfold wpOp
  rw [List.getElem?_toArray, ho]
  simp only
  rcases (g.all i r n.at_).how with ⟨hg, hv, hl, hhr, hhx, hw⟩ | ⟨hg, x, hx, hs, hvc, hv, hlit, hhr, hhx, hw⟩
  · rw [guard 1 hg (by omega)]
    simp only [Nat.beq, Bool.false_eq_true, if_false]
    have hnt : ∀ b, touches r b = false := fun b => by simp [touches, hw]
    have hna : allocs r = false := by simp [allocs, hhr, hhx, Nat.blt, Nat.ble]
    have hlen := n.len_no (σ0 := σ0) hna
    have hheap : heapOf σ0.hp recs (addP p i) (fun _ => true) 0 (lenOf (addP p i) recs 0 σ0.hp.length) = heapOf σ0.hp recs p (fun _ => true) 0 (lenOf p recs 0 σ0.hp.length) := by
      rw [hlen]
      apply List.ext_getElem?
      intro b
      rcases Nat.lt_or_ge b (lenOf p recs 0 σ0.hp.length) with hlt | hge
      · rw [(heapOf_get _ 0 b).2 hlt, (heapOf_get _ 0 b).2 hlt]
        simp only [if_true]
        rw [n.content_no (hnt _)]
      · rw [List.getElem?_eq_none (by rw [(heapOf_get _ 0 0).1]; exact hge), List.getElem?_eq_none (by rw [(heapOf_get _ 0 0).1]; exact hge)]
    refine hK _ _ (frame ρ ft w undef (fun _ _ => rfl) (by omega) ?_ ?_ ?_)
    · rw [hv]; simp [undef, ren, renL]
    · rw [hv]; simp [undef, inb, inbL]
    · rw [hheap]; exact h4
  · rw [guard 0 hg (by omega)]
    simp only [Nat.beq, if_true]
    left
    have hsx := hs
    simp only [seenOk, Bool.and_eq_true] at hsx
    obtain ⟨⟨⟨⟨k1, k2⟩, k3⟩, k4⟩, k5⟩ := hsx
    simp only [tidy, Bool.and_eq_true] at k1
    obtain ⟨way, hway, hx⟩ := hx
    have hok := sop_ok hT hway hx (D := D)
    have hLI := (g.lit hT hl0 i n.at_).2 x hs
    -- what it sees
    have hxl := g.hx n.at_ hT
    have hL : (heapOf σ0.hp recs p (fun _ => true) 0 (lenOf p recs 0 σ0.hp.length)).length = lenOf p recs 0 σ0.hp.length := (heapOf_get _ 0 0).1
    have hle := n.len_le g
    have hsub : ∀ (b : Nat) (X : SB R), r.hr[b]? = some (some X) → (heapOf σ0.hp recs p (fun _ => true) 0 (lenOf p recs 0 σ0.hp.length))[b]? = some (some X) := fun b X hb => by
      have hlt : b < lenOf p recs 0 σ0.hp.length := by
        have := (List.getElem?_eq_some_iff.1 hb).1
        omega
      rw [(heapOf_get _ 0 b).2 hlt, Nat.zero_add]
      simp only [if_true]
      rw [n.sub g hT hb]
    rw [← hhr] at k3 k4 k5
    have hsubM := h4.sub hsub k3 0
    have hTM : TM ρ r.hr.length (seenSt ops σ0 (recs.take i) r.pre r.o).tm a := by
      refine ⟨?_, fun t v htv => ?_⟩
      · simp only [seenSt, seenTm]
        rw [(mkTm_get (t0 := 0) (i := 0) (v := undef)).1, h1]
      · have hin : inb r.hr.length v = true := inbL_iff.1 k4 v (someV_mem htv)
        simp only [seenSt, seenTm] at htv
        have htl : t < σ0.tm.length := by
          have := (List.getElem?_eq_some_iff.1 htv).1
          rwa [(mkTm_get (t0 := 0) (i := 0) (v := undef)).1] at this
        obtain ⟨_, hh⟩ := (mkTm_get (t0 := 0) (i := t) (v := v)).2 htv
        rw [Nat.zero_add] at hh
        rcases hh with ⟨j, q, g1, g2, g3, g4⟩ | ⟨g1, g2⟩
        · obtain ⟨_, hq⟩ := take_get g3
          have := (h3 t j q htl g1 (n.pre j g2) hq).1
          rw [← g4] at this
          exact ⟨this, hin⟩
        · exact ⟨(h2 t v g1 g2).1, hin⟩
    have hrun := hok.run (localC w r.hr ft ρ 0) ρ _ a w K Q (by rw [← hhr]; exact hTM) hLI (by rw [← hhr]; exact hsubM) hvc
    refine hrun fun ρ' ft' w' hρ' hm' => ?_
    rw [← hhr] at hρ'
    rw [← hhx] at hm'
    have hal : r.hr.length < r.hx.length → r.hr.length = (heapOf σ0.hp recs p (fun _ => true) 0 (lenOf p recs 0 σ0.hp.length)).length := fun hlt => by
      rw [hL]; exact n.len_eq g (allocs_iff.2 hlt)
    have hlen' : lenOf (addP p i) recs 0 σ0.hp.length = if r.hr.length < r.hx.length then r.hx.length else lenOf p recs 0 σ0.hp.length := by
      split
      · rename_i hlt; exact n.len_yes g (allocs_iff.2 hlt)
      · rename_i hlt; exact n.len_no (by
          cases ha : allocs r with
          | false => rfl
          | true => exact absurd (allocs_iff.1 ha) hlt)
    have hle' : lenOf p recs 0 σ0.hp.length ≤ lenOf (addP p i) recs 0 σ0.hp.length := by
      refine g.len_mono fun j hj => ?_
      by_cases he : j = i
      · subst he; exact addP_self p j
      · rw [addP_ne p he]; exact hj
    have hget' : ∀ b, b < lenOf (addP p i) recs 0 σ0.hp.length → (heapOf σ0.hp recs (addP p i) (fun _ => true) 0 (lenOf (addP p i) recs 0 σ0.hp.length))[b]? = some (content (addP p i) b recs 0 (at2 σ0.hp b)) := fun b hb => by
      rw [(heapOf_get _ 0 b).2 hb, Nat.zero_add]; simp
    have hget : ∀ b, b < lenOf p recs 0 σ0.hp.length → (heapOf σ0.hp recs p (fun _ => true) 0 (lenOf p recs 0 σ0.hp.length))[b]? = some (content p b recs 0 (at2 σ0.hp b)) := fun b hb => by
      rw [(heapOf_get _ 0 b).2 hb, Nat.zero_add]; simp
    have hback := h4.back hsub (by rw [hL]; exact hle) (n := 0) (h' := heapOf σ0.hp recs (addP p i) (fun _ => true) 0 (lenOf (addP p i) recs 0 σ0.hp.length)) hm' hρ' hxl.1 hal hxl.2.2
      (by rw [(heapOf_get _ 0 0).1, hL]; exact hlen') ?_ ?_
    · rw [hL] at hback
      refine hK _ _ (frame _ _ _ _ (fun b hb => by simp [hb]) hle' ?_ ?_ hback)
      · rw [hv]
        refine ren_congr (n := r.hx.length) (fun b hb => ?_) _ (by rw [hhx]; exact k1.1)
        split
        · rename_i hlt
          rcases Nat.lt_or_ge b r.hr.length with h5 | h5
          · exact hρ' b h5
          · have := hal (by omega)
            rw [hL] at this
            omega
        · rfl
      · rw [hv]
        refine inb_mono ?_ _ k1.1
        rw [← hhx, hlen']
        split
        · exact Nat.le_refl _
        · have := hxl.1; omega
    · -- what may have changed
      intro b hb
      rw [hL] at hb
      have hsee : ∀ {b}, ((∃ Y, r.hr[b]? = some (some Y) ∧ isView Y = false) → ownAt r.hr b = true) := fun h => ownAt_iff.2 h
      by_cases hw2 : r.w = true
      · have hin : b < r.hx.length → b < lenOf (addP p i) recs 0 σ0.hp.length := fun hlt => by
          rw [hlen']
          split
          · exact hlt
          · have := hxl.1; omega
        split
        · rename_i hlt
          have ht : touches r b = true := by
            simp only [touches, hw2, Bool.true_and, Bool.or_eq_true]
            rcases hb with hb | hb
            · exact Or.inl (ownAt_iff.2 hb)
            · exact Or.inr (newAt_iff.2 ⟨by omega, hlt⟩)
          rw [hget' b (hin hlt), n.content_yes g ht, at2_get hlt]
        · rename_i hge
          rcases hb with ⟨Y, hY, _⟩ | hb
          · have := (List.getElem?_eq_some_iff.1 hY).1
            have := hxl.1
            omega
          · refine List.getElem?_eq_none ?_
            rw [(heapOf_get _ 0 0).1, hlen']
            split <;> omega
      · have hw3 : r.w = false := by cases hh : r.w <;> simp_all
        have hxe := hxl.2.1 hw3
        have hno : ∀ b, touches r b = false := fun b => by simp [touches, hw3]
        have hlen2 : lenOf (addP p i) recs 0 σ0.hp.length = lenOf p recs 0 σ0.hp.length := by rw [hlen', hxe]; simp
        rcases hb with ⟨Y, hY, hYv⟩ | hb
        · have hlt := (List.getElem?_eq_some_iff.1 hY).1
          rw [if_pos (by rw [hxe]; exact hlt), hget' b (by omega), n.content_no (hno b), n.sub g hT hY, hxe, hY]
        · rw [if_neg (by rw [hxe]; omega)]
          refine List.getElem?_eq_none ?_
          rw [(heapOf_get _ 0 0).1, hlen2]
          exact hb
    · intro b hb hn
      rw [hL] at hb
      have hnt : touches r b = false := by
        cases ht : touches r b with
        | false => rfl
        | true =>
          simp only [touches, Bool.and_eq_true, Bool.or_eq_true] at ht
          rcases ht.2 with h5 | h5
          · exact absurd (ownAt_iff.1 h5) hn
          · obtain ⟨h6, h7⟩ := newAt_iff.1 h5
            have := hal (by omega)
            rw [hL] at this
            omega
      rw [hget' b (by omega), hget b hb, n.content_no hnt]
/-- how many are not listed -/
def leftN (f : Nat → Bool) : Nat → Nat
  | 0 => 0
  | n + 1 => (if f n then 0 else 1) + leftN f n
theorem leftN_congr {f h : Nat → Bool} : ∀ {n : Nat}, (∀ j, j < n → f j = h j) → leftN f n = leftN h n
  | 0, _ => rfl
  | n + 1, hh => by simp only [leftN]; rw [hh n (by omega), leftN_congr (fun j hj => hh j (by omega))]
theorem leftN_add {f : Nat → Bool} {i : Nat} : ∀ {n : Nat}, i < n → f i = false → leftN (addP f i) n + 1 = leftN f n
  | 0, h, _ => by omega
  | n + 1, h, hf => by
    simp only [leftN]
    by_cases he : i = n
    · subst he
      rw [addP_self, hf, leftN_congr (f := addP f i) (h := f) (fun j hj => addP_ne f (by omega))]
      simp; omega
    · rw [addP_ne f (Ne.symm he)]
      have := leftN_add (n := n) (by omega) hf
      omega
theorem leftN_pos {f : Nat → Bool} {i : Nat} : ∀ {n : Nat}, i < n → f i = false → 0 < leftN f n
  | 0, h, _ => by omega
  | n + 1, h, hf => by
    simp only [leftN]
    by_cases he : i = n
    · subst he; rw [hf]; simp; omega
    · have := leftN_pos (n := n) (by omega) hf; omega
def listedP (listed : Array Bool) : Nat → Bool := fun j => listed.getD j false
theorem finTm_at : ∀ {l : List (Option Value)} {t0 i : Nat}, (finTm ops recs t0 l).length = l.length ∧ ∀ x, l[i]? = some x → (finTm ops recs t0 l)[i]? = some (match dstIdx ops (t0 + i) 0 with
    | some j => (match recs[j]? with
      | some r => some r.v
      | none => none)
    | none => x) := by
  intro l
  induction l with
  | nil => intro t0 i; exact ⟨rfl, fun x h => by simp at h⟩
  | cons y l ih =>
    intro t0 i
    refine ⟨by simp [finTm, (ih (t0 := t0 + 1) (i := 0)).1], fun x h => ?_⟩
    cases i with
    | zero =>
      simp only [List.getElem?_cons_zero, Option.some.injEq] at h
      subst h
      simp only [finTm, List.getElem?_cons_zero, Nat.add_zero]
      rfl
    | succ i =>
      simp only [List.getElem?_cons_succ] at h
      simp only [finTm, List.getElem?_cons_succ]
      rw [(ih (t0 := t0 + 1) (i := i)).2 x h, show t0 + 1 + i = t0 + (i + 1) by omega]
theorem DInv.done {a : Act} {p : Nat → Bool} (g : Good P T ops σ0 recs) (hT : TabOk D P T) (hl0 : LI σ0.li σ0.tm) (h : DInv D C ops σ0 recs p a w) (hall : ∀ j, j < ops.length → p j = true) : M D C (finSt ops σ0 recs) a w := by
  obtain ⟨ρ, ft, h0, h1, h2, h3, h4⟩ := h.ex
  have hp : ∀ j r, recs[j]? = some r → p j = true := fun j r hr => hall j (by rw [← g.len]; exact (List.getElem?_eq_some_iff.1 hr).1)
  have hlen : lenOf p recs 0 σ0.hp.length = lenOf (fun _ => true) recs 0 σ0.hp.length := lenOf_congr recs 0 _ fun j r hr _ => by rw [Nat.zero_add]; exact hp j r hr
  have hheap : heapOf σ0.hp recs p (fun _ => true) 0 (lenOf p recs 0 σ0.hp.length) = (finSt ops σ0 recs).hp := by
    simp only [finSt]
    rw [hlen]
    apply List.ext_getElem?
    intro b
    rcases Nat.lt_or_ge b (lenOf (fun _ => true) recs 0 σ0.hp.length) with hlt | hge
    · rw [(heapOf_get _ 0 b).2 hlt, (heapOf_get _ 0 b).2 hlt]
      simp only [if_true]
      congr 1
      exact content_congr recs 0 _ fun j r hr _ => by rw [Nat.zero_add]; exact hp j r hr
    · rw [List.getElem?_eq_none (by rw [(heapOf_get _ 0 0).1]; exact hge), List.getElem?_eq_none (by rw [(heapOf_get _ 0 0).1]; exact hge)]
  have hhl : (finSt ops σ0 recs).hp.length = lenOf p recs 0 σ0.hp.length := by rw [← hheap, (heapOf_get _ 0 0).1]
  rw [hheap] at h4
  refine ⟨h.defers, fun t b htb => ?_, ρ, ft, h0, ⟨?_, fun t v htv => ?_⟩, h4⟩
  · simp only [finSt, finLi] at htb ⊢
    rcases List.mem_append.1 htb with htb | htb
    · obtain ⟨r, hr, htb⟩ := List.mem_flatMap.1 htb
      obtain ⟨j, hj, hj2⟩ := List.mem_iff_getElem.1 hr
      have hr' : recs[j]? = some r := by rw [List.getElem?_eq_getElem hj, hj2]
      split at htb
      · rename_i u c hd hlit
        split at htb
        · simp only [List.mem_singleton, Prod.mk.injEq] at htb
          obtain ⟨rfl, rfl⟩ := htb
          obtain ⟨hv, ht⟩ := (g.lit hT hl0 j hr').1 b hlit
          have hlt := ht t hd
          have := (finTm_at (ops := ops) (recs := recs) (l := σ0.tm) (t0 := 0) (i := t)).2 _ (List.getElem?_eq_getElem hlt)
          rw [Nat.zero_add, g.dst_at (g.all j r hr').o hd] at this
          simp only [hr', hv] at this
          exact this
        · simp at htb
      · simp at htb
    · obtain ⟨h5, h6⟩ := List.mem_filter.1 htb
      have := (finTm_at (ops := ops) (recs := recs) (l := σ0.tm) (t0 := 0) (i := t)).2 _ (hl0 t b h5)
      rw [Nat.zero_add] at this
      cases hd : dstIdx ops t 0 with
      | none => rw [hd] at this; exact this
      | some j => rw [hd] at h6; cases h6
  · simp only [finSt]
    rw [(finTm_at (t0 := 0) (i := 0)).1]; exact h1
  · simp only [finSt] at htv
    have htl : t < σ0.tm.length := by
      have := (List.getElem?_eq_some_iff.1 htv).1
      rwa [(finTm_at (t0 := 0) (i := 0)).1] at this
    rw [(finTm_at (ops := ops) (recs := recs) (l := σ0.tm) (t0 := 0) (i := t)).2 _ (List.getElem?_eq_getElem htl), Nat.zero_add] at htv
    rw [hhl]
    cases hd : dstIdx ops t 0 with
    | none =>
      rw [hd] at htv
      injection htv with htv
      exact h2 t v hd (by rw [List.getElem?_eq_getElem htl]; exact congrArg some htv)
    | some j =>
      rw [hd] at htv
      simp only at htv
      split at htv
      · rename_i r hr
        injection htv with htv
        injection htv with htv
        subst htv
        exact h3 t j r htl hd (hp j r hr) hr
      · cases htv
theorem setIf_getD {listed : Array Bool} {i j : Nat} (hi : i < listed.size) : listedP (listed.setIfInBounds i true) j = addP (listedP listed) i j := by
  unfold listedP
  by_cases he : j = i
  · subst he
    rw [addP_self]
    simp [Array.getD, hi]
  · rw [addP_ne _ he]
    exact getD_set_ne false (Ne.symm he)
theorem draw_go (g : Good P T ops σ0 recs) (hT : TabOk D P T) (hl0 : LI σ0.li σ0.tm) (hn0 : C.n0 ≤ σ0.hp.length) {Q : Exit → Act → World → Prop} (hQ : ∀ a w, M D C (finSt ops σ0 recs) a w → Q .normal a w) :
    ∀ (fuel : Nat) (listed : Array Bool) (a : Act) (w : World), listed.size = ops.length → leftN (listedP listed) ops.length ≤ fuel → DInv D C ops σ0 recs (listedP listed) a w → wpAny P .any ops.toArray Q fuel listed a w := by
  have hdone : ∀ (listed : Array Bool) (a : Act) (w : World), listed.size = ops.length → DInv D C ops σ0 recs (listedP listed) a w → Region.ready .any ops.toArray listed = [] → Q .normal a w := by
    intro listed a w hsz hi hr
    refine hQ a w (hi.done g hT hl0 fun j => ?_)
    induction j using Nat.strongRecOn with
    | _ j ih =>
      intro hj
      cases hp : listedP listed j with
      | true => rfl
      | false =>
        exfalso
        have ho : ops[j]? = some ops[j] := List.getElem?_eq_getElem hj
        obtain ⟨r, hrr, hro⟩ := g.recAt ho
        have : j ∈ Region.ready .any ops.toArray listed := by
          refine mem_ready.2 ⟨?_, ops[j], by rw [List.getElem?_toArray, ho], fun e he hb => ?_⟩
          · unfold listedP at hp
            simp only [Array.getD, hsz, hj, dif_pos] at hp ⊢
            exact hp
          · have h1 := (preOf_mem (g.all j r hrr).pre).1 e (by rw [hro]; exact Array.mem_toList_iff.2 he) hb
            have hlt := g.pre_lt j hrr h1
            exact ih e.on hlt (by omega)
        rw [hr] at this
        cases this
  intro fuel
  induction fuel with
  | zero =>
    intro listed a w hsz hle hi
    have hall : ∀ j, j < ops.length → listedP listed j = true := fun j hj => by
      cases hp : listedP listed j with
      | true => rfl
      | false => have := leftN_pos hj hp; omega
    have hr : Region.ready .any ops.toArray listed = [] := by
      refine List.eq_nil_iff_forall_not_mem.2 fun j hj => ?_
      obtain ⟨h1, o, h2, _⟩ := mem_ready.1 hj
      have hlt : j < ops.length := by
        rw [List.getElem?_toArray] at h2
        exact (List.getElem?_eq_some_iff.1 h2).1
      have := hall j hlt
      unfold listedP at this
      simp only [Array.getD, hsz, hlt, dif_pos] at this h1
      rw [this] at h1
      cases h1
    exact ⟨hr, hdone listed a w hsz hi hr⟩
  | succ fuel ih =>
    intro listed a w hsz hle hi
    refine ⟨hdone listed a w hsz hi, fun i hir => ?_⟩
    obtain ⟨h1, o, h2, h3⟩ := mem_ready.1 hir
    rw [List.getElem?_toArray] at h2
    have hlt : i < ops.length := (List.getElem?_eq_some_iff.1 h2).1
    obtain ⟨r, hrr, hro⟩ := g.recAt h2
    have hnew : listedP listed i = false := by
      unfold listedP
      simp only [Array.getD, hsz, hlt, dif_pos] at h1 ⊢
      exact h1
    have hn : Next recs (listedP listed) i r := by
      refine ⟨hrr, hnew, fun j hj => ?_, hi.closed⟩
      obtain ⟨e, he, hb, q, hq, hjq⟩ := (preOf_mem (g.all i r hrr).pre).2 j hj
      have hon := h3 e (by rw [hro] at he; exact Array.mem_toList_iff.1 he) hb
      rcases hjq with rfl | hjq
      · exact hon
      · exact hi.closed e.on q hon (take_get hq).2 j hjq
    refine hi.step g hT hl0 hn0 hn fun a' w' hi' => ih _ a' w' (by simpa using hsz) ?_ ?_
    · have e : leftN (listedP (listed.setIfInBounds i true)) ops.length = leftN (addP (listedP listed) i) ops.length := leftN_congr fun j _ => setIf_getD (by omega)
      have := leftN_add hlt hnew
      omega
    · have e : listedP (listed.setIfInBounds i true) = addP (listedP listed) i := funext fun j => setIf_getD (by omega)
      rw [e]
      exact hi'
/-- a region whose order is open -/
theorem draw_ok (hT : TabOk D P T) (hmx : P.follows .mixedOrders = true) {id : Nat} {k : SS R → Prop} {m : Nat} {asm : List (Nat × Bool)} {a : Act} {Q : Exit → Act → World → Prop} (h : rxDraw P T ops σ0 k m asm) (hm : M D C σ0 a w) (hn : C.n0 ≤ σ0.hp.length)
    (hK : ∀ σ' a' w', k σ' → C.n0 ≤ σ'.hp.length → M D C σ' a' w' → Q .normal a' w') : (Code.region id ops.toArray true).wp P Q a w := by
  obtain ⟨recs, h1, h2, h3, h4⟩ := rxDraw_ok m h
  have g : Good P T ops σ0 recs := ⟨h1, h2, h3⟩
  refine wp_region_any hmx ?_
  have hm' : M D C σ0 a { w with drawn := w.drawn + 1 } := by
    obtain ⟨ρ, ft, q0, q1, q2⟩ := hm.ex
    exact ⟨hm.defers, hm.li, ρ, ft, q0, q1, q2.same rfl rfl rfl rfl⟩
  have hz : listedP (Array.replicate ops.toArray.size false) = fun _ => false := by
    funext j
    unfold listedP
    simp only [Array.getD]
    split
    · simp
    · rfl
  refine draw_go g hT hm.li hn (fun a' w' hM => hK _ a' w' h4 ?_ hM) _ _ a _ (by simp) ?_ ?_
  · have := g.len0 (fun _ => true)
    simp only [finSt]
    rw [(heapOf_get _ 0 0).1]
    omega
  · rw [hz]
    have : ∀ n, leftN (fun _ => false) n ≤ n := fun n => by
      induction n with
      | zero => simp [leftN]
      | succ n ih => simp only [leftN]; simp; omega
    simpa using this ops.length
  · rw [hz]
    exact DInv.start hm'
end
end Go.Proofs.Ytloibbakklenbaa.Rx
