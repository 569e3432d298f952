/- Symbolic runs: regions whose order is open: plain facts on what the operations saw. Nothing of the program. -/
import Derived.Test.YtloibbakklenbaaRxDraw
namespace Go.Proofs.Ytloibbakklenbaa.Rx
open Go.RowKit Go.Proofs.Ytloibbakklenbaa.State
set_option linter.unusedVariables false
set_option linter.unusedSimpArgs false
section
variable {R : Type} {D : Res R} {P : Program} {T : Tab R}
theorem heapOf_get {h0 : Hp R} {recs : List (Rec R)} {p sel : Nat → Bool} : ∀ (n b i : Nat), (heapOf h0 recs p sel b n).length = n ∧ (i < n → (heapOf h0 recs p sel b n)[i]? = some (if sel (b + i) then content p (b + i) recs 0 (at2 h0 (b + i)) else none))
  | 0, b, i => ⟨rfl, fun h => by omega⟩
  | n + 1, b, i => by
    obtain ⟨h1, h2⟩ := heapOf_get (h0 := h0) (recs := recs) (p := p) (sel := sel) n (b + 1) (i - 1)
    refine ⟨by simp [heapOf, h1], fun h => ?_⟩
    cases i with
    | zero => simp [heapOf]
    | succ i =>
      simp only [heapOf, List.getElem?_cons_succ]
      have := h2 (by omega)
      simp only [Nat.add_sub_cancel] at this
      rw [this, show b + 1 + i = b + (i + 1) by omega]
theorem content_congr {p q : Nat → Bool} {b : Nat} : ∀ (recs : List (Rec R)) (j0 : Nat) (acc : Option (SB R)), (∀ j r, recs[j]? = some r → touches r b = true → p (j0 + j) = q (j0 + j)) → content p b recs j0 acc = content q b recs j0 acc
  | [], _, _, _ => rfl
  | r :: l, j0, acc, h => by
    simp only [content]
    have h0 := h 0 r (by simp)
    have e : (p j0 && touches r b) = (q j0 && touches r b) := by
      cases ht : touches r b with
      | false => simp
      | true => rw [← Nat.add_zero j0, h0 ht]
    rw [e]
    exact content_congr l (j0 + 1) _ fun j r' hj ht => by
      have := h (j + 1) r' (by simpa using hj) ht
      rwa [show j0 + (j + 1) = j0 + 1 + j by omega] at this
theorem lenOf_congr {p q : Nat → Bool} : ∀ (recs : List (Rec R)) (j0 acc : Nat), (∀ j r, recs[j]? = some r → allocs r = true → p (j0 + j) = q (j0 + j)) → lenOf p recs j0 acc = lenOf q recs j0 acc
  | [], _, _, _ => rfl
  | r :: l, j0, acc, h => by
    simp only [lenOf]
    have h0 := h 0 r (by simp)
    have e : (p j0 && allocs r) = (q j0 && allocs r) := by
      cases ht : allocs r with
      | false => simp
      | true => rw [← Nat.add_zero j0, h0 ht]
    rw [e]
    exact lenOf_congr l (j0 + 1) _ fun j r' hj ht => by
      have := h (j + 1) r' (by simpa using hj) ht
      rwa [show j0 + (j + 1) = j0 + 1 + j by omega] at this
/-- the last one that counts -/
theorem content_last {p : Nat → Bool} {b : Nat} : ∀ (recs : List (Rec R)) (j0 : Nat) (acc : Option (SB R)) (i : Nat) (r : Rec R), recs[i]? = some r → p (j0 + i) = true → touches r b = true →
    (∀ j r', recs[j]? = some r' → i < j → p (j0 + j) = true → touches r' b = false) → content p b recs j0 acc = at2 r.hx b
  | [], _, _, i, r, hi, _, _, _ => by simp at hi
  | r0 :: l, j0, acc, i, r, hi, hp, ht, hn => by
    simp only [content]
    cases i with
    | zero =>
      simp only [List.getElem?_cons_zero, Option.some.injEq] at hi
      subst hi
      rw [Nat.add_zero] at hp
      simp only [hp, ht, Bool.and_self, if_true]
      have : ∀ (l : List (Rec R)) (j1 : Nat) (acc : Option (SB R)), (∀ j r', l[j]? = some r' → p (j1 + j) = true → touches r' b = false) → content p b l j1 acc = acc := by
        intro l
        induction l with
        | nil => intro j1 acc _; rfl
        | cons r' l ih =>
          intro j1 acc h
          simp only [content]
          have h0 := h 0 r' (by simp)
          have e : (p j1 && touches r' b) = false := by
            cases hp' : p j1 with
            | false => simp
            | true => simp [h0 (by rw [Nat.add_zero]; exact hp')]
          rw [e]
          exact ih (j1 + 1) acc fun j r'' hj hpj => h (j + 1) r'' (by simpa using hj) (by rwa [show j1 + (j + 1) = j1 + 1 + j by omega])
      exact this l (j0 + 1) _ fun j r' hj hpj => hn (j + 1) r' (by simpa using hj) (by omega) (by rwa [show j0 + (j + 1) = j0 + 1 + j by omega])
    | succ i =>
      simp only [List.getElem?_cons_succ] at hi
      exact content_last l (j0 + 1) _ i r hi (by rwa [show j0 + 1 + i = j0 + (i + 1) by omega]) ht fun j r' hj hlt hpj => hn (j + 1) r' (by simpa using hj) (by omega) (by rwa [show j0 + (j + 1) = j0 + 1 + j by omega])
theorem lenOf_last {p : Nat → Bool} : ∀ (recs : List (Rec R)) (j0 acc : Nat) (i : Nat) (r : Rec R), recs[i]? = some r → p (j0 + i) = true → allocs r = true →
    (∀ j r', recs[j]? = some r' → i < j → p (j0 + j) = true → allocs r' = false) → lenOf p recs j0 acc = r.hx.length
  | [], _, _, i, r, hi, _, _, _ => by simp at hi
  | r0 :: l, j0, acc, i, r, hi, hp, ht, hn => by
    simp only [lenOf]
    cases i with
    | zero =>
      simp only [List.getElem?_cons_zero, Option.some.injEq] at hi
      subst hi
      rw [Nat.add_zero] at hp
      simp only [hp, ht, Bool.and_self, if_true]
      have : ∀ (l : List (Rec R)) (j1 acc : Nat), (∀ j r', l[j]? = some r' → p (j1 + j) = true → allocs r' = false) → lenOf p l j1 acc = acc := by
        intro l
        induction l with
        | nil => intro j1 acc _; rfl
        | cons r' l ih =>
          intro j1 acc h
          simp only [lenOf]
          have h0 := h 0 r' (by simp)
          have e : (p j1 && allocs r') = false := by
            cases hp' : p j1 with
            | false => simp
            | true => simp [h0 (by rw [Nat.add_zero]; exact hp')]
          rw [e]
          exact ih (j1 + 1) acc fun j r'' hj hpj => h (j + 1) r'' (by simpa using hj) (by rwa [show j1 + (j + 1) = j1 + 1 + j by omega])
      exact this l (j0 + 1) _ fun j r' hj hpj => hn (j + 1) r' (by simpa using hj) (by omega) (by rwa [show j0 + (j + 1) = j0 + 1 + j by omega])
    | succ i =>
      simp only [List.getElem?_cons_succ] at hi
      exact lenOf_last l (j0 + 1) _ i r hi (by rwa [show j0 + 1 + i = j0 + (i + 1) by omega]) ht fun j r' hj hlt hpj => hn (j + 1) r' (by simpa using hj) (by omega) (by rwa [show j0 + (j + 1) = j0 + 1 + j by omega])
/-- either it is as it was, or some one that counts made it so -/
theorem content_from {p : Nat → Bool} {b : Nat} : ∀ (recs : List (Rec R)) (j0 : Nat) (acc : Option (SB R)), content p b recs j0 acc = acc ∨ ∃ i r, recs[i]? = some r ∧ p (j0 + i) = true ∧ touches r b = true ∧ content p b recs j0 acc = at2 r.hx b
  | [], _, _ => Or.inl rfl
  | r :: l, j0, acc => by
    simp only [content]
    rcases content_from (p := p) (b := b) l (j0 + 1) (if p j0 && touches r b then at2 r.hx b else acc) with h | ⟨i, r', h1, h2, h3, h4⟩
    · cases hc : (p j0 && touches r b) with
      | false => rw [hc] at h; left; simpa using h
      | true =>
        rw [hc] at h
        simp only [Bool.and_eq_true] at hc
        exact Or.inr ⟨0, r, by simp, by simpa using hc.1, hc.2, by simpa using h⟩
    · exact Or.inr ⟨i + 1, r', by simpa using h1, by rwa [show j0 + (i + 1) = j0 + 1 + i by omega], h3, h4⟩
theorem lenOf_from {p : Nat → Bool} : ∀ (recs : List (Rec R)) (j0 acc : Nat), lenOf p recs j0 acc = acc ∨ ∃ i r, recs[i]? = some r ∧ p (j0 + i) = true ∧ allocs r = true ∧ lenOf p recs j0 acc = r.hx.length
  | [], _, _ => Or.inl rfl
  | r :: l, j0, acc => by
    simp only [lenOf]
    rcases lenOf_from (p := p) l (j0 + 1) (if p j0 && allocs r then r.hx.length else acc) with h | ⟨i, r', h1, h2, h3, h4⟩
    · cases hc : (p j0 && allocs r) with
      | false => rw [hc] at h; left; simpa using h
      | true =>
        rw [hc] at h
        simp only [Bool.and_eq_true] at hc
        exact Or.inr ⟨0, r, by simp, by simpa using hc.1, hc.2, by simpa using h⟩
    · exact Or.inr ⟨i + 1, r', by simpa using h1, by rwa [show j0 + (i + 1) = j0 + 1 + i by omega], h3, h4⟩
theorem content_take {p : Nat → Bool} {b : Nat} : ∀ (recs : List (Rec R)) (i j0 : Nat) (acc : Option (SB R)), (∀ j, i ≤ j → p (j0 + j) = false) → content p b (recs.take i) j0 acc = content p b recs j0 acc
  | [], i, j0, acc, _ => by simp
  | r :: l, 0, j0, acc, h => by
    simp only [List.take_zero]
    have : content p b (r :: l) j0 acc = content (fun _ => false) b (r :: l) j0 acc := content_congr _ _ _ fun j _ _ _ => h j (by omega)
    rw [this]
    have key : ∀ (l : List (Rec R)) (j1 : Nat), content (fun _ => false) b l j1 acc = acc := fun l => by
      induction l with
      | nil => intro _; rfl
      | cons r l ih => intro j1; simp only [content, Bool.false_and, Bool.false_eq_true, if_false]; exact ih _
    rw [key]
    rfl
  | r :: l, i + 1, j0, acc, h => by
    simp only [List.take_succ_cons, content]
    exact content_take l i (j0 + 1) _ fun j hj => by have := h (j + 1) (by omega); rwa [show j0 + (j + 1) = j0 + 1 + j by omega] at this
theorem lenOf_take {p : Nat → Bool} : ∀ (recs : List (Rec R)) (i j0 acc : Nat), (∀ j, i ≤ j → p (j0 + j) = false) → lenOf p (recs.take i) j0 acc = lenOf p recs j0 acc
  | [], i, j0, acc, _ => by simp
  | r :: l, 0, j0, acc, h => by
    simp only [List.take_zero]
    have : lenOf p (r :: l) j0 acc = lenOf (fun _ => false) (r :: l) j0 acc := lenOf_congr _ _ _ fun j _ _ _ => h j (by omega)
    rw [this]
    have key : ∀ (l : List (Rec R)) (j1 : Nat), lenOf (fun _ => false) l j1 acc = acc := fun l => by
      induction l with
      | nil => intro _; rfl
      | cons r l ih => intro j1; simp only [lenOf, Bool.false_and, Bool.false_eq_true, if_false]; exact ih _
    rw [key]
    rfl
  | r :: l, i + 1, j0, acc, h => by
    simp only [List.take_succ_cons, lenOf]
    exact lenOf_take l i (j0 + 1) _ fun j hj => by have := h (j + 1) (by omega); rwa [show j0 + (j + 1) = j0 + 1 + j by omega] at this
theorem preOf_mem {recs : List (Rec R)} : ∀ {es : List Edge} {pre : List Nat}, preOf recs es = some pre → (∀ e ∈ es, Region.binds .any e = true → e.on ∈ pre) ∧
    ∀ j ∈ pre, ∃ e ∈ es, Region.binds .any e = true ∧ ∃ q, recs[e.on]? = some q ∧ (j = e.on ∨ j ∈ q.pre)
  | [], pre, h => by
    simp only [preOf] at h
    injection h with h
    subst h
    exact ⟨(fun e he => by cases he), fun j hj => by cases hj⟩
  | e :: l, pre, h => by
    simp only [preOf] at h
    split at h
    · cases h
    · rename_i r hr
      obtain ⟨h1, h2⟩ := preOf_mem hr
      split at h
      · rename_i hb
        split at h
        · rename_i q hq
          injection h with h
          subst h
          refine ⟨fun e' he' hb' => ?_, fun j hj => ?_⟩
          · rcases List.mem_cons.1 he' with rfl | he'
            · exact ins_mem.2 (Or.inl rfl)
            · exact ins_mem.2 (Or.inr (insL_mem.2 (Or.inr (h1 e' he' hb'))))
          · rcases ins_mem.1 hj with rfl | hj
            · exact ⟨e, List.mem_cons_self, hb, q, hq, Or.inl rfl⟩
            · rcases insL_mem.1 hj with hj | hj
              · exact ⟨e, List.mem_cons_self, hb, q, hq, Or.inr hj⟩
              · obtain ⟨e', g1, g2, g3⟩ := h2 j hj
                exact ⟨e', List.mem_cons_of_mem _ g1, g2, g3⟩
        · cases h
      · rename_i hb
        injection h with h
        subst h
        refine ⟨fun e' he' hb' => ?_, fun j hj => ?_⟩
        · rcases List.mem_cons.1 he' with rfl | he'
          · exact absurd hb' hb
          · exact h1 e' he' hb'
        · obtain ⟨e', g1, g2, g3⟩ := h2 j hj
          exact ⟨e', List.mem_cons_of_mem _ g1, g2, g3⟩
theorem dstIdx_some {ops : List Oper} : ∀ {t i0 j : Nat}, dstIdx ops t i0 = some j → ∃ k o, j = i0 + k ∧ ops[k]? = some o ∧ o.dst = some t := by
  induction ops with
  | nil => intro t i0 j h; cases h
  | cons o l ih =>
    intro t i0 j h
    simp only [dstIdx] at h
    split at h
    · rename_i u hu
      split at h
      · rename_i hb
        injection h with h
        have := Nat.eq_of_beq_eq_true hb
        subst this
        exact ⟨0, o, by omega, by simp, hu⟩
      · obtain ⟨k, o', h1, h2, h3⟩ := ih h
        exact ⟨k + 1, o', by omega, by simpa using h2, h3⟩
    · obtain ⟨k, o', h1, h2, h3⟩ := ih h
      exact ⟨k + 1, o', by omega, by simpa using h2, h3⟩
theorem dstIdx_first {ops : List Oper} : ∀ {t i0 k : Nat} {o : Oper}, ops[k]? = some o → o.dst = some t → (∀ j o', ops[j]? = some o' → j < k → o'.dst ≠ some t) → dstIdx ops t i0 = some (i0 + k) := by
  induction ops with
  | nil => intro t i0 k o h; simp at h
  | cons o0 l ih =>
    intro t i0 k o h hd hn
    simp only [dstIdx]
    cases k with
    | zero =>
      simp only [List.getElem?_cons_zero, Option.some.injEq] at h
      subst h
      simp [hd]
    | succ k =>
      simp only [List.getElem?_cons_succ] at h
      have h0 := hn 0 o0 (by simp) (by omega)
      have rest := ih (i0 := i0 + 1) h hd fun j o' hj hlt => hn (j + 1) o' (by simpa using hj) (by omega)
      rw [show i0 + 1 + k = i0 + (k + 1) by omega] at rest
      cases hu : o0.dst with
      | none => simp only; exact rest
      | some u =>
        simp only
        have : Nat.beq u t = false := by
          cases hb : Nat.beq u t with
          | false => rfl
          | true => exact absurd (by rw [hu, Nat.eq_of_beq_eq_true hb]) h0
        rw [this]
        exact rest
theorem mkTm_get {ops : List Oper} {recs : List (Rec R)} {pre tms : List Nat} : ∀ {l : List (Option Value)} {t0 i : Nat} {v : Value}, (mkTm ops recs pre tms t0 l).length = l.length ∧
    ((mkTm ops recs pre tms t0 l)[i]? = some (some v) → t0 + i ∈ tms ∧ ((∃ j r, dstIdx ops (t0 + i) 0 = some j ∧ j ∈ pre ∧ recs[j]? = some r ∧ v = r.v) ∨ (dstIdx ops (t0 + i) 0 = none ∧ l[i]? = some (some v)))) := by
  intro l
  induction l with
  | nil => intro t0 i v; exact ⟨rfl, fun h => by simp [mkTm] at h⟩
  | cons x l ih =>
    intro t0 i v
    obtain ⟨h1, _⟩ := ih (t0 := t0 + 1) (i := i) (v := v)
    refine ⟨by simp [mkTm, h1], fun h => ?_⟩
    cases i with
    | zero =>
      simp only [mkTm, List.getElem?_cons_zero, Option.some.injEq, Nat.add_zero] at h ⊢
      split at h
      · rename_i hm
        refine ⟨mem_iff.1 hm, ?_⟩
        split at h
        · rename_i j hj
          split at h
          · rename_i hpj
            split at h
            · rename_i r hr
              injection h with h
              exact Or.inl ⟨j, r, hj, mem_iff.1 hpj, hr, h.symm⟩
            · cases h
          · cases h
        · rename_i hj
          exact Or.inr ⟨hj, h⟩
      · cases h
    | succ i =>
      simp only [mkTm, List.getElem?_cons_succ] at h ⊢
      obtain ⟨_, h2⟩ := ih (t0 := t0 + 1) (i := i) (v := v)
      have := h2 h
      rwa [show t0 + 1 + i = t0 + (i + 1) by omega] at this
theorem mkLi_mem {ops : List Oper} {li : List (Nat × Bool)} {recs : List (Rec R)} {pre : List Nat} : ∀ {l : List Nat} {t : Nat} {b : Bool}, (t, b) ∈ mkLi ops li recs pre l →
    t ∈ l ∧ ((∃ j r, dstIdx ops t 0 = some j ∧ j ∈ pre ∧ recs[j]? = some r ∧ r.lit = some b) ∨ (dstIdx ops t 0 = none ∧ (t, b) ∈ li)) := by
  intro l
  induction l with
  | nil => intro t b h; cases h
  | cons u l ih =>
    intro t b h
    simp only [mkLi] at h
    rcases List.mem_append.1 h with h | h
    · split at h
      · rename_i j hj
        split at h
        · rename_i hp
          split at h
          · rename_i r hr
            split at h
            · rename_i b' hb'
              simp only [List.mem_singleton, Prod.mk.injEq] at h
              obtain ⟨rfl, rfl⟩ := h
              exact ⟨List.mem_cons_self, Or.inl ⟨j, r, hj, mem_iff.1 hp, hr, hb'⟩⟩
            · cases h
          · cases h
        · cases h
      · rename_i hj
        split at h
        · rename_i b' hb'
          simp only [List.mem_singleton, Prod.mk.injEq] at h
          obtain ⟨rfl, rfl⟩ := h
          exact ⟨List.mem_cons_self, Or.inr ⟨hj, look_mem hb'⟩⟩
        · cases h
    · obtain ⟨h1, h2⟩ := ih h
      exact ⟨List.mem_cons_of_mem _ h1, h2⟩
theorem someV_mem {l : List (Option Value)} {v : Value} : ∀ {i : Nat}, l[i]? = some (some v) → v ∈ someV l := by
  induction l with
  | nil => intro i h; simp at h
  | cons x l ih =>
    intro i h
    cases i with
    | zero =>
      simp only [List.getElem?_cons_zero, Option.some.injEq] at h
      subst h
      exact List.mem_cons_self
    | succ i =>
      simp only [List.getElem?_cons_succ] at h
      cases x with
      | none => exact ih h
      | some u => exact List.mem_cons_of_mem _ (ih h)
theorem tmpsOf_mem {l : List Operand} {t : Nat} : t ∈ tmpsOf l ↔ .tmp t ∈ l := by
  induction l with
  | nil => simp [tmpsOf]
  | cons x l ih => cases x <;> simp [tmpsOf, ih]
theorem backOk_get : ∀ {hr hx : Hp R} {b : Nat} {X : SB R}, backOk hr hx = true → hr.length ≤ hx.length ∧ (hx[b]? = some (some X) → (b < hr.length → ∃ Y, hr[b]? = some (some Y)) ∧ (isView X = false ∨ ∃ Y, hr[b]? = some (some Y) ∧ isView Y = true))
  | [], [], b, X, _ => ⟨Nat.le_refl _, fun h => by simp at h⟩
  | [], none :: hx, b, X, h => by
    simp only [backOk] at h
    have ih := fun b => backOk_get (b := b) (X := X) h
    refine ⟨by simp, fun hb => ⟨fun hlt => by simp at hlt, ?_⟩⟩
    cases b with
    | zero => simp at hb
    | succ b =>
      simp only [List.getElem?_cons_succ] at hb
      rcases ((ih b).2 hb).2 with h1 | ⟨Y, hY, _⟩
      · exact Or.inl h1
      · simp at hY
  | [], some X' :: hx, b, X, h => by
    simp only [backOk, Bool.and_eq_true, Bool.not_eq_true'] at h
    have ih := fun b => backOk_get (b := b) (X := X) h.2
    refine ⟨by simp, fun hb => ⟨fun hlt => by simp at hlt, ?_⟩⟩
    cases b with
    | zero =>
      simp only [List.getElem?_cons_zero, Option.some.injEq] at hb
      subst hb
      exact Or.inl h.1
    | succ b =>
      simp only [List.getElem?_cons_succ] at hb
      rcases ((ih b).2 hb).2 with h1 | ⟨Y, hY, _⟩
      · exact Or.inl h1
      · simp at hY
  | _ :: _, [], b, X, h => by simp [backOk] at h
  | none :: hr, none :: hx, b, X, h => by
    simp only [backOk] at h
    have ih := fun b => backOk_get (b := b) (X := X) h
    refine ⟨by have := (ih 0).1; simpa using this, fun hb => ?_⟩
    cases b with
    | zero => simp at hb
    | succ b => simp only [List.getElem?_cons_succ, List.length_cons] at hb ⊢; exact ⟨fun hlt => ((ih b).2 hb).1 (by omega), ((ih b).2 hb).2⟩
  | none :: _, some _ :: _, b, X, h => by simp [backOk] at h
  | some Y :: hr, none :: hx, b, X, h => by
    simp only [backOk] at h
    have ih := fun b => backOk_get (b := b) (X := X) h
    refine ⟨by have := (ih 0).1; simpa using this, fun hb => ?_⟩
    cases b with
    | zero => simp at hb
    | succ b => simp only [List.getElem?_cons_succ, List.length_cons] at hb ⊢; exact ⟨fun hlt => ((ih b).2 hb).1 (by omega), ((ih b).2 hb).2⟩
  | some Y :: hr, some X' :: hx, b, X, h => by
    simp only [backOk, Bool.and_eq_true, Bool.or_eq_true, Bool.not_eq_true'] at h
    have ih := fun b => backOk_get (b := b) (X := X) h.2
    refine ⟨by have := (ih 0).1; simpa using this, fun hb => ?_⟩
    cases b with
    | zero =>
      simp only [List.getElem?_cons_zero, Option.some.injEq] at hb
      subst hb
      exact ⟨fun _ => ⟨Y, by simp⟩, h.1.imp id fun hv => ⟨Y, by simp, hv⟩⟩
    | succ b => simp only [List.getElem?_cons_succ, List.length_cons] at hb ⊢; exact ⟨fun hlt => ((ih b).2 hb).1 (by omega), ((ih b).2 hb).2⟩
theorem allLt_get {f : Nat → Bool} : ∀ {n i : Nat}, allLt f n = true → i < n → f i = true
  | 0, i, _, h => by omega
  | n + 1, i, h, hi => by
    simp only [allLt, Bool.and_eq_true] at h
    by_cases he : i = n
    · rw [he]; exact h.1
    · exact allLt_get h.2 (by omega)
theorem pairsOk_get {n i : Nat} {a : Rec R} : ∀ {l : List (Rec R)} {j k : Nat} {b : Rec R}, pairsOk n i a j l = true → l[k]? = some b → pairOk n i (j + k) a b = true
  | [], j, k, b, _, h => by simp at h
  | b0 :: l, j, k, b, h, hk => by
    simp only [pairsOk, Bool.and_eq_true] at h
    cases k with
    | zero => simp only [List.getElem?_cons_zero, Option.some.injEq] at hk; subst hk; exact h.1
    | succ k =>
      simp only [List.getElem?_cons_succ] at hk
      have := pairsOk_get h.2 hk
      rwa [show j + 1 + k = j + (k + 1) by omega] at this
theorem allPairs_get {n : Nat} : ∀ {l : List (Rec R)} {i0 i j : Nat} {a b : Rec R}, allPairs n i0 l = true → l[i]? = some a → l[j]? = some b → i < j → pairOk n (i0 + i) (i0 + j) a b = true
  | [], _, i, j, a, b, _, h, _, _ => by simp at h
  | a0 :: l, i0, i, j, a, b, h, hi, hj, hlt => by
    simp only [allPairs, Bool.and_eq_true] at h
    cases j with
    | zero => omega
    | succ j =>
      simp only [List.getElem?_cons_succ] at hj
      cases i with
      | zero =>
        simp only [List.getElem?_cons_zero, Option.some.injEq] at hi
        subst hi
        have := pairsOk_get h.1 hj
        rwa [show i0 + 1 + j = i0 + (j + 1) by omega] at this
      | succ i =>
        simp only [List.getElem?_cons_succ] at hi
        have := allPairs_get h.2 hi hj (by omega)
        rwa [show i0 + 1 + i = i0 + (i + 1) by omega, show i0 + 1 + j = i0 + (j + 1) by omega] at this
end
end Go.Proofs.Ytloibbakklenbaa.Rx
