/- Symbolic runs: up to places that are named, with the slots that are kept there. Nothing of the program. -/
import Derived.Test.YtloibbakklenbaaRxStop
namespace Go.Proofs.Ytloibbakklenbaa.Rx
open Go.RowKit Go.Proofs.Ytloibbakklenbaa.State
set_option linter.unusedVariables false
set_option linter.unusedSimpArgs false
def findP : List (List Nat × List Nat) → List Nat → Option (List Nat)
  | [], _ => none
  | (q, ts) :: l, p => match eqP q p with
    | true => some ts
    | false => findP l p
def keepT (ts : List Nat) : Nat → List (Option Value) → List (Option Value)
  | _, [] => []
  | i, x :: l => (match mem ts i with
    | true => x
    | false => none) :: keepT ts (i + 1) l
section
variable {R : Type} {D : Res R} {P : Program} {T : Tab R} {C : Ctx} {w w' : World}
theorem keepT_get (ts : List Nat) : ∀ (l : List (Option Value)) (i j : Nat), (keepT ts i l).length = l.length ∧ ∀ v, (keepT ts i l)[j]? = some (some v) → l[j]? = some (some v)
  | [], i, j => ⟨rfl, fun v h => by simp [keepT] at h⟩
  | x :: l, i, j => by
    obtain ⟨h1, h2⟩ := keepT_get ts l (i + 1) (j - 1)
    refine ⟨by simp [keepT, h1], fun v h => ?_⟩
    cases j with
    | zero =>
      simp only [keepT, List.getElem?_cons_zero, Option.some.injEq] at h ⊢
      split at h
      · exact h
      · cases h
    | succ j =>
      simp only [keepT, List.getElem?_cons_succ] at h ⊢
      simp only [Nat.add_sub_cancel] at h2
      exact h2 v h
theorem M.keep {σ : SS R} {a : Act} {ts : List Nat} (hm : M D C σ a w) : M D C ⟨keepT ts 0 σ.tm, [], σ.hp⟩ a w := by
  obtain ⟨ρ, ft, h0, h1, h2⟩ := hm.ex
  exact ⟨hm.defers, fun t b hb => (by cases hb), ρ, ft, h0, ⟨by rw [h1.size, (keepT_get ts σ.tm 0 0).1], fun t v ht => h1.val t v ((keepT_get ts σ.tm 0 t).2 v ht)⟩, h2⟩
/-- the like, up to the places S, too -/
def rxK (S : List (List Nat × List Nat)) (D : Res R) (P : Program) (T : Tab R) (root : Code) (n0 : Nat) (k : Exit → SS R → Prop) : Nat → List (It R) → SS R → Prop
  | 0, todo, σ => At D P root n0 k todo σ
  | n + 1, todo, σ =>
    match todo with
    | [] => k .normal σ
    | .inr (.inl _) :: r => rxK S D P T root n0 k n r σ
    | .inr (.inr J) :: r => Post (J σ)
    | .inl p :: r =>
      match findP S p with
      | some ts => At D P root n0 k (.inl p :: r) ⟨keepT ts 0 σ.tm, [], σ.hp⟩
      | none =>
      match codeAt root p with
      | none => Stuck 5
      | some c =>
        match c with
        | .skip => rxK S D P T root n0 k n r σ
        | .label _ => rxK S D P T root n0 k n r σ
        | .seq _ _ => rxK S D P T root n0 k n (.inl (p ++ [0]) :: .inl (p ++ [1]) :: r) σ
        | .block id _ => rxK S D P T root n0 k n (.inl (p ++ [0]) :: .inr (.inl id) :: r) σ
        | .cond x _ _ =>
          match litOf σ.li x with
          | some true => rxK S D P T root n0 k n (.inl (p ++ [0]) :: r) σ
          | some false => rxK S D P T root n0 k n (.inl (p ++ [1]) :: r) σ
          | none =>
            match x with
            | .tmp t => match σ.tm[t]? with
              | some (some (.bool b)) =>
                (b = true → fSS (assume σ t true) fun σ => rxK S D P T root n0 k n (.inl (p ++ [0]) :: r) σ) ∧
                (b = false → fSS (assume σ t false) fun σ => rxK S D P T root n0 k n (.inl (p ++ [1]) :: r) σ)
              | _ => Stuck 6
            | _ => Stuck 7
        | .exit id =>
          match popTo id r with
          | some r' => rxK S D P T root n0 k n r' σ
          | none => k (.exit id) σ
        | .ret => k .ret σ
        | .region _ ⟨ops⟩ false => rxList P T ops ops σ fun σ' => rxK S D P T root n0 k n r σ'
        | .region _ ⟨ops⟩ true => rxDraw P T ops σ (fun σ' => rxK S D P T root n0 k n r σ') (ops.length + 1) []
        | _ => At D P root n0 k (.inl p :: r) σ
theorem rxK_ok (S : List (List Nat × List Nat)) (hT : TabOk D P T) (hmx : P.follows .mixedOrders = true) {root : Code} {n0 : Nat} {k : Exit → SS R → Prop} : ∀ (n : Nat) {todo : List (It R)} {σ : SS R}, rxK S D P T root n0 k n todo σ → At D P root n0 k todo σ
  | 0, todo, σ, h => h
  | n + 1, todo, σ, h => by
    refine ⟨fun C a w hC hn hm => ?_⟩
    have ih : ∀ {todo : List (It R)} {σ : SS R} {a : Act} {w : World}, rxK S D P T root n0 k n todo σ → n0 ≤ σ.hp.length → M D C σ a w → stk D P C root k todo .normal a w := fun h hn hm => (rxK_ok S hT hmx n h).run C _ _ hC hn hm
    unfold rxK at h
    simp only [fSS_eq] at h
    split at h
    · exact ⟨σ, h, hm⟩
    · rename_i id r
      show stk D P C root k r .normal a w
      exact ih h hn hm
    · rename_i J r
      exact ⟨σ, h.out, by rw [hC]; exact hn, hm⟩
    · rename_i p r
      split at h
      · exact h.run C a w hC hn hm.keep
      split at h
      · exact h.elim
      · rename_i c hc
        simp only [stk, hc]
        have sub : ∀ (i : Nat) (d : Code), codeAt c [i] = some d → codeAt root (p ++ [i]) = some d := fun i d hd => by rw [codeAt_append p root c [i] hc]; exact hd
        split at h
        · exact wp_skip (ih h hn hm)
        · exact wp_label (ih h hn hm)
        · rename_i x y
          have h1 := ih h hn hm
          simp only [stk, sub 0 x (by simp [codeAt])] at h1
          refine wp_seq (wp_mono h1 fun e a' w' h2 => ?_)
          cases e with
          | normal =>
            simp only [sub 1 y (by simp [codeAt])] at h2
            exact h2
          | _ => exact h2
        · rename_i id x
          have h1 := ih h hn hm
          simp only [stk, sub 0 x (by simp [codeAt])] at h1
          exact wp_block h1
        · rename_i x y z
          split at h
          · rename_i hl
            have h1 := ih h hn hm
            simp only [stk, sub 0 y (by simp [codeAt])] at h1
            obtain ⟨ρ, ft, _, g1, _⟩ := hm.ex
            have := (ev_eval g1 (lit_ev hm.li hl)).1
            exact wp_cond_true (by simpa using this) h1
          · rename_i hl
            have h1 := ih h hn hm
            simp only [stk, sub 1 z (by simp [codeAt])] at h1
            obtain ⟨ρ, ft, _, g1, _⟩ := hm.ex
            have := (ev_eval g1 (lit_ev hm.li hl)).1
            exact wp_cond_false (by simpa using this) h1
          · split at h
            · rename_i t _
              split at h
              · rename_i b hb
                have ht := M_li hm hb
                have he : a.eval (.tmp t) = .bool b := by simp [Act.eval, ht]
                cases b with
                | true =>
                  have h1 := ih (h.1 rfl) (by simpa [assume] using hn) (hm.assume hb)
                  simp only [stk, sub 0 y (by simp [codeAt])] at h1
                  exact wp_cond_true he h1
                | false =>
                  have h1 := ih (h.2 rfl) (by simpa [assume] using hn) (hm.assume hb)
                  simp only [stk, sub 1 z (by simp [codeAt])] at h1
                  exact wp_cond_false he h1
              · exact h.elim
            · exact h.elim
        · rename_i id
          refine wp_exit (stk_exit ?_)
          split at h
          · rename_i r' hp'
            rw [hp']
            exact ih h hn hm
          · rename_i hp'
            rw [hp']
            exact ⟨σ, h, hm⟩
        · exact wp_ret (stk_ret ⟨σ, h, hm⟩)
        · rename_i id ops
          refine wp_region_list ?_
          exact rxList_ok hT ops h hm (by omega) fun σ' a' w' h' hn' hm' => ih h' (by omega) hm'
        · rename_i id ops
          exact draw_ok hT hmx h hm (by omega) fun σ' a' w' h' hn' hm' => ih h' (by omega) hm'
        · have := h.run C a w hC hn hm
          simpa only [stk, hc] using this
/-- what is known, under other numbers -/
theorem At.fit {root : Code} {n0 : Nat} {k : Exit → SS R → Prop} {todo : List (It R)} {σ : SS R} (ts : List Nat) (V : List Value) (H : Hp R) (N : Nat) (hin : inbL H.length V = true ∧ hpIn H.length H = true ∧ n0 ≤ H.length)
    (hf : FitsM n0 N ts V H (vals σ.tm ts) σ.hp σ.tm.length) (h : At D P root n0 k todo ⟨frame ts V 0 N, [], H⟩) : At D P root n0 k todo σ :=
  ⟨fun C a w hC _ hm => h.run C a w hC hin.2.2 (hm.weakM hC hf hin.1 hin.2.1)⟩
end
end Go.Proofs.Ytloibbakklenbaa.Rx
