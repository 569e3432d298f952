/- Symbolic runs: the code of a function. Nothing of the program. -/
import Derived.Test.YtloibbakklenbaaRxDrawC
namespace Go.Proofs.Ytloibbakklenbaa.Rx
open Go.RowKit Go.Proofs.Ytloibbakklenbaa.State
set_option linter.unusedVariables false
set_option linter.unusedSimpArgs false
section
variable {R : Type} {D : Res R} {P : Program} {T : Tab R} {C : Ctx} {w w' : World}
/-- the code of a function, run from σ as far as it goes: up to its loops -/
def rx (D : Res R) (P : Program) (T : Tab R) (root : Code) (n0 : Nat) (k : Exit → SS R → Prop) : Nat → List (It R) → SS R → Prop
  | 0, todo, σ => At D P root n0 k todo σ
  | n + 1, todo, σ =>
    match todo with
    | [] => k .normal σ
    | .inr (.inl _) :: r => rx D P T root n0 k n r σ
    | .inr (.inr J) :: r => Post (J σ)
    | .inl p :: r =>
      match codeAt root p with
      | none => Stuck 5
      | some c =>
        match c with
        | .skip => rx D P T root n0 k n r σ
        | .label _ => rx D P T root n0 k n r σ
        | .seq _ _ => rx D P T root n0 k n (.inl (p ++ [0]) :: .inl (p ++ [1]) :: r) σ
        | .block id _ => rx D P T root n0 k n (.inl (p ++ [0]) :: .inr (.inl id) :: r) σ
        | .cond x _ _ =>
          match litOf σ.li x with
          | some true => rx D P T root n0 k n (.inl (p ++ [0]) :: r) σ
          | some false => rx D P T root n0 k n (.inl (p ++ [1]) :: r) σ
          | none =>
            match x with
            | .tmp t => match σ.tm[t]? with
              | some (some (.bool b)) =>
                (b = true → fSS (assume σ t true) fun σ => rx D P T root n0 k n (.inl (p ++ [0]) :: r) σ) ∧
                (b = false → fSS (assume σ t false) fun σ => rx D P T root n0 k n (.inl (p ++ [1]) :: r) σ)
              | _ => Stuck 6
            | _ => Stuck 7
        | .exit id =>
          match popTo id r with
          | some r' => rx D P T root n0 k n r' σ
          | none => k (.exit id) σ
        | .ret => k .ret σ
        | .region _ ⟨ops⟩ false => rxList P T ops ops σ fun σ' => rx D P T root n0 k n r σ'
        | .region _ ⟨ops⟩ true => rxDraw P T ops σ (fun σ' => rx D P T root n0 k n r σ') (ops.length + 1) []
        | _ => At D P root n0 k (.inl p :: r) σ
theorem rx_ok (hT : TabOk D P T) (hmx : P.follows .mixedOrders = true) {root : Code} {n0 : Nat} {k : Exit → SS R → Prop} : ∀ (n : Nat) {todo : List (It R)} {σ : SS R}, rx D P T root n0 k n todo σ → At D P root n0 k todo σ
  | 0, todo, σ, h => h
  | n + 1, todo, σ, h => by
    refine ⟨fun C a w hC hn hm => ?_⟩
    have ih : ∀ {todo : List (It R)} {σ : SS R} {a : Act} {w : World}, rx D P T root n0 k n todo σ → n0 ≤ σ.hp.length → M D C σ a w → stk D P C root k todo .normal a w := fun h hn hm => (rx_ok hT hmx n h).run C _ _ hC hn hm
    unfold rx at h
    simp only [fSS_eq] at h
    split at h
    · exact ⟨σ, h, hm⟩
    · rename_i id r
      show stk D P C root k r .normal a w
      exact ih h hn hm
    · rename_i J r
      exact ⟨σ, h.out, by rw [hC]; exact hn, hm⟩
    · rename_i p r
      split at h
      · exact h.elim
      · rename_i c hc
        simp only [stk, hc]
        have sub : ∀ (i : Nat) (d : Code), codeAt c [i] = some d → codeAt root (p ++ [i]) = some d := fun i d hd => by rw [codeAt_append p root c [i] hc]; exact hd
        split at h
        · exact wp_skip (ih h hn hm)
        · exact wp_label (ih h hn hm)
        · rename_i x y
          have h1 := ih h hn hm
          simp only [stk, sub 0 x (by simp [codeAt])] at h1
          refine wp_seq (wp_mono h1 fun e a' w' h2 => ?_)
          cases e with
          | normal =>
            simp only [sub 1 y (by simp [codeAt])] at h2
            exact h2
          | _ => exact h2
        · rename_i id x
          have h1 := ih h hn hm
          simp only [stk, sub 0 x (by simp [codeAt])] at h1
          exact wp_block h1
        · rename_i x y z
          split at h
          · rename_i hl
            have h1 := ih h hn hm
            simp only [stk, sub 0 y (by simp [codeAt])] at h1
            obtain ⟨ρ, ft, _, g1, _⟩ := hm.ex
            have := (ev_eval g1 (lit_ev hm.li hl)).1
            exact wp_cond_true (by simpa using this) h1
          · rename_i hl
            have h1 := ih h hn hm
            simp only [stk, sub 1 z (by simp [codeAt])] at h1
            obtain ⟨ρ, ft, _, g1, _⟩ := hm.ex
            have := (ev_eval g1 (lit_ev hm.li hl)).1
            exact wp_cond_false (by simpa using this) h1
          · split at h
            · rename_i t _
              split at h
              · rename_i b hb
                have ht := M_li hm hb
                have he : a.eval (.tmp t) = .bool b := by simp [Act.eval, ht]
                cases b with
                | true =>
                  have h1 := ih (h.1 rfl) (by simpa [assume] using hn) (hm.assume hb)
                  simp only [stk, sub 0 y (by simp [codeAt])] at h1
                  exact wp_cond_true he h1
                | false =>
                  have h1 := ih (h.2 rfl) (by simpa [assume] using hn) (hm.assume hb)
                  simp only [stk, sub 1 z (by simp [codeAt])] at h1
                  exact wp_cond_false he h1
              · exact h.elim
            · exact h.elim
        · rename_i id
          refine wp_exit (stk_exit ?_)
          split at h
          · rename_i r' hp'
            rw [hp']
            exact ih h hn hm
          · rename_i hp'
            rw [hp']
            exact ⟨σ, h, hm⟩
        · exact wp_ret (stk_ret ⟨σ, h, hm⟩)
        · rename_i id ops
          refine wp_region_list ?_
          exact rxList_ok hT ops h hm (by omega) fun σ' a' w' h' hn' hm' => ih h' (by omega) hm'
        · rename_i id ops
          exact draw_ok hT hmx h hm (by omega) fun σ' a' w' h' hn' hm' => ih h' (by omega) hm'
        · have := h.run C a w hC hn hm
          simpa only [stk, hc] using this
end
end Go.Proofs.Ytloibbakklenbaa.Rx
