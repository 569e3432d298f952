/- Symbolic runs: a run on a part of the heap. Nothing of the program. -/
import Derived.Test.YtloibbakklenbaaRxFun
namespace Go.Proofs.Ytloibbakklenbaa.Rx
open Go.RowKit Go.Proofs.Ytloibbakklenbaa.State
set_option linter.unusedVariables false
set_option linter.unusedSimpArgs false
section
variable {R : Type} {D : Res R} {C : Ctx} {ρ ρ' : Env} {ft ft' : Nat → Nat → Prop} {w w' : World} {h hr hx h' : Hp R}
def isView : SB R → Bool
  | .inr (.inr (.inl _)) => true
  | _ => false
/-- what a block says hangs on the context for a row that is only read alone -/
theorem hold_ctx {C' : Ctx} {i : Nat} {F : Nat → Prop} {B : SB R} (hB : isView B = false) (hh : hold D C ρ i F w B) : hold D C' ρ i F w B := by
  rcases B with ⟨t, cs⟩ | ⟨t, r⟩ | r | x
  · exact hh
  · exact hh
  · cases hB
  · exact hh
def Seen (hr : Hp R) (b : Nat) : Prop := ∃ X, hr[b]? = some (some X)
def localC (w : World) (hr : Hp R) (ft : Nat → Nat → Prop) (ρ : Env) (n : Nat) : Ctx := ⟨w, fun k => ∃ b, Seen hr b ∧ ft b k, ρ, n⟩
/-- the part that is seen -/
theorem HM.sub (hm : HM D C ρ ft h w) (hsub : ∀ (b : Nat) (X : SB R), hr[b]? = some (some X) → h[b]? = some (some X)) (hin : hpIn hr.length hr = true) (n : Nat) :
    HM D (localC w hr ft ρ n) ρ (fun b k => Seen hr b ∧ ft b k) hr w where
  at_ i B hB := by
    obtain ⟨h1, h2⟩ := hm.at_ i B (hsub i B hB)
    refine ⟨?_, hpIn_get hin hB⟩
    have hft : (fun k => Seen hr i ∧ ft i k) = ft i := funext fun k => propext ⟨fun h => h.2, fun h => ⟨⟨B, hB⟩, h⟩⟩
    rw [hft]
    rcases B with ⟨t, cs⟩ | ⟨t, r⟩ | r | x
    · exact h1
    · exact h1
    · obtain ⟨g1, g2, g3, g4, g5, arr, g6, g7⟩ := h1
      refine ⟨g1, g2, g3, g4, g5, arr, fun hn h0 => ?_, g7⟩
      obtain ⟨q1, q2, t, fz, q3⟩ := g6 hn h0
      refine ⟨Nat.lt_of_lt_of_le q1 hm.kept.size, fun ⟨b, _, hb⟩ => ?_, t, fz, by rw [← q3]; exact hm.kept.block _ q1 q2⟩
      rcases hm.fresh b _ hb with hu | hge
      · exact q2 hu
      · omega
    · exact h1
  lt i k hk := hm.lt i k hk.2
  fresh i k hk := Or.inl ⟨i, hk.1, hk.2⟩
  apart i j k hi hj := hm.apart i j k hi.2 hj.2
  some_ i k hk := hk.1
  kept := Kept.refl _ _
/-- and back -/
theorem HM.back (hm : HM D C ρ ft h w) (hsub : ∀ (b : Nat) (X : SB R), hr[b]? = some (some X) → h[b]? = some (some X)) (hle : hr.length ≤ h.length) {n : Nat}
    (hm' : HM D (localC w hr ft ρ n) ρ' ft' hx w') (hρ : ∀ b, b < hr.length → ρ' b = ρ b) (hlx : hr.length ≤ hx.length) (hal : hr.length < hx.length → hr.length = h.length)
    (hv : ∀ (b : Nat) (X : SB R), hx[b]? = some (some X) → (b < hr.length → ∃ Y, hr[b]? = some (some Y)) ∧ (isView X = false ∨ ∃ Y, hr[b]? = some (some Y) ∧ isView Y = true))
    (hlen : h'.length = if hr.length < hx.length then hx.length else h.length)
    (hnew : ∀ (b : Nat), (∃ Y, hr[b]? = some (some Y) ∧ isView Y = false) ∨ h.length ≤ b → h'[b]? = if b < hx.length then hx[b]? else none)
    (hold_ : ∀ (b : Nat), b < h.length → ¬ (∃ Y, hr[b]? = some (some Y) ∧ isView Y = false) → h'[b]? = h[b]?) :
    HM D C (fun b => if b < h.length then ρ b else ρ' b) (fun b k => (((∃ Y, hr[b]? = some (some Y) ∧ isView Y = false) ∨ h.length ≤ b) ∧ ft' b k) ∨ (¬ ((∃ Y, hr[b]? = some (some Y) ∧ isView Y = false) ∨ h.length ≤ b) ∧ ft b k)) h' w' := by
  have hhx : h'.length ≤ hx.length ∨ h'.length = h.length := by
    rw [hlen]; split
    · exact Or.inl (Nat.le_refl _)
    · exact Or.inr rfl
  have hge : h.length ≤ h'.length := by
    rw [hlen]; split
    · rename_i hlt; have := hal hlt; omega
    · exact Nat.le_refl _
  -- a block seen, that is not only read
  let T : Nat → Prop := fun b => ∃ Y, hr[b]? = some (some Y) ∧ isView Y = false
  have hTlt : ∀ b, T b → b < hr.length := fun b ⟨Y, hY, _⟩ => (List.getElem?_eq_some_iff.1 hY).1
  have hρ2 : ∀ j, j < hx.length → (if j < h.length then ρ j else ρ' j) = ρ' j := fun j hj => by
    split
    · rename_i hlt
      rcases Nat.lt_or_ge j hr.length with h1 | h1
      · exact (hρ j h1).symm
      · have := hal (by omega); omega
    · rfl
  refine hm.step T ?_ (fun i hi => by simp [hi]) hge ?_ ?_ ?_ ?_
  · -- what may have been written
    refine ⟨hm'.kept.os, hm'.kept.tape, hm'.kept.output, hm'.kept.size, fun k hk hn => hm'.kept.block k hk fun ⟨b, ⟨X, hX⟩, hb⟩ => hn ⟨b, ⟨X, hX, ?_⟩, hb⟩⟩
    cases hX2 : isView X with
    | false => rfl
    | true =>
      have := (hm.at_ b X (hsub b X hX)).1
      rcases X with ⟨t, cs⟩ | ⟨t, r⟩ | r | x <;> simp [isView] at hX2
      exact absurd hb (this.1 k)
  · intro i B hi hB
    have hTn : T i ∨ h.length ≤ i := by
      rcases Nat.lt_or_ge i h.length with hlt | hge'
      · exact Or.inl (hi hlt)
      · exact Or.inr hge'
    rw [hnew i hTn] at hB
    split at hB
    · rename_i hlt
      obtain ⟨g1, g2⟩ := hm'.at_ i B hB
      have hnv : isView B = false := by
        rcases (hv i B hB).2 with h1 | ⟨Y, hY, hYv⟩
        · exact h1
        · rcases hTn with ⟨Y', hY', hYv'⟩ | hge'
          · rw [hY] at hY'; injection hY' with e; injection e with e; subst e; rw [hYv] at hYv'; cases hYv'
          · have := (List.getElem?_eq_some_iff.1 hY).1; omega
      refine ⟨?_, inside_mono ?_ g2⟩
      · have e : (fun k => ((T i ∨ h.length ≤ i) ∧ ft' i k) ∨ (¬ (T i ∨ h.length ≤ i) ∧ ft i k)) = ft' i := funext fun k => propext ⟨fun h => h.elim (fun h => h.2) (fun h => absurd hTn h.1), fun h => Or.inl ⟨hTn, h⟩⟩
        show hold D C _ i (fun k => ((T i ∨ h.length ≤ i) ∧ ft' i k) ∨ (¬ (T i ∨ h.length ≤ i) ∧ ft i k)) w' B
        rw [e]
        exact hold_ctx hnv (hold_env g1 hρ2 hlt g2)
      · rw [hlen]; split
        · exact Nat.le_refl _
        · have : hx.length = hr.length := by omega
          omega
    · cases hB
  · intro i hi hn
    refine ⟨hold_ i hi hn, fun k => ?_⟩
    have : ¬ (T i ∨ h.length ≤ i) := fun hh => hh.elim hn (fun h => by omega)
    exact ⟨fun h => h.elim (fun h => absurd h.1 this) (fun h => h.2), fun h => Or.inr ⟨this, h⟩⟩
  · intro i k hi hk
    have hTn : T i ∨ h.length ≤ i := by
      rcases Nat.lt_or_ge i h.length with hlt | hge'
      · exact Or.inl (hi hlt)
      · exact Or.inr hge'
    have hk' : ft' i k := hk.elim (fun h => h.2) (fun h => absurd hTn h.1)
    refine ⟨?_, hm'.lt i k hk', ?_⟩
    · rcases hm'.fresh i k hk' with ⟨b, ⟨X, hX⟩, hb⟩ | hge'
      · refine Or.inl ⟨b, ⟨X, hX, ?_⟩, hb⟩
        cases hX2 : isView X with
        | false => rfl
        | true =>
          have := (hm.at_ b X (hsub b X hX)).1
          rcases X with ⟨t, cs⟩ | ⟨t, r⟩ | r | x <;> simp [isView] at hX2
          exact absurd hb (this.1 k)
      · exact Or.inr hge'
    · obtain ⟨B, hB⟩ := hm'.some_ i k hk'
      refine ⟨B, ?_⟩
      rw [hnew i hTn, if_pos (List.getElem?_eq_some_iff.1 hB).1]
      exact hB
  · intro i j k hi hj hki hkj
    have hTi : T i ∨ h.length ≤ i := by
      rcases Nat.lt_or_ge i h.length with hlt | hge'
      · exact Or.inl (hi hlt)
      · exact Or.inr hge'
    have hTj : T j ∨ h.length ≤ j := by
      rcases Nat.lt_or_ge j h.length with hlt | hge'
      · exact Or.inl (hj hlt)
      · exact Or.inr hge'
    exact hm'.apart i j k (hki.elim (fun h => h.2) (fun h => absurd hTi h.1)) (hkj.elim (fun h => h.2) (fun h => absurd hTj h.1))
end
end Go.Proofs.Ytloibbakklenbaa.Rx
