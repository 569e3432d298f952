/- Symbolic runs: loops whose rounds lay blocks anew. Nothing of the program. -/
import Derived.Test.YtloibbakklenbaaRxPrim
namespace Go.Proofs.Ytloibbakklenbaa.Rx
open Go.RowKit Go.Proofs.Ytloibbakklenbaa.State
set_option linter.unusedVariables false
set_option linter.unusedSimpArgs false
def isLoop : Option Code → Bool
  | some (.loop _) => true
  | _ => false
section
variable {R : Type} {D : Res R} {P : Program} {C : Ctx} {w : World}
/-- the slots ts hold vs, the heap has h, under other numbers -/
structure FitsM (n0 N : Nat) (ts : List Nat) (vs : List Value) (h : Hp R) (tv : List (Option Value)) (hp : Hp R) (tl : Nat) : Prop where
  ex : ∃ s : List Nat, tv = someL (dnL hp.length (mvL (nth s) vs)) ∧ Pulls hp.length (nth s) hp 0 h ∧ nodupB (hits hp.length (nth s) 0 h) = true ∧ allLt (fun i => Nat.beq (nth s i) i) n0 = true ∧ Nat.ble n0 hp.length = true ∧ tl = N
theorem slot_map {k : Nat} {u : Nat → Nat} : ∀ {ts : List Nat} {vs : List Value} {i : Nat} {v : Value}, slot ts vs i = some v → slot ts (dnL k (mvL u vs)) i = some (dnV k (mvV u v))
  | [], _, i, v, h => by simp [slot] at h
  | _ :: _, [], i, v, h => by simp [slot] at h
  | t :: ts, x :: vs, i, v, h => by
    simp only [slot, mvL, dnL] at h ⊢
    split at h
    · rename_i hb
      injection h with h
      subst h
      rw [if_pos hb]
    · rename_i hb
      rw [if_neg hb]
      exact slot_map h
theorem slot_mem : ∀ {ts : List Nat} {vs : List Value} {i : Nat} {v : Value}, slot ts vs i = some v → v ∈ vs
  | [], _, i, v, h => by simp [slot] at h
  | _ :: _, [], i, v, h => by simp [slot] at h
  | t :: ts, x :: vs, i, v, h => by
    simp only [slot] at h
    split at h
    · injection h with h; subst h; exact List.mem_cons_self
    · exact List.mem_cons_of_mem _ (slot_mem h)
theorem M.weakM {σ : SS R} {a : Act} {n0 N : Nat} {ts : List Nat} {vs : List Value} {h : Hp R} (hC : C.n0 = n0) (hm : M D C σ a w) (hf : FitsM n0 N ts vs h (vals σ.tm ts) σ.hp σ.tm.length) (hv : inbL h.length vs = true) (hi : hpIn h.length h = true) : M D C ⟨frame ts vs 0 N, [], h⟩ a w := by
  obtain ⟨ρ, ft, h0, h1, h2⟩ := hm.ex
  obtain ⟨s, f1, f2, f3, f4, f5, f6⟩ := hf.ex
  refine ⟨hm.defers, fun t b hb => (by cases hb), fun b => plusE ρ σ.hp.length (nth s b), _, fun i hi' => ?_, ⟨?_, fun t v ht => ?_⟩, h2.pulled f2 f3 hi⟩
  · have := allLt_get f4 (by omega : i < n0)
    show plusE ρ σ.hp.length (nth s i) = C.e0 i
    rw [Nat.eq_of_beq_eq_true this]
    have := Nat.le_of_ble_eq_true f5
    rw [plus_lt (by omega), h0 i hi']
  · rw [h1.size, f6, (frame_get ts vs N 0 0).1]
  · have hl : t < N := by have := (List.getElem?_eq_some_iff.1 ht).1; rw [(frame_get ts vs N 0 0).1] at this; exact this
    rw [(frame_get ts vs N 0 t).2 hl, Nat.zero_add] at ht
    injection ht with ht
    obtain ⟨g1, _⟩ := slot_vals f1 (slot_map ht)
    obtain ⟨g2, g3⟩ := h1.val t _ g1
    refine ⟨?_, inbL_iff.1 hv v (slot_mem ht)⟩
    rw [g2, ren_dn _ g3, ren_mv]
/-- a loop, by what holds at its head -/
theorem loop_atM {root : Code} {n0 : Nat} {k : Exit → SS R → Prop} {p : List Nat} {r : List (It R)} {σ : SS R} (hc : isLoop (codeAt root p) = true) {ι : Type} (I : ι → Prop) (ts : List Nat) (V : ι → List Value) (H : ι → Hp R) (μ : ι → Nat) (N : Nat)
    (hin : ∀ i, I i → inbL (H i).length (V i) = true ∧ hpIn (H i).length (H i) = true ∧ n0 ≤ (H i).length)
    (h0 : ∃ i, I i ∧ FitsM n0 N ts (V i) (H i) (vals σ.tm ts) σ.hp σ.tm.length)
    (step : ∀ i, I i → At D P root n0 k (.inl (p ++ [0]) :: .inr (.inr fun σ' => ∃ j, I j ∧ μ j < μ i ∧ FitsM n0 N ts (V j) (H j) (vals σ'.tm ts) σ'.hp σ'.tm.length) :: r) ⟨frame ts (V i) 0 N, [], H i⟩) :
    At D P root n0 k (.inl p :: r) σ := by
  have hc' : ∃ body, codeAt root p = some (.loop body) := by
    unfold isLoop at hc
    split at hc
    · exact ⟨_, by assumption⟩
    · cases hc
  obtain ⟨body, hc⟩ := hc'
  refine ⟨fun C a w hC hn hm => ?_⟩
  simp only [stk, hc]
  obtain ⟨i0, hI0, hf0⟩ := h0
  obtain ⟨q1, q2, _⟩ := hin i0 hI0
  have key : ∀ (i : ι) (a : Act) (w : World), I i → M D C ⟨frame ts (V i) 0 N, [], H i⟩ a w → (Code.loop body).wp P (stk D P C root k r) a w := by
    intro i a w hI hM
    have least : ∀ (a : Act) (w : World), (∃ i, I i ∧ M D C ⟨frame ts (V i) 0 N, [], H i⟩ a w) →
        ∃ n i, μ i = n ∧ I i ∧ M D C ⟨frame ts (V i) 0 N, [], H i⟩ a w ∧ ∀ j, I j → M D C ⟨frame ts (V j) 0 N, [], H j⟩ a w → n ≤ μ j := by
      intro a w ⟨i, hI, hM⟩
      have : ∀ (n : Nat) (i : ι), μ i = n → I i → M D C ⟨frame ts (V i) 0 N, [], H i⟩ a w → ∃ n i, μ i = n ∧ I i ∧ M D C ⟨frame ts (V i) 0 N, [], H i⟩ a w ∧ ∀ j, I j → M D C ⟨frame ts (V j) 0 N, [], H j⟩ a w → n ≤ μ j := by
        intro n
        induction n using Nat.strongRecOn with
        | _ n ih =>
          intro i hn hI hM
          by_cases hex : ∃ j, I j ∧ M D C ⟨frame ts (V j) 0 N, [], H j⟩ a w ∧ μ j < n
          · obtain ⟨j, hJ, hMj, hlt⟩ := hex
            exact ih (μ j) hlt j rfl hJ hMj
          · exact ⟨n, i, hn, hI, hM, fun j hJ hMj => Nat.le_of_not_lt fun hlt => hex ⟨j, hJ, hMj, hlt⟩⟩
      exact this _ i rfl hI hM
    have spec := fun a w h => Classical.epsilon_spec (p := fun n => ∃ i, μ i = n ∧ I i ∧ M D C ⟨frame ts (V i) 0 N, [], H i⟩ a w ∧ ∀ j, I j → M D C ⟨frame ts (V j) 0 N, [], H j⟩ a w → n ≤ μ j) (least a w h)
    refine wp_loop (fun a w => ∃ i, I i ∧ M D C ⟨frame ts (V i) 0 N, [], H i⟩ a w) (fun a w => Classical.epsilon fun n => ∃ i, μ i = n ∧ I i ∧ M D C ⟨frame ts (V i) 0 N, [], H i⟩ a w ∧ ∀ j, I j → M D C ⟨frame ts (V j) 0 N, [], H j⟩ a w → n ≤ μ j) ⟨i, hI, hM⟩ ?_
    intro a w ⟨i, hI, hM⟩
    obtain ⟨i', e1, hI', hM', hmin⟩ := spec a w ⟨i, hI, hM⟩
    obtain ⟨_, _, hn'⟩ := hin i' hI'
    have hbody := (step i' hI').run C a w hC hn' hM'
    simp only [stk] at hbody
    rw [show codeAt root (p ++ [0]) = some body by rw [codeAt_append p root _ [0] hc]; simp [codeAt]] at hbody
    refine wp_mono hbody fun e a' w' h => ?_
    cases e with
    | normal =>
      obtain ⟨σ', ⟨j, hJ, hlt, hfit⟩, _, hM2⟩ := h
      obtain ⟨g1, g2, _⟩ := hin j hJ
      have hM3 := hM2.weakM hC hfit g1 g2
      refine ⟨⟨j, hJ, hM3⟩, ?_⟩
      obtain ⟨i2, e2, _, _, hmin2⟩ := spec a' w' ⟨j, hJ, hM3⟩
      have := hmin2 j hJ hM3
      omega
    | _ => exact h
  exact key i0 a w hI0 (hm.weakM hC hf0 q1 q2)
end
end Go.Proofs.Ytloibbakklenbaa.Rx
