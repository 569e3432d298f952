/- arena: plain facts on a pool's lists. -/
import Derived.Test.YtloibbakklenbaaArVisit
namespace Go.Proofs.Ytloibbakklenbaa.Ar
open Go.Proofs.Ytloibbakklenbaa.Rx
set_option linter.unusedVariables false
set_option linter.unusedSimpArgs false
/-- a pool that is sound, all of whose numbers are at most n -/
structure PM.Ok (m : PM) (n : Nat) : Prop where
  gens : m.gens.length = m.vs.length
  live : m.live.length = m.vs.length
  inn : ∀ f ∈ m.free, 0 ≤ f ∧ f < m.vs.length
  cells : m.vs.length ≤ n
  frees : m.free.length ≤ n
  gen : ∀ g ∈ m.gens, 0 ≤ g ∧ g ≤ n
  vis : 0 ≤ m.visits ∧ m.visits ≤ n
  hld : -n ≤ m.held ∧ m.held ≤ n
def PM.put (m : PM) (v : Int) : PM :=
  if m.held = m.cap then m else
    { nextPM m with vs := (nextPM m).vs.set (nextIdx m).toNat v, live := (nextPM m).live.set (nextIdx m).toNat true, gens := (nextPM m).gens.set (nextIdx m).toNat ((nextPM m).gens.getD (nextIdx m).toNat 0 + 1), held := m.held + 1 }
def PM.putI (m : PM) : Int := if m.held = m.cap then 0 else nextIdx m
def PM.putG (m : PM) : Int := if m.held = m.cap then 0 else (nextPM m).gens.getD (nextIdx m).toNat 0 + 1
def PM.visit (m : PM) : PM := { m with visits := m.visits + 1 }
def PM.get (m : PM) (i g : Int) : PM := if hasPM m i g then m.visit else m
def PM.getV (m : PM) (i g : Int) : Int := if hasPM m i g then m.vs.getD i.toNat 0 else 0
def PM.set (m : PM) (i g v : Int) : PM := if hasPM m i g then { m.visit with vs := m.vs.set i.toNat v } else m
def PM.drop (m : PM) (i g : Int) : PM :=
  if hasPM m i g then { m.visit with vs := m.vs.set i.toNat 0, live := m.live.set i.toNat false, held := m.held - 1, free := if m.gens.getD i.toNat 0 < 4294967295 then m.free ++ [i] else m.free } else m
theorem getD_mem {α : Type} {l : List α} {i : Nat} {d : α} (h : i < l.length) : l.getD i d ∈ l := by
  rw [List.getD_eq_getElem?_getD, List.getElem?_eq_getElem h]
  exact List.getElem_mem h
theorem PM.Ok.idx {m : PM} {n : Nat} (h : m.Ok n) : 0 ≤ nextIdx m ∧ nextIdx m < (nextPM m).vs.length := by
  unfold nextIdx nextPM
  by_cases h0 : m.free.length = 0
  · rw [if_pos h0, if_pos h0]
    simp only [List.length_append, List.length_singleton]
    omega
  · rw [if_neg h0, if_neg h0]
    exact h.inn _ (getD_mem (by omega))
theorem PM.Ok.next {m : PM} {n : Nat} (h : m.Ok n) : (nextPM m).Ok (n + 1) ∧ (nextPM m).held = m.held ∧ (nextPM m).cap = m.cap ∧ (nextPM m).visits = m.visits := by
  obtain ⟨h1, h2, h3, h4, h5, h6, h7, h8⟩ := h
  unfold nextPM
  by_cases h0 : m.free.length = 0
  · rw [if_pos h0]
    refine ⟨⟨by simp [h1], by simp [h2], fun f hf => ?_, by simp; omega, by simp; omega, fun g hg => ?_, by simp; omega, by simp; omega⟩, rfl, rfl, rfl⟩
    · have := h3 f hf
      simp
      omega
    · rcases List.mem_append.1 hg with hg | hg
      · have := h6 g hg; omega
      · simp at hg; omega
  · rw [if_neg h0]
    refine ⟨⟨h1, h2, fun f hf => h3 f (List.mem_of_mem_take hf), by simp only; omega, by simp only [List.length_take]; omega, fun g hg => ?_, by simp only; omega, by simp only; omega⟩, rfl, rfl, rfl⟩
    have := h6 g hg; omega
theorem getD_bound {l : List Int} {i n : Nat} (h : ∀ g ∈ l, 0 ≤ g ∧ g ≤ (n : Int)) : 0 ≤ l.getD i 0 ∧ l.getD i 0 ≤ n := by
  rcases Nat.lt_or_ge i l.length with hl | hl
  · exact h _ (getD_mem hl)
  · rw [List.getD_eq_getElem?_getD, List.getElem?_eq_none hl]
    simp
theorem mem_set' {α : Type} {l : List α} {i : Nat} {a x : α} (h : x ∈ l.set i a) : x ∈ l ∨ x = a := List.mem_or_eq_of_mem_set h
theorem PM.Ok.put {m : PM} {n : Nat} (h : m.Ok n) (v : Int) : (m.put v).Ok (n + 2) := by
  obtain ⟨q, q1, q2, q3⟩ := h.next
  obtain ⟨g1, g2, g3, g4, g5, g6, g7, g8⟩ := q
  unfold PM.put
  by_cases hc : m.held = m.cap
  · rw [if_pos hc]
    obtain ⟨h1, h2, h3, h4, h5, h6, h7, h8⟩ := h
    exact ⟨h1, h2, h3, by omega, by omega, fun g hg => by have := h6 g hg; omega, by omega, by omega⟩
  · rw [if_neg hc]
    have hb := getD_bound (i := (nextIdx m).toNat) g6
    refine ⟨by simp [g1], by simp [g2], fun f hf => ?_, by simp only [List.length_set]; omega, by simp only; omega, fun g hg => ?_, by simp only; omega, by simp only; have := h.hld; omega⟩
    · have := g3 f hf; simp only [List.length_set]; omega
    · rcases mem_set' hg with hg | hg
      · have := g6 g hg; omega
      · omega
theorem PM.Ok.mono {m : PM} {n k : Nat} (h : m.Ok n) (hk : n ≤ k) : m.Ok k := by
  obtain ⟨h1, h2, h3, h4, h5, h6, h7, h8⟩ := h
  exact ⟨h1, h2, h3, by omega, by omega, fun g hg => by have := h6 g hg; omega, by omega, by omega⟩
theorem PM.Ok.visit {m : PM} {n : Nat} (h : m.Ok n) : m.visit.Ok (n + 1) := by
  obtain ⟨h1, h2, h3, h4, h5, h6, h7, h8⟩ := h
  unfold PM.visit
  exact ⟨h1, h2, h3, by simp only; omega, by simp only; omega, fun g hg => by have := h6 g hg; omega, by simp only; omega, by simp only; omega⟩
theorem has_spec {m : PM} {i g : Int} (h : hasPM m i g = true) : 0 ≤ i ∧ i < m.vs.length ∧ m.live.getD i.toNat false = true ∧ m.gens.getD i.toNat 0 = g := by
  simp only [hasPM, Bool.and_eq_true, decide_eq_true_eq] at h
  obtain ⟨⟨⟨w1, w2⟩, w3⟩, w4⟩ := h
  exact ⟨w1, w2, w3, w4⟩
theorem PM.Ok.get {m : PM} {n : Nat} (h : m.Ok n) (i g : Int) : (m.get i g).Ok (n + 1) := by
  unfold PM.get
  split
  · exact h.visit
  · exact h.mono (by omega)
theorem PM.Ok.set {m : PM} {n : Nat} (h : m.Ok n) (i g v : Int) : (m.set i g v).Ok (n + 1) := by
  unfold PM.set
  split
  · obtain ⟨h1, h2, h3, h4, h5, h6, h7, h8⟩ := h.visit
    exact ⟨by simpa [PM.visit] using h1, by simpa [PM.visit] using h2, fun f hf => by have := h3 f hf; simp only [List.length_set]; exact this, by simp only [List.length_set]; exact h4, h5, h6, h7, h8⟩
  · exact h.mono (by omega)
theorem PM.Ok.drop {m : PM} {n : Nat} (h : m.Ok n) (i g : Int) : (m.drop i g).Ok (n + 1) := by
  unfold PM.drop
  split
  · rename_i hh
    obtain ⟨w1, w2, _, _⟩ := has_spec hh
    have hq := h
    obtain ⟨h1, h2, h3, h4, h5, h6, h7, h8⟩ := h.visit
    refine ⟨by simpa [PM.visit] using h1, by simpa [PM.visit] using h2, fun f hf => ?_, by simp only [List.length_set]; exact h4, ?_, h6, h7, by simp only; have := hq.hld; omega⟩
    · simp only at hf
      simp only [List.length_set]
      split at hf
      · rcases List.mem_append.1 hf with hf | hf
        · exact h3 f hf
        · simp at hf; omega
      · exact h3 f hf
    · simp only
      split
      · have := hq.frees; simp only [List.length_append, List.length_singleton]; omega
      · exact h5
  · exact h.mono (by omega)
end Go.Proofs.Ytloibbakklenbaa.Ar
