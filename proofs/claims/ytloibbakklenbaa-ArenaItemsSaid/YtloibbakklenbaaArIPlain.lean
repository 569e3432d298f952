/- arena: plain facts on a pool of items. -/
import Derived.Test.YtloibbakklenbaaArIVisit
namespace Go.Proofs.Ytloibbakklenbaa.Ar
open Go.Proofs.Ytloibbakklenbaa.Rx
set_option linter.unusedVariables false
set_option linter.unusedSimpArgs false
/-- a pool that is sound, all of whose numbers are at most n -/
structure IM.Ok (m : IM) (n : Nat) : Prop where
  ids : m.ids.length = m.ks.length
  gens : m.gens.length = m.ks.length
  live : m.live.length = m.ks.length
  inn : ∀ f ∈ m.free, 0 ≤ f ∧ f < m.ks.length
  cells : m.ks.length ≤ n
  frees : m.free.length ≤ n
  gen : ∀ g ∈ m.gens, 0 ≤ g ∧ g ≤ n
  vis : 0 ≤ m.visits ∧ m.visits ≤ n
  hld : -n ≤ m.held ∧ m.held ≤ n
def IM.put (m : IM) (v u : Int) : IM :=
  if m.held = m.cap then m else
    { nextIM m with ks := (nextIM m).ks.set (nextIdxI m).toNat v, ids := (nextIM m).ids.set (nextIdxI m).toNat u, live := (nextIM m).live.set (nextIdxI m).toNat true, gens := (nextIM m).gens.set (nextIdxI m).toNat ((nextIM m).gens.getD (nextIdxI m).toNat 0 + 1), held := m.held + 1 }
def IM.putI (m : IM) : Int := if m.held = m.cap then 0 else nextIdxI m
def IM.putG (m : IM) : Int := if m.held = m.cap then 0 else (nextIM m).gens.getD (nextIdxI m).toNat 0 + 1
def IM.visit (m : IM) : IM := { m with visits := m.visits + 1 }
def IM.get (m : IM) (i g : Int) : IM := if hasIM m i g then m.visit else m
def IM.getK (m : IM) (i g : Int) : Int := if hasIM m i g then m.ks.getD i.toNat 0 else 0
def IM.getI (m : IM) (i g : Int) : Int := if hasIM m i g then m.ids.getD i.toNat 0 else 0
def IM.drop (m : IM) (i g : Int) : IM :=
  if hasIM m i g then { m.visit with ks := m.ks.set i.toNat 0, ids := m.ids.set i.toNat 0, live := m.live.set i.toNat false, held := m.held - 1, free := if m.gens.getD i.toNat 0 < 4294967295 then m.free ++ [i] else m.free } else m
theorem IM.Ok.idx {m : IM} {n : Nat} (h : m.Ok n) : 0 ≤ nextIdxI m ∧ nextIdxI m < (nextIM m).ks.length := by
  unfold nextIdxI nextIM
  by_cases h0 : m.free.length = 0
  · rw [if_pos h0, if_pos h0]
    simp only [List.length_append, List.length_singleton]
    omega
  · rw [if_neg h0, if_neg h0]
    exact h.inn _ (getD_mem (by omega))
theorem IM.Ok.next {m : IM} {n : Nat} (h : m.Ok n) : (nextIM m).Ok (n + 1) ∧ (nextIM m).held = m.held ∧ (nextIM m).cap = m.cap ∧ (nextIM m).visits = m.visits := by
  obtain ⟨h0', h1, h2, h3, h4, h5, h6, h7, h8⟩ := h
  unfold nextIM
  by_cases h0 : m.free.length = 0
  · rw [if_pos h0]
    refine ⟨⟨by simp [h0'], by simp [h1], by simp [h2], fun f hf => ?_, by simp; omega, by simp; omega, fun g hg => ?_, by simp; omega, by simp; omega⟩, rfl, rfl, rfl⟩
    · have := h3 f hf
      simp
      omega
    · rcases List.mem_append.1 hg with hg | hg
      · have := h6 g hg; omega
      · simp at hg; omega
  · rw [if_neg h0]
    refine ⟨⟨h0', h1, h2, fun f hf => h3 f (List.mem_of_mem_take hf), by simp only; omega, by simp only [List.length_take]; omega, fun g hg => ?_, by simp only; omega, by simp only; omega⟩, rfl, rfl, rfl⟩
    have := h6 g hg; omega
theorem IM.Ok.put {m : IM} {n : Nat} (h : m.Ok n) (v u : Int) : (m.put v u).Ok (n + 2) := by
  obtain ⟨q, q1, q2, q3⟩ := h.next
  obtain ⟨g0, g1, g2, g3, g4, g5, g6, g7, g8⟩ := q
  unfold IM.put
  by_cases hc : m.held = m.cap
  · rw [if_pos hc]
    obtain ⟨h0', h1, h2, h3, h4, h5, h6, h7, h8⟩ := h
    exact ⟨h0', h1, h2, h3, by omega, by omega, fun g hg => by have := h6 g hg; omega, by omega, by omega⟩
  · rw [if_neg hc]
    have hb := getD_bound (i := (nextIdxI m).toNat) g6
    refine ⟨by simp [g0], by simp [g1], by simp [g2], fun f hf => ?_, by simp only [List.length_set]; omega, by simp only; omega, fun g hg => ?_, by simp only; omega, by simp only; have := h.hld; omega⟩
    · have := g3 f hf; simp only [List.length_set]; omega
    · rcases mem_set' hg with hg | hg
      · have := g6 g hg; omega
      · omega
theorem IM.Ok.mono {m : IM} {n k : Nat} (h : m.Ok n) (hk : n ≤ k) : m.Ok k := by
  obtain ⟨h0', h1, h2, h3, h4, h5, h6, h7, h8⟩ := h
  exact ⟨h0', h1, h2, h3, by omega, by omega, fun g hg => by have := h6 g hg; omega, by omega, by omega⟩
theorem IM.Ok.visit {m : IM} {n : Nat} (h : m.Ok n) : m.visit.Ok (n + 1) := by
  obtain ⟨h0', h1, h2, h3, h4, h5, h6, h7, h8⟩ := h
  unfold IM.visit
  exact ⟨h0', h1, h2, h3, by simp only; omega, by simp only; omega, fun g hg => by have := h6 g hg; omega, by simp only; omega, by simp only; omega⟩
theorem ihas_spec {m : IM} {i g : Int} (h : hasIM m i g = true) : 0 ≤ i ∧ i < m.ks.length ∧ m.live.getD i.toNat false = true ∧ m.gens.getD i.toNat 0 = g := by
  simp only [hasIM, Bool.and_eq_true, decide_eq_true_eq] at h
  obtain ⟨⟨⟨w1, w2⟩, w3⟩, w4⟩ := h
  exact ⟨w1, w2, w3, w4⟩
theorem IM.Ok.get {m : IM} {n : Nat} (h : m.Ok n) (i g : Int) : (m.get i g).Ok (n + 1) := by
  unfold IM.get
  split
  · exact h.visit
  · exact h.mono (by omega)
theorem IM.Ok.drop {m : IM} {n : Nat} (h : m.Ok n) (i g : Int) : (m.drop i g).Ok (n + 1) := by
  unfold IM.drop
  split
  · rename_i hh
    obtain ⟨w1, w2, _, _⟩ := ihas_spec hh
    have hq := h
    obtain ⟨h0', h1, h2, h3, h4, h5, h6, h7, h8⟩ := h.visit
    refine ⟨by simpa [IM.visit] using h0', by simpa [IM.visit] using h1, by simpa [IM.visit] using h2, fun f hf => ?_, by simp only [List.length_set]; exact h4, ?_, h6, h7, by simp only; have := hq.hld; omega⟩
    · simp only at hf
      simp only [List.length_set]
      split at hf
      · rcases List.mem_append.1 hf with hf | hf
        · exact h3 f hf
        · simp at hf; omega
      · exact h3 f hf
    · simp only
      split
      · have := hq.frees; simp only [List.length_append, List.length_singleton]; omega
      · exact h5
  · exact h.mono (by omega)
end Go.Proofs.Ytloibbakklenbaa.Ar
