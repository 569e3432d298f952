/- arena: the program's pool and the document's go together. Plain facts. -/
import Derived.Test.YtloibbakklenbaaArQPool
namespace Go.Proofs.Ytloibbakklenbaa.Ar
set_option linter.unusedVariables false
set_option linter.unusedSimpArgs false
structure Rel (m : PM) (q : QM) : Prop where
  gens : m.gens = q.gens
  live : m.live = q.live
  free : m.free = q.free.reverse
  held : m.held = q.len
  cap : m.cap = q.cap
  vis : m.visits = q.visits
  len : m.vs.length = q.vs.length
  val : ∀ j, m.live.getD j false = true → m.vs.getD j 0 = q.vs.getD j 0
  out : ∀ f ∈ m.free, m.live.getD f.toNat false = false
  nodup : m.free.Nodup
theorem Rel.has {m : PM} {q : QM} (r : Rel m q) (i g : Int) : hasPM m i g = hasQ q i g := by
  unfold hasPM hasQ
  rw [r.gens, r.live, r.len]
  congr 1
theorem Rel.getV {m : PM} {q : QM} (r : Rel m q) (i g : Int) : m.getV i g = q.getV i g := by
  unfold PM.getV QM.getV
  rw [r.has]
  by_cases h : hasQ q i g = true
  · rw [if_pos h, if_pos h]
    exact r.val _ (by rw [r.live]; exact (hasQ_spec h).2.2.1)
  · rw [if_neg h, if_neg h]
theorem Rel.get {m : PM} {q : QM} (r : Rel m q) (i g : Int) : Rel (m.get i g) (q.get i g) := by
  unfold PM.get QM.get
  rw [r.has]
  obtain ⟨r1, r2, r3, r4, r5, r6, r7, r8, r9, r10⟩ := r
  by_cases h : hasQ q i g = true
  · rw [if_pos h, if_pos h]; exact ⟨r1, r2, r3, r4, r5, by simp only [PM.visit, r6], r7, r8, r9, r10⟩
  · rw [if_neg h, if_neg h]; exact ⟨r1, r2, r3, r4, r5, r6, r7, r8, r9, r10⟩
theorem getD_set {α : Type} (l : List α) (i j : Nat) (a d : α) : (l.set i a).getD j d = if i = j ∧ i < l.length then a else l.getD j d := by
  simp only [List.getD_eq_getElem?_getD, List.getElem?_set]
  by_cases h : i = j
  · subst h
    by_cases h2 : i < l.length
    · simp [h2]
    · simp [h2, List.getElem?_eq_none (Nat.le_of_not_lt h2)]
  · simp [h]
theorem getD_append1 {α : Type} (l : List α) (a d : α) (j : Nat) : (l ++ [a]).getD j d = if j = l.length then a else l.getD j d := by
  simp only [List.getD_eq_getElem?_getD]
  by_cases h : j < l.length
  · rw [List.getElem?_append_left h, if_neg (by omega)]
  · rw [List.getElem?_append_right (by omega)]
    by_cases h2 : j = l.length
    · simp [h2]
    · rw [if_neg h2, List.getElem?_eq_none (by simp; omega), List.getElem?_eq_none (by omega)]
theorem count_set_true {l : List Bool} {i : Nat} (hi : i < l.length) (h : l.getD i false = false) : (l.set i true).count true = l.count true + 1 := by
  induction l generalizing i with
  | nil => simp at hi
  | cons b l ih =>
    cases i with
    | zero => simp at h; subst h; simp
    | succ i =>
      simp only [List.set_cons_succ, List.count_cons]
      rw [ih (by simpa using hi) (by simpa using h)]
      omega
theorem count_set_false {l : List Bool} {i : Nat} (h : l.getD i false = true) : (l.set i false).count true + 1 = l.count true := by
  induction l generalizing i with
  | nil => simp at h
  | cons b l ih =>
    cases i with
    | zero => simp at h; subst h; simp
    | succ i =>
      simp only [List.set_cons_succ, List.count_cons]
      have := ih (i := i) (by simpa using h)
      omega
theorem Rel.set {m : PM} {q : QM} (r : Rel m q) (i g v : Int) : Rel (m.set i g v) (q.set i g v) := by
  unfold PM.set QM.set
  rw [r.has]
  obtain ⟨r1, r2, r3, r4, r5, r6, r7, r8, r9, r10⟩ := r
  by_cases h : hasQ q i g = true
  · rw [if_pos h, if_pos h]
    refine ⟨r1, r2, r3, r4, r5, by simp only [PM.visit, r6], by simpa using r7, fun j hj => ?_, r9, r10⟩
    simp only [getD_set, r7]
    split
    · rfl
    · exact r8 j hj
  · rw [if_neg h, if_neg h]; exact ⟨r1, r2, r3, r4, r5, r6, r7, r8, r9, r10⟩
theorem Rel.drop {m : PM} {q : QM} {n : Nat} (r : Rel m q) (ok : m.Ok n) (i g : Int) : Rel (m.drop i g) (q.drop i g) := by
  unfold PM.drop QM.drop
  rw [r.has]
  have hout : hasQ q i g = true → i ∉ m.free := fun h hm => by
    have h1 := r.out i hm
    rw [r.live, (hasQ_spec h).2.2.1] at h1
    cases h1
  obtain ⟨r1, r2, r3, r4, r5, r6, r7, r8, r9, r10⟩ := r
  by_cases h : hasQ q i g = true
  · obtain ⟨w1, w2, w3, w4⟩ := hasQ_spec h
    rw [if_pos h, if_pos h]
    refine ⟨r1, by simp only [r2, PM.visit], ?_, ?_, r5, by simp only [PM.visit, r6], by simpa using r7, fun j hj => ?_, fun f hf => ?_, ?_⟩
    · simp only [r1, w4]
      split
      · rw [r3, List.reverse_cons]
      · exact r3
    · simp only [QM.len]
      have := count_set_false w3
      rw [r4]
      simp only [QM.len]
      omega
    · simp only [getD_set] at hj ⊢
      split at hj
      · cases hj
      · rename_i hn
        rw [if_neg (fun hh => hn ⟨hh.1, by rw [ok.live]; exact hh.2⟩)]
        exact r8 j hj
    · simp only at hf
      simp only [getD_set]
      split
      · rfl
      · rename_i hn
        split at hf
        · rcases List.mem_append.1 hf with hf | hf
          · exact r9 f hf
          · simp at hf
            subst hf
            exact absurd ⟨rfl, by rw [ok.live, r7]; omega⟩ hn
        · exact r9 f hf
    · simp only
      split
      · exact List.nodup_append.2 ⟨r10, by simp, fun a ha b hb => by simp at hb; subst hb; intro e; subst e; exact hout h ha⟩
      · exact r10
  · rw [if_neg h, if_neg h]; exact ⟨r1, r2, r3, r4, r5, r6, r7, r8, r9, r10⟩
theorem Rel.idx {m : PM} {q : QM} (r : Rel m q) : nextIdx m = nextQI q := by
  unfold nextIdx nextQI
  rw [r.free, List.length_reverse, r.len]
  split
  · rfl
  · rename_i h
    rw [List.getD_eq_getElem?_getD, List.getD_eq_getElem?_getD, List.getElem?_reverse (by omega)]
    congr 2
    omega
theorem Rel.next {m : PM} {q : QM} {n : Nat} (r : Rel m q) (ok : m.Ok n) : Rel (nextPM m) (nextQM q) ∧ (nextPM m).live.getD (nextIdx m).toNat false = false ∧ nextIdx m ∉ (nextPM m).free := by
  have k1 := ok.gens
  have k2 := ok.live
  obtain ⟨r1, r2, r3, r4, r5, r6, r7, r8, r9, r10⟩ := r
  have hl : m.free.length = q.free.length := by rw [r3, List.length_reverse]
  by_cases h : m.free.length = 0
  · have hn : m.free = [] := List.eq_nil_of_length_eq_zero h
    unfold nextPM nextQM nextIdx
    rw [if_pos h, if_pos h, if_pos (by omega)]
    refine ⟨⟨by simp only [r1], by simp only [r2], r3, ?_, r5, r6, by simp [r7], fun j hj => ?_, fun f hf => ?_, r10⟩, ?_, ?_⟩
    · simp only [QM.len, List.count_append]
      rw [r4]
      simp [QM.len]
    · simp only [getD_append1] at hj ⊢
      split at hj
      · cases hj
      · rw [if_neg (by omega), if_neg (by omega)]
        exact r8 j hj
    · simp only [hn] at hf; cases hf
    · simp only [getD_append1, Int.toNat_natCast]
      rw [if_pos k2.symm]
    · simp only [hn]; intro hf; cases hf
  · unfold nextPM nextQM nextIdx
    rw [if_neg h, if_neg h, if_neg (by omega)]
    have hmem : m.free.getD (m.free.length - 1) 0 ∈ m.free := getD_mem (by omega)
    refine ⟨⟨r1, r2, ?_, r4, r5, r6, r7, r8, fun f hf => r9 f (List.mem_of_mem_take hf), r10.sublist (List.take_sublist _ _)⟩, r9 _ hmem, ?_⟩
    · simp only
      rw [hl, r3, List.reverse_drop]
    · simp only
      have e : m.free = m.free.take (m.free.length - 1) ++ [m.free.getD (m.free.length - 1) 0] := by
        rw [List.getD_eq_getElem?_getD, List.getElem?_eq_getElem (by omega)]
        have := List.take_succ_eq_append_getElem (l := m.free) (i := m.free.length - 1) (by omega)
        rw [show m.free.length - 1 + 1 = m.free.length by omega, List.take_length] at this
        exact this
      intro hf
      have h2 := r10
      rw [e] at h2
      exact (List.nodup_append.1 h2).2.2 _ hf _ List.mem_cons_self rfl
theorem Rel.put {m : PM} {q : QM} {n : Nat} (r : Rel m q) (ok : m.Ok n) (v : Int) : Rel (m.put v) (q.put v) ∧ m.putI = q.putI ∧ m.putG = q.putG ∧ (m.held = m.cap ↔ (q.len : Int) = q.cap) := by
  have hc : m.held = m.cap ↔ (q.len : Int) = q.cap := by rw [r.held, r.cap]
  have hi := r.idx
  obtain ⟨rn, z1, z2⟩ := r.next ok
  obtain ⟨on, _, _, _⟩ := ok.next
  have ix := ok.idx
  refine ⟨?_, ?_, ?_, hc⟩
  · unfold PM.put QM.put
    by_cases h : m.held = m.cap
    · rw [if_pos h, if_pos (hc.1 h)]; exact r
    · rw [if_neg h, if_neg (fun hh => h (hc.2 hh))]
      have e4 : (nextPM m).held = m.held := by unfold nextPM; split <;> rfl
      obtain ⟨r1, r2, r3, r4, r5, r6, r7, r8, r9, r10⟩ := rn
      refine ⟨by simp only [r1, hi], by simp only [r2, hi], r3, ?_, r5, r6, by simp [r7], fun j hj => ?_, fun f hf => ?_, r10⟩
      · simp only [QM.len, ← hi, ← r2]
        rw [count_set_true (by rw [on.live]; omega) z1, ← e4, r4]
        simp only [QM.len, r2]
        omega
      · simp only [getD_set, hi, r7] at hj ⊢
        split at hj
        · rename_i hh
          rw [if_pos ⟨hh.1, by rw [← r7, ← on.live]; exact hh.2⟩, if_pos ⟨hh.1, by rw [← r7, ← on.live]; exact hh.2⟩]
        · rename_i hh
          rw [if_neg (fun h2 => hh ⟨h2.1, by rw [on.live, r7]; exact h2.2⟩), if_neg (fun h2 => hh ⟨h2.1, by rw [on.live, r7]; exact h2.2⟩)]
          exact r8 j hj
      · simp only at hf
        simp only [getD_set]
        rw [if_neg]
        · exact r9 f hf
        · intro hh
          have h1 := on.inn f hf
          have : nextIdx m = f := by omega
          rw [this] at z2
          exact z2 hf
  · unfold PM.putI QM.putI
    by_cases h : m.held = m.cap
    · rw [if_pos h, if_pos (hc.1 h)]
    · rw [if_neg h, if_neg (fun hh => h (hc.2 hh)), hi]
  · unfold PM.putG QM.putG
    by_cases h : m.held = m.cap
    · rw [if_pos h, if_pos (hc.1 h)]
    · rw [if_neg h, if_neg (fun hh => h (hc.2 hh)), hi, rn.gens]
theorem Rel.new (c : Int) : Rel ⟨[], [], [], [], 0, c, 0⟩ ⟨[], [], [], [], c, 0⟩ := ⟨rfl, rfl, rfl, rfl, rfl, rfl, rfl, fun j hj => by simp at hj, fun f hf => by simp at hf, List.nodup_nil⟩
theorem Rel.ok {m : PM} {q : QM} {n : Nat} (r : Rel m q) (ok : m.Ok n) : q.Ok n := by
  obtain ⟨k1, k2, k3, k4, k5, k6, k7, k8⟩ := ok
  obtain ⟨r1, r2, r3, r4, r5, r6, r7, r8, r9, r10⟩ := r
  refine ⟨by rw [← r1, k1, r7], by rw [← r2, k2, r7], fun f hf => by rw [← r7]; exact k3 f (by rw [r3]; exact List.mem_reverse.2 hf), by omega, by rw [r3, List.length_reverse] at k5; exact k5, by rw [← r1]; exact k6, by rw [← r6]; exact k7⟩
end Go.Proofs.Ytloibbakklenbaa.Ar
