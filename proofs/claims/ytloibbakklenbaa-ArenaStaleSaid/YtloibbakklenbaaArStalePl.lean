/- arena: handles that live, and those that don't. Plain facts. -/
import Derived.Test.YtloibbakklenbaaArRel
namespace Go.Proofs.Ytloibbakklenbaa.Ar
set_option linter.unusedVariables false
set_option linter.unusedSimpArgs false
structure Sl where
  i : Nat
  m : PM
  q : QM
  x : List Int
  y : List Int
  gx : List Int
  gy : List Int
/-- a handle that was dropped -/
def goneB (m : PM) (i g : Int) : Prop := 0 ≤ i ∧ i < m.vs.length ∧ (g < m.gens.getD i.toNat 0 ∨ (m.gens.getD i.toNat 0 = g ∧ m.live.getD i.toNat false = false))
structure Sl.Ok (n : Nat) (s : Sl) : Prop where
  ok : s.m.Ok n
  rel : Rel s.m s.q
  cap : s.m.cap = 4
  held : s.m.held = s.x.length
  four : s.x.length ≤ 4
  len : s.y.length = s.x.length
  glen : s.gy.length = s.gx.length
  glim : s.gx.length ≤ n
  nodup : s.x.Nodup
  live : ∀ k, k < s.x.length → hasPM s.m (s.x.getD k 0) (s.y.getD k 0) = true
  gone : ∀ k, k < s.gx.length → goneB s.m (s.gx.getD k 0) (s.gy.getD k 0)
theorem has_iff {m : PM} {i g : Int} : hasPM m i g = true ↔ 0 ≤ i ∧ i < m.vs.length ∧ m.live.getD i.toNat false = true ∧ m.gens.getD i.toNat 0 = g := by
  simp only [hasPM, Bool.and_eq_true, decide_eq_true_eq, and_assoc]
theorem gone_not {m : PM} {i g : Int} (h : goneB m i g) : hasPM m i g = false := by
  cases hh : hasPM m i g with
  | false => rfl
  | true =>
    obtain ⟨w1, w2, w3, w4⟩ := has_iff.1 hh
    rcases h.2.2 with h1 | ⟨_, h1⟩
    · omega
    · rw [w3] at h1; cases h1
theorem next_lists {m : PM} {n : Nat} (ok : m.Ok n) {i : Nat} (hi : i < m.vs.length) : i < (nextPM m).vs.length ∧ (nextPM m).live.getD i false = m.live.getD i false ∧ (nextPM m).gens.getD i 0 = m.gens.getD i 0 := by
  have k1 := ok.gens
  have k2 := ok.live
  unfold nextPM
  split
  · simp only [List.length_append, getD_append1]
    exact ⟨by omega, by rw [if_neg (by omega)], by rw [if_neg (by omega)]⟩
  · exact ⟨hi, rfl, rfl⟩
theorem put_open {m : PM} (h : ¬ m.held = m.cap) (v : Int) : m.put v = { nextPM m with vs := (nextPM m).vs.set (nextIdx m).toNat v, live := (nextPM m).live.set (nextIdx m).toNat true, gens := (nextPM m).gens.set (nextIdx m).toNat ((nextPM m).gens.getD (nextIdx m).toNat 0 + 1), held := m.held + 1 } := by
  unfold PM.put; rw [if_neg h]
theorem put_full {m : PM} (h : m.held = m.cap) (v : Int) : m.put v = m := by unfold PM.put; rw [if_pos h]
theorem qput_full {m : QM} (h : (m.len : Int) = m.cap) (v : Int) : m.put v = m := by unfold QM.put; rw [if_pos h]
theorem Sl.Ok.apart {n : Nat} {s : Sl} (h : s.Ok n) (k : Nat) (hk : k < s.x.length) : s.x.getD k 0 ≠ nextIdx s.m := by
  intro e
  obtain ⟨w1, w2, w3, w4⟩ := has_iff.1 (h.live k hk)
  have := (h.rel.next h.ok).2.1
  have hx := (next_lists h.ok (i := (s.x.getD k 0).toNat) (by omega)).2.1
  rw [← e, hx, w3] at this
  cases this
theorem Sl.Ok.put {n : Nat} {s : Sl} (h : s.Ok n) (hn : ¬ s.m.held = s.m.cap) (v : Int) : Sl.Ok (n + 2) { s with m := s.m.put v, q := s.q.put v, x := s.x ++ [s.m.putI], y := s.y ++ [s.m.putG] } := by
  have hap := h.apart
  obtain ⟨p1, p2, p3, p4, p5, p6, p7, p8, p9, p10, p11⟩ := h
  have hI : s.m.putI = nextIdx s.m := by unfold PM.putI; rw [if_neg hn]
  have hG : s.m.putG = (nextPM s.m).gens.getD (nextIdx s.m).toNat 0 + 1 := by unfold PM.putG; rw [if_neg hn]
  have hix := p1.idx
  have on := p1.next
  have o1 := on.1.gens
  have o2 := on.1.live
  have mem : ∀ a ∈ s.x, ∃ k, k < s.x.length ∧ s.x.getD k 0 = a := fun a ha => by
    obtain ⟨k, hk, e⟩ := List.mem_iff_getElem.1 ha
    exact ⟨k, hk, by rw [List.getD_eq_getElem?_getD, List.getElem?_eq_getElem hk]; exact e⟩
  refine ⟨p1.put v, (p2.put p1 v).1, ?_, ?_, ?_, ?_, p7, by simp only; omega, ?_, fun k hk => ?_, fun k hk => ?_⟩
  · rw [put_open hn]; simp only; rw [on.2.2.1]; exact p3
  · rw [put_open hn]; simp only [List.length_append, List.length_singleton]; omega
  · simp only [List.length_append, List.length_singleton]; omega
  · simp only [List.length_append, List.length_singleton]; omega
  · refine List.nodup_append.2 ⟨p9, by simp, fun a ha b hb => ?_⟩
    simp only [List.mem_singleton] at hb
    subst hb
    obtain ⟨k, hk, rfl⟩ := mem a ha
    rw [hI]
    exact hap k hk
  · simp only [List.length_append, List.length_singleton] at hk
    simp only [getD_append1, p6]
    rw [put_open hn, has_iff]
    simp only [List.length_set, getD_set]
    by_cases hk' : k = s.x.length
    · rw [if_pos hk', if_pos hk', hI, hG]
      refine ⟨hix.1, hix.2, by rw [if_pos ⟨rfl, by omega⟩], by rw [if_pos ⟨rfl, by omega⟩]⟩
    · rw [if_neg hk', if_neg hk']
      have hk2 : k < s.x.length := by omega
      obtain ⟨w1, w2, w3, w4⟩ := has_iff.1 (p10 k hk2)
      obtain ⟨z1, z2, z3⟩ := next_lists p1 (i := (s.x.getD k 0).toNat) (by omega)
      have hne := hap k hk2
      refine ⟨w1, by omega, ?_, ?_⟩
      · rw [if_neg (by omega), z2]; exact w3
      · rw [if_neg (by omega), z3]; exact w4
  · obtain ⟨w1, w2, w3⟩ := p11 k hk
    obtain ⟨z1, z2, z3⟩ := next_lists p1 (i := (s.gx.getD k 0).toNat) (by omega)
    unfold goneB
    rw [put_open hn]
    simp only [List.length_set, getD_set]
    refine ⟨w1, by omega, ?_⟩
    by_cases he : (nextIdx s.m).toNat = (s.gx.getD k 0).toNat
    · refine Or.inl ?_
      rw [if_pos ⟨he, by omega⟩, he, z3]
      omega
    · rw [if_neg (fun hh => he hh.1), if_neg (fun hh => he hh.1), z2, z3]
      exact w3
theorem getD_erase {α : Type} {l : List α} {K : Nat} (hK : K < l.length) (k : Nat) (d : α) : (l.take K ++ l.drop (K + 1)).getD k d = if k < K then l.getD k d else l.getD (k + 1) d := by
  simp only [List.getD_eq_getElem?_getD]
  split
  · rename_i h
    rw [List.getElem?_append_left (by simp; omega), List.getElem?_take, if_pos h]
  · rename_i h
    rw [List.getElem?_append_right (by simp; omega), List.getElem?_drop]
    congr 2
    simp
    omega
theorem Sl.Ok.drop {n : Nat} {s : Sl} (h : s.Ok n) {K : Nat} (hK : K < s.x.length) : Sl.Ok (n + 1) { s with m := s.m.drop (s.x.getD K 0) (s.y.getD K 0), q := s.q.drop (s.x.getD K 0) (s.y.getD K 0), x := s.x.take K ++ s.x.drop (K + 1), y := s.y.take K ++ s.y.drop (K + 1), gx := s.gx ++ [s.x.getD K 0], gy := s.gy ++ [s.y.getD K 0] } := by
  obtain ⟨p1, p2, p3, p4, p5, p6, p7, p8, p9, p10, p11⟩ := h
  have hh := p10 K hK
  obtain ⟨w1, w2, w3, w4⟩ := has_iff.1 hh
  have e : s.m.drop (s.x.getD K 0) (s.y.getD K 0) = { s.m.visit with vs := s.m.vs.set (s.x.getD K 0).toNat 0, live := s.m.live.set (s.x.getD K 0).toNat false, held := s.m.held - 1, free := if s.m.gens.getD (s.x.getD K 0).toNat 0 < 4294967295 then s.m.free ++ [s.x.getD K 0] else s.m.free } := by
    unfold PM.drop; rw [if_pos hh]
  have hsub : (s.x.take K ++ s.x.drop (K + 1)).Sublist s.x := by
    have := List.eraseIdx_sublist s.x K
    rwa [List.eraseIdx_eq_take_drop_succ] at this
  have hlen : (s.x.take K ++ s.x.drop (K + 1)).length + 1 = s.x.length := by simp; omega
  have hleny : (s.y.take K ++ s.y.drop (K + 1)).length + 1 = s.y.length := by simp; omega
  have hk2 := p1.live
  refine ⟨p1.drop _ _, p2.drop p1 _ _, by rw [e]; exact p3, by rw [e]; simp only; omega, by simp only; omega, by simp only; omega, by simp only [List.length_append, List.length_singleton]; omega, by simp only [List.length_append, List.length_singleton]; omega, p9.sublist hsub, fun k hk => ?_, fun k hk => ?_⟩
  · have hk1 : k + 1 < s.x.length := by simp only at hk; omega
    simp only [getD_erase hK, getD_erase (l := s.y) (by omega : K < s.y.length)]
    have hne : ∀ j, j < s.x.length → j ≠ K → s.x.getD j 0 ≠ s.x.getD K 0 := fun j hj hjK he => by
      rw [List.getD_eq_getElem?_getD, List.getD_eq_getElem?_getD, List.getElem?_eq_getElem hj, List.getElem?_eq_getElem hK] at he
      exact hjK ((List.getElem_inj p9).1 he)
    have key : ∀ j, j < s.x.length → j ≠ K → hasPM (s.m.drop (s.x.getD K 0) (s.y.getD K 0)) (s.x.getD j 0) (s.y.getD j 0) = true := fun j hj hjK => by
      obtain ⟨u1, u2, u3, u4⟩ := has_iff.1 (p10 j hj)
      have := hne j hj hjK
      rw [e, has_iff]
      simp only [List.length_set, getD_set, PM.visit]
      refine ⟨u1, u2, ?_, u4⟩
      rw [if_neg (by omega)]
      exact u3
    split
    · exact key k (by omega) (by omega)
    · exact key (k + 1) hk1 (by omega)
  · have keep : ∀ i g, goneB s.m i g → goneB (s.m.drop (s.x.getD K 0) (s.y.getD K 0)) i g := fun i g ⟨u1, u2, u3⟩ => by
      rw [e]
      refine ⟨u1, by simpa using u2, ?_⟩
      simp only [getD_set, PM.visit]
      rcases u3 with u3 | ⟨u3, u4⟩
      · exact Or.inl u3
      · refine Or.inr ⟨u3, ?_⟩
        split
        · rfl
        · exact u4
    simp only [List.length_append, List.length_singleton] at hk
    simp only [getD_append1, p7]
    by_cases hk' : k = s.gx.length
    · rw [if_pos hk', if_pos hk', e]
      refine ⟨w1, by simpa using w2, Or.inr ⟨by simpa [PM.visit] using w4, ?_⟩⟩
      simp only [getD_set]
      rw [if_pos ⟨trivial, by omega⟩]
    · rw [if_neg hk', if_neg hk']
      exact keep _ _ (p11 k (by omega))
theorem Sl.Ok.get {n : Nat} {s : Sl} (h : s.Ok n) (i g : Int) : Sl.Ok (n + 1) { s with m := s.m.get i g, q := s.q.get i g } := by
  obtain ⟨p1, p2, p3, p4, p5, p6, p7, p8, p9, p10, p11⟩ := h
  have e : ∀ m : PM, (m.get i g).vs = m.vs ∧ (m.get i g).gens = m.gens ∧ (m.get i g).live = m.live ∧ (m.get i g).cap = m.cap ∧ (m.get i g).held = m.held := fun m => by
    unfold PM.get; split <;> exact ⟨rfl, rfl, rfl, rfl, rfl⟩
  obtain ⟨e1, e2, e3, e4, e5⟩ := e s.m
  have eh : ∀ a b, hasPM (s.m.get i g) a b = hasPM s.m a b := fun a b => by unfold hasPM; rw [e1, e2, e3]
  exact ⟨p1.get _ _, p2.get _ _, e4.trans p3, e5.trans p4, p5, p6, p7, Nat.le_succ_of_le p8, p9, fun k hk => (eh _ _).trans (p10 k hk), fun k hk => by unfold goneB; simp only [e1, e2, e3]; exact p11 k hk⟩
theorem Sl.Ok.mono {n k : Nat} {s : Sl} (h : s.Ok n) (hk : n ≤ k) : s.Ok k := by
  obtain ⟨p1, p2, p3, p4, p5, p6, p7, p8, p9, p10, p11⟩ := h
  exact ⟨p1.mono hk, p2, p3, p4, p5, p6, p7, by omega, p9, p10, p11⟩
theorem Sl.Ok.at_ {n : Nat} {s : Sl} (h : s.Ok n) (i : Nat) : Sl.Ok n { s with i := i } := ⟨h.ok, h.rel, h.cap, h.held, h.four, h.len, h.glen, h.glim, h.nodup, h.live, h.gone⟩
theorem Sl.Ok.not {n : Nat} {s : Sl} (h : s.Ok n) {k : Nat} (hk : k < s.gx.length) : hasPM s.m (s.gx.getD k 0) (s.gy.getD k 0) = false := gone_not (h.gone k hk)
end Go.Proofs.Ytloibbakklenbaa.Ar
