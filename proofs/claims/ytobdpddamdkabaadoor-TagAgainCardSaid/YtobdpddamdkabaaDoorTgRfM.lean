/- tag: what the document's searches tell of a table. Nothing of the program. -/
import Derived.Test.YtobdpddamdkabaaDoorTgRf
namespace Go.Proofs.YtobdpddamdkabaaDoor.Tg
open Go.Proofs.YtobdpddamdkabaaDoor.Rx
set_option linter.unusedVariables false
theorem pw_idx {key : Ls → Int} {l : List Ls} (hd : l.Pairwise (fun a b => key a ≠ key b)) {i j : Nat} (hi : i < l.length) (hj : j < l.length) (h : key l[i] = key l[j]) : i = j := by
  rcases Nat.lt_trichotomy i j with hlt | he | hgt
  · exact absurd h (List.pairwise_iff_getElem.1 hd i j hi hj hlt)
  · exact he
  · exact absurd h.symm (List.pairwise_iff_getElem.1 hd j i hj hi hgt)
theorem find_fi (l : List Ls) (p : Ls → Bool) : (l.find? p).isSome = decide (l.findIdx p < l.length) := by
  rw [← any_fi, Bool.eq_iff_iff, List.find?_isSome, List.any_eq_true]
theorem fi_get {l : List Ls} {p : Ls → Bool} (h : l.findIdx p < l.length) : p l[l.findIdx p] = true := List.findIdx_getElem (w := h)
theorem getD_at {l : List Ls} {k : Nat} (h : k < l.length) : l.getD k ls0 = l[k] := by
  rw [List.getD_eq_getElem?_getD, List.getElem?_eq_getElem h]; rfl
theorem of_pl {m : Md} {ix gn : Int} (h : 0 ≤ plI m.l (pOf ix gn)) : findM m ix gn = true ∧ ∃ k : Nat, plI m.l (pOf ix gn) = k ∧ k = ofI m.l ix gn ∧ k < m.l.length ∧ m.l.getD k ls0 = atX m ix gn := by
  have h1 := plI_ge.1 h
  have hf : findM m ix gn = true := by
    show (m.l.find? (pOf ix gn)).isSome = true
    rw [find_fi]; exact decide_eq_true h1
  refine ⟨hf, m.l.findIdx (pOf ix gn), plI_hit rfl h1, rfl, h1, ?_⟩
  have h2 := ofI_get hf
  have h3 : m.l[m.l.findIdx (pOf ix gn)]? = some (atX m ix gn) := h2
  rw [List.getD_eq_getElem?_getD, h3]; rfl
theorem of_no {m : Md} {ix gn : Int} (h : plI m.l (pOf ix gn) < 0) : findM m ix gn = false := by
  show (m.l.find? (pOf ix gn)).isSome = false
  rw [find_fi]
  refine decide_eq_false fun hc => ?_
  have := plI_ge.2 hc
  omega
theorem other_pl {m : Md} (hm : MOk m) {ix gn to : Int} (h : 0 ≤ plI m.l (pOf ix gn)) : otherB m ix to = true ↔ 0 ≤ plI m.l (pTm to) ∧ plI m.l (pTm to) ≠ plI m.l (pOf ix gn) := by
  have htm : m.l.Pairwise (fun a b => a.tm ≠ b.tm) := hm.srt.imp fun hab e => by omega
  have hk := plI_ge.1 h
  have hkp := fi_get hk
  have e1 : (m.l[m.l.findIdx (pOf ix gn)]).ix = ix := by unfold pOf at hkp ⊢; simp at hkp; exact hkp.1
  have eo : otherB m ix to = true ↔ ∃ z ∈ m.l, z.tm = to ∧ z.ix ≠ ix := by
    unfold otherB
    rw [List.any_eq_true]
    constructor
    · rintro ⟨z, hz, hp⟩
      simp at hp
      exact ⟨z, hz, hp⟩
    · rintro ⟨z, hz, hp⟩
      exact ⟨z, hz, by simpa using hp⟩
  rw [eo]
  constructor
  · rintro ⟨z, hz, z1, z2⟩
    have hj : m.l.findIdx (pTm to) < m.l.length := List.findIdx_lt_length_of_exists ⟨z, hz, by unfold pTm; simpa using z1⟩
    refine ⟨plI_ge.2 hj, fun he => ?_⟩
    rw [plI_hit rfl hj, plI_hit rfl hk] at he
    have he' : m.l.findIdx (pTm to) = m.l.findIdx (pOf ix gn) := by omega
    have hjp := fi_get hj
    have e2 : (m.l[m.l.findIdx (pTm to)]).tm = to := by unfold pTm at hjp ⊢; simpa using hjp
    obtain ⟨n, hn, rfl⟩ := List.getElem_of_mem hz
    have e3 := pw_idx (key := (·.tm)) htm hn hj (by show (m.l[n]).tm = _; rw [e2, z1])
    subst e3
    apply z2
    simp only [he']
    exact e1
  · rintro ⟨h1, h2⟩
    have hj := plI_ge.1 h1
    have hjp := fi_get hj
    refine ⟨_, List.getElem_mem hj, by unfold pTm at hjp ⊢; simpa using hjp, fun e => h2 ?_⟩
    have e3 := pw_idx (key := (·.ix)) hm.ix hj hk (by show (m.l[m.l.findIdx (pTm to)]).ix = _; rw [e, e1])
    rw [plI_hit rfl hj, plI_hit rfl hk, e3]
/-- reviving, as the document has it -/
theorem rev_ref (m : Md) (a b c : Int) (d : Bool) (e f : Int) : revE m ⟨a, b, c, d, e, f⟩ = if errE m c = 0 then (if 0 ≤ a ∧ a < m.la.length ∧ slotB m.l a = false ∧ 1 ≤ b ∧ b ≤ m.la.getD a.toNat 0 then (if 0 ≤ f ∧ f < m.ser ∧ idB m.l f = false ∧ (d = true ∨ e = 0) then 0 else 2) else 13) else errE m c := by
  have h1 : (haveM m a b = true) = (0 ≤ a ∧ a < m.la.length ∧ slotB m.l a = false ∧ 1 ≤ b ∧ b ≤ m.la.getD a.toNat 0) := by
    unfold haveM
    simp only [Bool.and_eq_true, decide_eq_true_eq, Bool.not_eq_true', and_assoc]
  have h2 : (beM m ⟨a, b, c, d, e, f⟩ = true) = (0 ≤ f ∧ f < m.ser ∧ idB m.l f = false ∧ (d = true ∨ e = 0)) := by
    unfold beM
    simp only [Bool.and_eq_true, decide_eq_true_eq, Bool.not_eq_true', Bool.or_eq_true, and_assoc]
  unfold revE
  simp only [h1, h2]
end Go.Proofs.YtobdpddamdkabaaDoor.Tg
