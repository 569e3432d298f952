/- tag: what reviving, dropping and moving leave of a table; its maps. Nothing of the program. -/
import Derived.Test.YtobdpddamdkabaaDoorTgOp
namespace Go.Proofs.YtobdpddamdkabaaDoor.Tg
set_option linter.unusedVariables false
/-- an operation more, an operation less -/
def addM (m : Md) (x : Ls) : Md := ⟨m.cap, m.ser, m.la, addL m.l x⟩
def cutM (m : Md) (i : Nat) : Md := ⟨m.cap, m.ser, m.la, m.l.eraseIdx i⟩
section
variable {m : Md} {wo : List Int} {fr tm key : Int} {x : Ls} {i : Nat}
/-- may an operation be beside the others -/
structure Fits1 (m : Md) (x : Ls) : Prop where
  len : (m.l.length : Int) < m.cap
  tm : tmB m.l x.tm = false
  ix0 : 0 ≤ x.ix
  ix1 : x.ix < m.la.length
  sl : slotB m.l x.ix = false
  g0 : 1 ≤ x.gn
  g1 : x.gn ≤ m.la.getD x.ix.toNat 0
  i0 : 0 ≤ x.id
  i1 : x.id < m.ser
  idn : idB m.l x.id = false
  ft : Rx.fits x.tm
theorem MOk.add (h : MOk m) (hx : Fits1 m x) : MOk (addM m x) := by
  refine ⟨h.cap0, h.cap1, h.ser0, ?_, srt_addL h.srt (tmB_no.1 hx.tm), pw_addL h.ix (slotB_no.1 hx.sl), pw_addL h.id (idB_no.1 hx.idn), fun y hy => ?_, h.las⟩
  · show ((addL _ _).length : Int) ≤ m.cap
    rw [len_addL]; have := hx.len; omega
  · rcases mem_addL.1 hy with rfl | hy
    · exact ⟨hx.ix0, hx.ix1, hx.g0, hx.g1, hx.i0, hx.i1, hx.ft⟩
    · exact h.each y hy
theorem WOk.add (h : MOk m) (hw : WOk m wo fr) (hx : Fits1 m x) : WOk (addM m x) (lessW wo x.ix.toNat) fr := by
  refine ⟨less_ok hw.ok _, fun j => ?_, hw.fr0, hw.fr1, fun j hj => ?_, ?_⟩
  · rw [less_bit hw.ok, hw.bits]
    show _ = (decide (j < m.la.length) && decide (m.la.getD j 0 < maxG) && !slotB (addL m.l x) j)
    rw [slot_addL]
    have h0 := hx.ix0
    by_cases hj : j = x.ix.toNat
    · have e : x.ix = j := by omega
      rw [decide_eq_true hj, decide_eq_true e]; simp
    · have e : ¬ x.ix = j := by omega
      rw [decide_eq_false hj, decide_eq_false e]; simp
  · have hz := hw.frz j hj
    have hl := hw.len
    unfold lessW
    split
    · rw [Rx.getD_set]
      split
      · rename_i hh hc
        obtain ⟨hc, _⟩ := hc
        rw [hc, hz]
        obtain ⟨q1, _, q3⟩ := bits_andNot 0 (2 ^ (x.ix.toNat % 64)) (Int.le_refl _) (by decide) (pow_nn _) (pow_u64 (by omega))
        have : (Go.bits .andNot .u64 0 (2 ^ (x.ix.toNat % 64))).toNat = 0 := Nat.eq_of_testBit_eq fun i => by rw [q3]; simp
        omega
      · exact hz
    · exact hz
  · unfold lessW
    split
    · rw [List.length_set]; exact hw.len
    · exact hw.len
theorem pw_erase {R : Ls → Ls → Prop} {l : List Ls} (h : l.Pairwise R) (i : Nat) : (l.eraseIdx i).Pairwise R := h.sublist (List.eraseIdx_sublist l i)
theorem MOk.cut (h : MOk m) (i : Nat) : MOk (cutM m i) := by
  refine ⟨h.cap0, h.cap1, h.ser0, ?_, pw_erase h.srt i, pw_erase h.ix i, pw_erase h.id i, fun y hy => h.each y (mem_erase hy), h.las⟩
  have := (List.eraseIdx_sublist m.l i).length_le
  have := h.len
  show ((m.l.eraseIdx i).length : Int) ≤ m.cap
  omega
/-- the words when an operation lives no more -/
def cutW (m : Md) (wo : List Int) (k : Int) : List Int := if m.la.getD k.toNat 0 < maxG then withW wo k.toNat else wo
def cutF (m : Md) (fr k : Int) : Int := if m.la.getD k.toNat 0 < maxG then 0 else fr
theorem WOk.cut (h : MOk m) (hw : WOk m wo fr) (hq : m.la.length ≤ 64) (hi : m.l[i]? = some x) : WOk (cutM m i) (cutW m wo x.ix) (cutF m fr x.ix) := by
  obtain ⟨e1, e2, e3, e4, e5, e6, e7⟩ := h.each x (List.mem_of_getElem? hi)
  have hs : ∀ j : Nat, slotB (m.l.eraseIdx i) j = (slotB m.l j && !decide (x.ix = j)) := fun j => slot_erase hi h.ix
  have hin : slotB m.l x.ix = true := slotB_iff.2 ⟨x, List.mem_of_getElem? hi, rfl⟩
  unfold cutW cutF
  by_cases hg : m.la.getD x.ix.toNat 0 < maxG
  · rw [if_pos hg, if_pos hg]
    refine ⟨with_ok hw.ok _, fun j => ?_, Int.le_refl _, by omega, fun j hj => by simp at hj, ?_⟩
    · rw [with_bit hw.ok, hw.bits]
      show _ = (decide (j < m.la.length) && decide (m.la.getD j 0 < maxG) && !slotB (m.l.eraseIdx i) j)
      rw [hs]
      by_cases hj : j = x.ix.toNat
      · have e : x.ix = j := by omega
        have hlt : j < m.la.length := by omega
        rw [← hj] at hg
        rw [decide_eq_true hj, decide_eq_true e, decide_eq_true hlt, decide_eq_true hg]; simp
      · have e : ¬ x.ix = j := by omega
        rw [decide_eq_false hj, decide_eq_false e]; simp
    · unfold withW
      rw [List.length_set]
      unfold growW
      have h1 := hw.len
      have : x.ix.toNat / 64 = 0 := by omega
      rw [List.length_append, List.length_replicate]; omega
  · rw [if_neg hg, if_neg hg]
    refine ⟨hw.ok, fun j => ?_, hw.fr0, hw.fr1, hw.frz, hw.len⟩
    rw [hw.bits]
    show _ = (decide (j < m.la.length) && decide (m.la.getD j 0 < maxG) && !slotB (m.l.eraseIdx i) j)
    rw [hs]
    by_cases hj : x.ix = j
    · have : j = x.ix.toNat := by omega
      rw [← this] at hg
      rw [decide_eq_false hg]; simp
    · rw [decide_eq_false hj]; simp
/-- the same operation at another time -/
def atT (x : Ls) (to : Int) : Ls := ⟨x.ix, x.gn, to, x.ins, x.key, x.id⟩
def movM (m : Md) (i : Nat) (x : Ls) (to : Int) : Md := ⟨m.cap, m.ser, m.la, addL (m.l.eraseIdx i) (atT x to)⟩
theorem pw_out {key : Ls → Int} {l : List Ls} (hi : l[i]? = some x) (hd : l.Pairwise (fun a b => key a ≠ key b)) : ∀ y ∈ l.eraseIdx i, key y ≠ key x := by
  obtain ⟨a, b, rfl, e2, _⟩ := erase_parts hi
  rw [e2]; exact pw_mid hd
theorem MOk.mov (h : MOk m) (hi : m.l[i]? = some x) {to : Int} (ht : ∀ y ∈ m.l.eraseIdx i, y.tm ≠ to) (hf : Rx.fits to) : MOk (movM m i x to) := by
  have hl : (m.l.eraseIdx i).length + 1 = m.l.length := by
    obtain ⟨a, b, e1, e2, _⟩ := erase_parts hi
    rw [e2, e1]; simp; omega
  have hA : ∀ y ∈ m.l.eraseIdx i, y.ix ≠ (atT x to).ix := fun y hy => pw_out (key := (·.ix)) hi h.ix y hy
  have hB : ∀ y ∈ m.l.eraseIdx i, y.id ≠ (atT x to).id := fun y hy => pw_out (key := (·.id)) hi h.id y hy
  refine ⟨h.cap0, h.cap1, h.ser0, ?_, srt_addL (pw_erase h.srt i) ht, pw_addL (pw_erase h.ix i) hA, pw_addL (pw_erase h.id i) hB, fun y hy => ?_, h.las⟩
  · have := h.len
    show ((addL _ _).length : Int) ≤ m.cap
    rw [len_addL]; omega
  · rcases mem_addL.1 hy with rfl | hy
    · obtain ⟨e1, e2, e3, e4, e5, e6, e7⟩ := h.each x (List.mem_of_getElem? hi)
      exact ⟨e1, e2, e3, e4, e5, e6, hf⟩
    · exact h.each y (mem_erase hy)
theorem WOk.mov (h : MOk m) (hw : WOk m wo fr) (hi : m.l[i]? = some x) (to : Int) : WOk (movM m i x to) wo fr := by
  refine ⟨hw.ok, fun j => ?_, hw.fr0, hw.fr1, hw.frz, hw.len⟩
  rw [hw.bits]
  show _ = (decide (j < m.la.length) && decide (m.la.getD j 0 < maxG) && !slotB (addL (m.l.eraseIdx i) (atT x to)) j)
  rw [slot_addL, slot_erase hi h.ix]
  have hin : slotB m.l x.ix = true := slotB_iff.2 ⟨x, List.mem_of_getElem? hi, rfl⟩
  show _ = (_ && _ && !(decide (x.ix = j) || (slotB m.l j && !decide (x.ix = j))))
  by_cases hj : x.ix = j
  · rw [hj] at hin
    simp [hj, hin]
  · simp [hj]
theorem pw_tm (h : MOk m) : m.l.Pairwise (fun a b => a.tm ≠ b.tm) := h.srt.imp fun hab e => by omega
/-- the maps of a table with one more, one less, one at another time -/
theorem ts_add (hx : Fits1 m x) : tsOf (addM m x) wo fr = holdS (tsOf m wo fr) x := by
  unfold tsOf holdS addM
  simp only [byKey_add (key := (·.ix)) (val := fun x => x) (slotB_no.1 hx.sl), byKey_add (key := (·.tm)) (val := (·.ix)) (tmB_no.1 hx.tm), byKey_add (key := (·.id)) (val := (·.ix)) (idB_no.1 hx.idn)]
theorem ts_cut (h : MOk m) (hi : m.l[i]? = some x) : tsOf (cutM m i) wo fr = { tsOf m wo fr with lv := mdel (tsOf m wo fr).lv x.ix, ti := mdel (tsOf m wo fr).ti x.tm, id := mdel (tsOf m wo fr).id x.id } := by
  unfold tsOf cutM
  simp only [byKey_del (key := (·.ix)) (val := fun x => x) hi h.ix, byKey_del (key := (·.tm)) (val := (·.ix)) hi (pw_tm h), byKey_del (key := (·.id)) (val := (·.ix)) hi h.id]
theorem ts_mov (h : MOk m) (hi : m.l[i]? = some x) {to : Int} (ht : ∀ y ∈ m.l.eraseIdx i, y.tm ≠ to) : tsOf (movM m i x to) wo fr = holdS { tsOf m wo fr with ti := mdel (tsOf m wo fr).ti x.tm } (atT x to) := by
  have hm := List.mem_of_getElem? hi
  have hpos : 0 < m.l.length := List.length_pos_of_mem hm
  have e1 := byKey_del (key := (·.ix)) (val := fun x => x) hi h.ix
  have e2 := byKey_del (key := (·.tm)) (val := (·.ix)) hi (pw_tm h)
  have e3 := byKey_del (key := (·.id)) (val := (·.ix)) hi h.id
  have f1 := byKey_some (val := fun x => x) h.ix hm
  have f3 := byKey_some (key := (·.id)) (val := (·.ix)) h.id hm
  have hA : ∀ y ∈ m.l.eraseIdx i, y.ix ≠ (atT x to).ix := fun y hy => pw_out (key := (·.ix)) hi h.ix y hy
  have hB : ∀ y ∈ m.l.eraseIdx i, y.id ≠ (atT x to).id := fun y hy => pw_out (key := (·.id)) hi h.id y hy
  have g1 := byKey_add (l := m.l.eraseIdx i) (x := atT x to) (key := (·.ix)) (val := fun x => x) hA
  have g2 := byKey_add (l := m.l.eraseIdx i) (x := atT x to) (key := (·.tm)) (val := (·.ix)) ht
  have g3 := byKey_add (l := m.l.eraseIdx i) (x := atT x to) (key := (·.id)) (val := (·.ix)) hB
  unfold tsOf holdS movM
  simp only [← g1, ← g2, ← g3, ← e1, ← e2, ← e3]
  simp only [atT]
  rw [put_del (byKey (·.ix) (fun x => x) m.l) x.ix _ (by rw [f1]; rfl) hpos, put_del (byKey (·.id) (·.ix) m.l) x.id _ (by rw [f3]; rfl) hpos]
end
end Go.Proofs.YtobdpddamdkabaaDoor.Tg
