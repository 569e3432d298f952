/- grove: two trees in a pool: drop, split. -/
import Derived.Test.YtegekenkfomlbaaGvSt
namespace Go.Proofs.Ytegekenkfomlbaa.Gv
open Go.Proofs.Ytegekenkfomlbaa.Rx
set_option linter.unusedVariables false
set_option linter.unusedSimpArgs false
set_option linter.unusedSectionVars false
section
variable {E A : Type} {O : Ops E A} {S : List E → A} {good : List E → Prop}
theorem rf_drop {e : E} {x : Ref × E} {l : List (Ref × E)} (h : hit O e l = some x) : (x.1 :: rf (lo O e l ++ (hi O e l).tail)).Perm (l.map Prod.fst) := by
  have h1 := (hit_some h).1
  have h2 : l.map Prod.fst = (lo O e l).map Prod.fst ++ x.1 :: (hi O e l).tail.map Prod.fst := by
    conv => lhs; rw [← lo_hi O e l, h1]
    simp
  rw [h2]
  unfold rf
  rw [List.map_append]
  exact List.perm_middle.symm
theorem drop_none {m : Po E A} {z : Node E A} {r : Ref} (h : has m r = false) : drop z m r = m := by unfold drop; rw [if_neg (by rw [h]; decide)]
variable (Z : Laws O S good)
include Z
theorem drop_st {n K : Nat} {e : E} {m : Po E A} {a b : Tr E} (h : St O S good n m a b) (hg : good (loE O e a.elems ++ (hiE O e a.elems).tail)) (hk : 2 * a.h < K) :
    PickD O K K m a.root e ∧ (dropF O K m a.root e).1 = (hitE O e a.elems).getD O.e0 ∧ (dropF O K m a.root e).2.1 = (hitE O e a.elems).isSome ∧
      ∃ a', (dropF O K m a.root e).2.2.1 = a'.root ∧ St O S good (n + 1) (dropF O K m a.root e).2.2.2 a' b ∧ a'.elems = dropE O e a.elems ∧
        Vis (120 * a.h + 5) m (dropF O K m a.root e).2.2.2 ∧ (dropF O K m a.root e).2.2.2.cap = m.cap := by
  have hE : (hit O e a.items).map Prod.snd = hitE O e a.elems := hitE_map e a.items
  have hlo : (lo O e a.items).map Prod.snd = loE O e a.elems := loE_map e a.items
  have htl : (hi O e a.items).tail.map Prod.snd = (hiE O e a.elems).tail := hiE_tail e a.items
  have hsE := drop_srt (e := e) (Srt_map.2 h.sa : SrtE O a.elems)
  obtain ⟨R1, R⟩ := pick_tr Z (K := K) (e := e) a (k := K) h.ok h.ra h.ba h.sa h.nodA (by rw [gd, List.map_append, hlo, htl]; exact hg) (by omega) hk
  refine ⟨R1, ?_⟩
  unfold dropF
  cases hh : hit O e a.items with
  | none =>
    rw [hh] at R hE
    obtain ⟨r1, r2, r3⟩ := R
    have hE : hitE O e a.elems = none := hE.symm
    have h2 := h.look r3
    have hz := h2.ok.z0
    have h0 : lk O (pick O K K m a.root e).2.2 r0 = zn O := by unfold lk look; rw [if_neg (by rw [hz]; decide)]
    rw [r1, r2, h0, hz, drop_none hz, hE]
    refine ⟨rfl, rfl, a, rfl, h2.mono (by omega), ?_, r3.v.mono (by omega), r3.cap⟩
    unfold dropE
    rw [hE]
  | some x =>
    rw [hh] at R hE
    obtain ⟨r1, t, r2, r3, r4, r5⟩ := R
    have hE : hitE O e a.elems = some x.2 := hE.symm
    have hp := rf_drop hh
    have hnx : x.1 ∉ rf (lo O e a.items ++ (hi O e a.items).tail) ∧ (rf (lo O e a.items ++ (hi O e a.items).tail)).Nodup := List.nodup_cons.1 ((hp.nodup_iff).2 h.nodA)
    have hmem : ∀ s, s ∈ a.refs ↔ s = x.1 ∨ s ∈ rf (lo O e a.items ++ (hi O e a.items).tail) := fun s => by
      rw [Tr.refs, ← hp.mem_iff, List.mem_cons]
    have hxm := (hit_some hh).2.2
    have hhx : has m x.1 = true := h.ra.has _ (List.mem_map_of_mem hxm)
    have hhx' : has (pick O K K m a.root e).2.2 x.1 = true := by rw [r5.has]; exact hhx
    have ho := r5.ok h.ok
    obtain ⟨d1, d2, d3, d4, d5, d6⟩ := drop_ok (zn O) ho hhx'
    have hf : ∀ u : Tr E, x.1 ∉ u.refs → Rp O S (pick O K K m a.root e).2.2 u → Rp O S (drop (zn O) (pick O K K m a.root e).2.2 x.1) u := by
      intro u
      induction u with
      | nil => exact fun _ _ => trivial
      | node r l y q ihl ihq =>
        intro hx ⟨q1, q2, q3, q4⟩
        rw [Tr.refs_node] at hx
        simp only [List.mem_append, List.mem_cons, not_or] at hx
        have := d2 r (fun e => hx.2.1 e.symm)
        exact ⟨by rw [this.1]; exact q1, by rw [lk, this.2]; exact q2, ihl hx.1 q3, ihq hx.2.2 q4⟩
    have et : t.refs = rf (lo O e a.items ++ (hi O e a.items).tail) := by rw [Tr.refs, r2.its]
    have ee : t.elems = dropE O e a.elems := by
      rw [Tr.elems, r2.its, List.map_append, hlo, htl]
      unfold dropE
      rw [hE]
    rw [r1]
    have hel : (lk O (pick O K K m a.root e).2.2 x.1).e = x.2 := by
      have : lk O (pick O K K m a.root e).2.2 x.1 = lk O m x.1 := r5.look _ hnx.1
      rw [this]
      exact h.ra.elem x hxm
    refine ⟨by rw [hel, hE]; rfl, by rw [hhx', hE]; rfl, t, r2.root, ?_, ee, ?_, by rw [d5]; exact r5.cap⟩
    · refine ⟨d1, hf t (by rw [et]; exact hnx.1) r2.rp, hf b (fun hb => h.off _ hb ((hmem _).2 (.inl rfl))) (Rp.frame r5 (fun s hs hr => h.off s hs ((hmem s).2 (.inr hr))) h.rb), r2.bal, h.bb,
        Srt_map.1 (by rw [show t.items.map Prod.snd = t.elems from rfl, ee]; exact hsE), h.sb, ?_, ?_, ?_, h.gb⟩
      · exact List.nodup_append.2 ⟨by rw [et]; exact hnx.2, (List.nodup_append.1 h.nod).2.1, fun y hy z hz e => by subst e; exact h.off y hz ((hmem y).2 (.inr (by rw [← et]; exact hy)))⟩
      · have hl := drop_len (O := O) (e := e) (l := a.elems)
        rw [hE, ← ee, Tr.elems_length, Tr.elems_length] at hl
        rw [d4, r5.held, h.held]
        simp only [Option.isSome_some, if_true] at hl
        omega
      · rw [Tr.elems, r2.its, List.map_append, hlo, htl]; exact hg
    · have : Vis 1 (pick O K K m a.root e).2.2 (drop (zn O) (pick O K K m a.root e).2.2 x.1) := ⟨1, Nat.le_refl _, .inr d6⟩
      exact (r5.v.trans this).mono (by omega)
theorem split_st {n K : Nat} {e : E} {m : Po E A} {a : Tr E} (h : St O S good n m a .nil) (hk : 2 * a.items.length < K) :
    CutD O K K m a.root e ∧ ∃ x y, (cutF O K K m a.root e).1 = x.root ∧ (cutF O K K m a.root e).2.1 = y.root ∧ St O S good n (cutF O K K m a.root e).2.2 x y ∧ x.elems = loE O e a.elems ∧ y.elems = hiE O e a.elems ∧ (cutF O K K m a.root e).2.2.cap = m.cap := by
  have hh := a.h_le
  obtain ⟨r1, x, y, r2, r3, kk, r4⟩ := cut_tr Z (K := K) (e := e) a (k := K) h.ok h.ra h.ba h.sa h.nodA h.ga (by omega) hk
  have ex : x.elems = loE O e a.elems := by rw [Tr.elems, r2.its]; exact loE_map e a.items
  have ey : y.elems = hiE O e a.elems := by rw [Tr.elems, r3.its]; exact hiE_map e a.items
  have hsE : SrtE O a.elems := Srt_map.2 h.sa
  have hle := loE_hiE (O := O) e a.elems
  rw [← hle] at hsE
  have hg := h.ga
  rw [← hle] at hg
  have hrf := rf_lo_hi (O := O) e a.items
  refine ⟨r1, x, y, r2.root, r3.root, ⟨r4.ok h.ok, r2.rp, r3.rp, r2.bal, r3.bal, Srt_map.1 ?_, Srt_map.1 ?_, ?_, ?_, ?_, ?_⟩, ex, ey, r4.cap⟩
  · rw [show x.items.map Prod.snd = x.elems from rfl, ex]; exact (List.pairwise_append.1 hsE).1
  · rw [show y.items.map Prod.snd = y.elems from rfl, ey]; exact (List.pairwise_append.1 hsE).2.1
  · rw [Tr.refs, Tr.refs, r2.its, r3.its, hrf]; exact h.nodA
  · rw [r4.held, h.held, r2.its, r3.its]
    have := congrArg List.length (lo_hi O e a.items)
    rw [List.length_append] at this
    simp only [Tr.items, List.length_nil]
    omega
  · rw [ex]; exact Z.left _ _ hg
  · rw [ey]; exact Z.right _ _ hg
end
end Go.Proofs.Ytegekenkfomlbaa.Gv
