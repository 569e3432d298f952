/- grove: two trees in a pool: put, drop. -/
import Derived.Test.YtegekenkfomlbaaGvLst
import Derived.Test.YtegekenkfomlbaaGvTop
namespace Go.Proofs.Ytegekenkfomlbaa.Gv
open Go.Proofs.Ytegekenkfomlbaa.Rx
set_option linter.unusedVariables false
set_option linter.unusedSimpArgs false
set_option linter.unusedSectionVars false
/-- at most k nodes were looked at -/
def Vis {N : Type} (k : Nat) (m m' : PM N) : Prop := ∃ j : Nat, j ≤ k ∧ (m'.visits = m.visits ∧ j = 0 ∨ m'.visits = W (m.visits + j))
theorem Vis.trans {N : Type} {k k' : Nat} {a b c : PM N} (h : Vis k a b) (h' : Vis k' b c) : Vis (k + k') a c := by
  obtain ⟨j, hj, e⟩ := h
  obtain ⟨j', hj', e'⟩ := h'
  refine ⟨j + j', by omega, ?_⟩
  rcases e with ⟨e, rfl⟩ | e <;> rcases e' with ⟨e', rfl⟩ | e'
  · exact .inl ⟨e'.trans e, rfl⟩
  · right; rw [e', e]; congr 1; omega
  · right; rw [e', e]; congr 1
  · right; rw [e', e, W_W]; congr 1; omega
theorem Vis.mono {N : Type} {k k' : Nat} {a b : PM N} (h : Vis k a b) (hk : k ≤ k') : Vis k' a b := by
  obtain ⟨j, hj, e⟩ := h
  exact ⟨j, Nat.le_trans hj hk, e⟩
theorem Vis.diff {N : Type} {k : Nat} {a b : PM N} (h : Vis k a b) (hk : k ≤ 1000000000) : 0 ≤ W (b.visits - a.visits) ∧ W (b.visits - a.visits) ≤ k := by
  obtain ⟨j, hj, e⟩ := h
  rcases e with ⟨e, rfl⟩ | e
  · rw [e, Int.sub_self, W_of (by omega)]; omega
  · rw [e, Int.sub_eq_add_neg, W_W, show a.visits + (j : Int) + -a.visits = j by omega, W_of (by omega)]; omega
section
variable {E A : Type} {O : Ops E A} {S : List E → A} {good : List E → Prop}
theorem Upd.v {R : List Ref} {k : Nat} {z : Node E A} {m m' : Po E A} (h : Upd R k z m m') : Vis k m m' := h.vis
/-- a pool with two trees in it -/
structure St (O : Ops E A) (S : List E → A) (good : List E → Prop) (n : Nat) (m : Po E A) (a b : Tr E) : Prop where
  ok : POk n m
  ra : Rp O S m a
  rb : Rp O S m b
  ba : a.bal
  bb : b.bal
  sa : Srt O a.items
  sb : Srt O b.items
  nod : (a.refs ++ b.refs).Nodup
  held : m.held = a.items.length + b.items.length
  ga : good a.elems
  gb : good b.elems
theorem St.swap {n : Nat} {m : Po E A} {a b : Tr E} (h : St O S good n m a b) : St O S good n m b a :=
  ⟨h.ok, h.rb, h.ra, h.bb, h.ba, h.sb, h.sa, (List.perm_append_comm.nodup_iff).1 h.nod, by rw [h.held]; omega, h.gb, h.ga⟩
theorem St.nodA {n : Nat} {m : Po E A} {a b : Tr E} (h : St O S good n m a b) : a.refs.Nodup := (List.nodup_append.1 h.nod).1
theorem St.off {n : Nat} {m : Po E A} {a b : Tr E} (h : St O S good n m a b) : ∀ s, s ∈ b.refs → s ∉ a.refs := fun s hs ha => (List.nodup_append.1 h.nod).2.2 _ ha _ hs rfl
theorem St.look {n k : Nat} {m m' : Po E A} {a b : Tr E} (h : St O S good n m a b) (hu : Upd [] k (zn O) m m') : St O S good n m' a b :=
  ⟨hu.ok h.ok, Rp.frame hu (fun s _ hs => by cases hs) h.ra, Rp.frame hu (fun s _ hs => by cases hs) h.rb, h.ba, h.bb, h.sa, h.sb, h.nod, by rw [hu.held]; exact h.held, h.ga, h.gb⟩
theorem St.see {n : Nat} {m : Po E A} {a b : Tr E} (h : St O S good n m a b) (r : Ref) : St O S good n (Gv.see m r) a b := h.look (see_upd _ m r)
theorem St.mono {n k : Nat} {m : Po E A} {a b : Tr E} (h : St O S good n m a b) (hk : n ≤ k) : St O S good k m a b :=
  ⟨h.ok.mono hk, h.ra, h.rb, h.ba, h.bb, h.sa, h.sb, h.nod, h.held, h.ga, h.gb⟩
/-- another tree in the place of the first one -/
theorem St.first {n k : Nat} {m m' : Po E A} {a a' b : Tr E} {root : Ref} {its : List (Ref × E)} {R : List Ref} (h : St O S good n m a b) (hi : Is O S m' root its a') (hu : Upd R k (zn O) m m') (hR : ∀ s, s ∈ R → s ∈ a.refs)
    (hits : ∀ s, s ∈ a'.refs → s ∈ a.refs) (hnd : a'.refs.Nodup) (hlen : a'.items.length = a.items.length) (hs : SrtE O a'.elems) (hg : good a'.elems) : St O S good n m' a' b :=
  ⟨hu.ok h.ok, hi.rp, Rp.frame hu (fun s hs hr => h.off s hs (hR s hr)) h.rb, hi.bal, h.bb, Srt_map.1 hs, h.sb,
    List.nodup_append.2 ⟨hnd, (List.nodup_append.1 h.nod).2.1, fun x hx y hy e => by subst e; exact h.off x hy (hits x hx)⟩, by rw [hu.held, h.held, hlen], hg, h.gb⟩
theorem St.empty (hg : good []) (c : Int) (n : Nat) : St O S good n ⟨[], [], [], [], 0, c, 0⟩ .nil .nil :=
  ⟨⟨rfl, rfl, (fun f hf => by cases hf), List.nodup_nil, Nat.zero_le _, Nat.zero_le _, (fun g hg => by cases hg), (fun i hi => by simp at hi), ⟨by simp only; omega, by simp only; omega⟩⟩, trivial, trivial, trivial, trivial, List.Pairwise.nil, List.Pairwise.nil, List.nodup_nil, rfl, hg, hg⟩
def rf_list (x y : List (Ref × E)) (r : Ref) : List Ref := x.map Prod.fst ++ r :: y.map Prod.fst
theorem rf_put {e : E} {r : Ref} {x : Ref × E} {l : List (Ref × E)} (h : hit O e l = some x) : (lo O e l ++ (x.1, e) :: (hi O e l).tail).map Prod.fst = l.map Prod.fst := by
  have h1 := (hit_some h).1
  conv => rhs; rw [← lo_hi O e l, h1]
  simp
variable (Z : Laws O S good)
include Z
theorem put_st {n K : Nat} {e : E} {m : Po E A} {a b : Tr E} (h : St O S good n m a b) (hn : n + 1 ≤ 100000) (hg : good (putE O e a.elems)) (hk : a.h < K) :
    PutD O K m a.root e ∧ (putF O K m a.root e).1 = ((hitE O e a.elems).isSome || decide (m.held ≠ m.cap)) ∧
      ∃ a', (putF O K m a.root e).2.1 = a'.root ∧ St O S good (n + 1) (putF O K m a.root e).2.2 a' b ∧ a'.elems = (if ((hitE O e a.elems).isSome || decide (m.held ≠ m.cap)) = true then putE O e a.elems else a.elems) ∧
        Vis (32 * a.h + 4) m (putF O K m a.root e).2.2 ∧ (putF O K m a.root e).2.2.cap = m.cap := by
  have hD := Deep_tr a h.ok h.ra hk
  have hE : (hit O e a.items).map Prod.snd = hitE O e a.elems := hitE_map e a.items
  have hlo : (lo O e a.items).map Prod.snd = loE O e a.elems := loE_map e a.items
  have hhi : (hi O e a.items).map Prod.snd = hiE O e a.elems := hiE_map e a.items
  have htl : (hi O e a.items).tail.map Prod.snd = (hiE O e a.elems).tail := hiE_tail e a.items
  have hsE := put_srt Z (e := e) (Srt_map.2 h.sa : SrtE O a.elems)
  have R := replace_tr Z (e := e) a (k := K) h.ok h.ra h.ba h.sa h.nodA (fun x hx => by
    have : hitE O e a.elems = some x.2 := by rw [← hE, hx]; rfl
    unfold putE at hg
    rw [this] at hg
    rw [gd, List.map_append, List.map_cons, hlo, htl]
    exact hg) hk
  cases hh : hit O e a.items with
  | some x =>
    rw [hh] at R hE
    obtain ⟨r1, a', r2, r3, r4⟩ := R
    have hE : hitE O e a.elems = some x.2 := hE.symm
    have e1 : putF O K m a.root e = (true, a.root, (replace O K m a.root e).2) := by rw [putF, if_pos r1]
    have e2 : a'.elems = putE O e a.elems := by
      rw [Tr.elems, r2.its, List.map_append, List.map_cons, hlo, htl]
      unfold putE
      rw [hE]
    have e3 : a'.refs = a.refs := by rw [Tr.refs, r2.its]; exact rf_put (r := r0) hh
    refine ⟨⟨hD, fun hc => ?_⟩, by rw [e1, hE]; rfl, a', by rw [e1]; exact r2.root, ?_, ?_, ?_, by rw [e1]; exact r4.cap⟩
    · have hp := put_ok (zn O) (r4.ok h.ok) hc (fresh O e)
      refine ⟨hp.2.mono hn, ?_⟩
      have hf : ∀ t : Tr E, Rp O S (replace O K m a.root e).2 t → Rp O S (put (zn O) (replace O K m a.root e).2 (fresh O e)) t := by
        intro t
        induction t with
        | nil => exact fun _ => trivial
        | node r l y q ihl ihq =>
          intro ⟨q1, q2, q3, q4⟩
          have := hp.1.old r q1
          exact ⟨this.1, by rw [lk, this.2]; exact q2, ihl q3, ihq q4⟩
      have := Deep_tr a' (k := K) hp.2 (hf a' r2.rp) (by omega)
      rw [← r2.root] at this
      exact this
    · rw [e1]
      refine (h.first r2 r4 (fun s hs => hs) (fun s hs => by rw [e3] at hs; exact hs) (by rw [e3]; exact h.nodA) (by rw [← Tr.refs_length, e3, Tr.refs_length]) (by rw [e2]; exact hsE) (by rw [e2]; exact hg)).mono (by omega)
    · rw [e2, hE]; rfl
    · rw [e1]; exact r4.v.mono (by omega)
  | none =>
    rw [hh] at R hE
    obtain ⟨r1, r2⟩ := R
    have hE : hitE O e a.elems = none := hE.symm
    have h2 := h.look r2
    have hup : putE O e a.elems = loE O e a.elems ++ e :: hiE O e a.elems := by unfold putE; rw [hE]
    by_cases hc : (replace O K m a.root e).2.held = (replace O K m a.root e).2.cap
    · have hc' : m.held = m.cap := by rw [← r2.held, ← r2.cap, hc]
      have ep : put (zn O) (replace O K m a.root e).2 (fresh O e) = (replace O K m a.root e).2 := by unfold put; rw [if_pos hc]
      have e1 : putF O K m a.root e = (false, a.root, (replace O K m a.root e).2) := by rw [putF, if_neg (by rw [r1]; decide), if_pos hc, ep]
      have e4 : ((hitE O e a.elems).isSome || decide (m.held ≠ m.cap)) = false := by rw [hE]; simpa using hc'
      refine ⟨⟨hD, fun hx => absurd hc hx⟩, by rw [e1, e4], a, by rw [e1], by rw [e1]; exact h2.mono (by omega), by rw [e4, if_neg (by decide)], by rw [e1]; exact r2.v.mono (by omega), by rw [e1]; exact r2.cap⟩
    · have hc' : m.held ≠ m.cap := by rw [← r2.held, ← r2.cap]; exact hc
      obtain ⟨p1, p2⟩ := put_ok (zn O) h2.ok hc (fresh O e)
      have hf : ∀ t : Tr E, Rp O S (replace O K m a.root e).2 t → Rp O S (put (zn O) (replace O K m a.root e).2 (fresh O e)) t := by
        intro t
        induction t with
        | nil => exact fun _ => trivial
        | node r l y q ihl ihq =>
          intro ⟨q1, q2, q3, q4⟩
          have := p1.old r q1
          exact ⟨this.1, by rw [lk, this.2]; exact q2, ihl q3, ihq q4⟩
      have hnew : ∀ t : Tr E, Rp O S (replace O K m a.root e).2 t → putR (zn O) (replace O K m a.root e).2 ∉ t.refs := fun t ht hr => by
        have := ht.has _ hr
        rw [p1.new] at this
        cases this
      have hnd : (putR (zn O) (replace O K m a.root e).2 :: a.refs).Nodup := List.nodup_cons.2 ⟨hnew a h2.ra, h.nodA⟩
      obtain ⟨t', t1, t2, t3, t4⟩ := hang_tr Z (f := putR (zn O) (replace O K m a.root e).2) (e := e) a (k := K) p2 (hf a h2.ra) h.ba h.sa hnd p1.has (by rw [lk, p1.look]; rfl) hh
        (by rw [gd, List.map_append, List.map_cons, hlo, hhi, ← hup]; exact hg) hk
      have e1 : putF O K m a.root e = (true, (hang O K (put (zn O) (replace O K m a.root e).2 (fresh O e)) a.root (putR (zn O) (replace O K m a.root e).2) e).1, (hang O K (put (zn O) (replace O K m a.root e).2 (fresh O e)) a.root (putR (zn O) (replace O K m a.root e).2) e).2) := by
        rw [putF, if_neg (by rw [r1]; decide), if_neg hc]
      have e4 : ((hitE O e a.elems).isSome || decide (m.held ≠ m.cap)) = true := by rw [hE]; simpa using hc'
      have e2 : t'.elems = putE O e a.elems := by rw [Tr.elems, t1.its, List.map_append, List.map_cons, hlo, hhi, hup]
      have e5 : t'.refs = rf_list (lo O e a.items) (hi O e a.items) (putR (zn O) (replace O K m a.root e).2) := by rw [Tr.refs, t1.its, List.map_append, List.map_cons]; rfl
      refine ⟨⟨hD, fun _ => ⟨p2.mono hn, Deep_tr a p2 (hf a h2.ra) hk⟩⟩, by rw [e1, e4], t', by rw [e1]; exact t1.root, ?_, by rw [e4, if_pos rfl]; exact e2, ?_, by rw [e1]; exact t4.cap.trans (p1.cap.trans r2.cap)⟩
      · rw [e1]
        have hrf := rf_lo_hi (O := O) e a.items
        have hmem : ∀ s, s ∈ t'.refs ↔ s = putR (zn O) (replace O K m a.root e).2 ∨ s ∈ a.refs := fun s => by
          rw [e5, Tr.refs, ← hrf]
          unfold rf_list
          simp only [List.mem_append, List.mem_cons]
          constructor
          · rintro (h | h | h) <;> simp [h]
          · rintro (h | h | h) <;> simp [h]
        refine ⟨t4.ok p2, t1.rp, Rp.frame t4 (fun s hs hr => ?_) (hf b h2.rb), t1.bal, h.bb, Srt_map.1 (by rw [show t'.items.map Prod.snd = t'.elems from rfl, e2]; exact hsE), h.sb, ?_, ?_, by rw [e2]; exact hg, h.gb⟩
        · rcases List.mem_cons.1 hr with hr | hr
          · exact hnew b h2.rb (by rw [← hr]; exact hs)
          · exact h.off s hs hr
        · refine List.nodup_append.2 ⟨?_, (List.nodup_append.1 h.nod).2.1, fun x hx y hy e => ?_⟩
          · rw [e5]
            unfold rf_list
            refine (List.perm_middle.nodup_iff).2 ?_
            rw [hrf]
            exact hnd
          · subst e
            rcases (hmem x).1 hx with hr | hr
            · exact hnew b h2.rb (by rw [← hr]; exact hy)
            · exact h.off x hy hr
        · have hl : t'.items.length = a.items.length + 1 := by
            have := put_len (O := O) (e := e) (l := a.elems)
            rw [hE] at this
            rw [← Tr.elems_length, e2, this, Tr.elems_length]
            rfl
          rw [t4.held, p1.held, h2.held, hl]
          omega
      · rw [e1]
        have : Vis 0 (replace O K m a.root e).2 (put (zn O) (replace O K m a.root e).2 (fresh O e)) := ⟨0, Nat.le_refl _, .inl ⟨p1.vis, rfl⟩⟩
        exact ((r2.v.trans this).trans t4.v).mono (by omega)
end
end Go.Proofs.Ytegekenkfomlbaa.Gv
