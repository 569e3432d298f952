/- grove: two trees in a pool: what is asked of them, joined, how high. -/
import Derived.Test.YtegekenkfomlbaaGvSt2
namespace Go.Proofs.Ytegekenkfomlbaa.Gv
open Go.Proofs.Ytegekenkfomlbaa.Rx
set_option linter.unusedVariables false
set_option linter.unusedSimpArgs false
set_option linter.unusedSectionVars false
theorem Tr.bal_size {E : Type} : ∀ t : Tr E, t.bal → 2 ^ (t.h / 2) ≤ t.items.length + 1
  | .nil, _ => by simp [Tr.h, Tr.items]
  | .node r l e q, ⟨h1, h2, h3, h4⟩ => by
    have i1 := bal_size l h1
    have i2 := bal_size q h2
    simp only [Tr.h, Tr.items, List.length_append, List.length_cons]
    by_cases c : max l.h q.h = 0
    · rw [c]; simp
    · have k1 : (1 + max l.h q.h) / 2 = (max l.h q.h - 1) / 2 + 1 := by omega
      rw [k1, Nat.pow_succ]
      have k2 : (max l.h q.h - 1) / 2 ≤ l.h / 2 := by omega
      have k3 : (max l.h q.h - 1) / 2 ≤ q.h / 2 := by omega
      have j1 : 2 ^ ((max l.h q.h - 1) / 2) ≤ 2 ^ (l.h / 2) := Nat.pow_le_pow_right (by omega) k2
      have j2 : 2 ^ ((max l.h q.h - 1) / 2) ≤ 2 ^ (q.h / 2) := Nat.pow_le_pow_right (by omega) k3
      omega
/-- the bound of a height -/
def hgt (n : Nat) : Nat := 2 + 3 * Nat.log2 (n + 1)
theorem Tr.h_hgt {E : Type} (t : Tr E) (h : t.bal) : t.h ≤ hgt t.items.length := by
  have h1 := t.bal_size h
  have h2 : t.h / 2 ≤ Nat.log2 (t.items.length + 1) := (Nat.le_log2 (by omega)).2 h1
  unfold hgt
  omega
theorem hgt_mono {a b : Nat} (h : a ≤ b) : hgt a ≤ hgt b := by
  unfold hgt
  have : Nat.log2 (a + 1) ≤ Nat.log2 (b + 1) := (Nat.le_log2 (by omega)).2 (Nat.le_trans (Nat.log2_self_le (by omega)) (by omega))
  omega
section
variable {E A : Type} {O : Ops E A} {S : List E → A} {good : List E → Prop}
/-- what was found -/
def fndE (O : Ops E A) (e : E) (l : List E) : E × Bool := ((hitE O e l).getD O.e0, (hitE O e l).isSome)
def nthE (O : Ops E A) (i : Int) (l : List E) : E × Bool := if 0 ≤ i ∧ i < l.length then (l.getD i.toNat O.e0, true) else (O.e0, false)
/-- the same trees, a few nodes looked at -/
structure Same (O : Ops E A) (S : List E → A) (good : List E → Prop) (n k : Nat) (m m' : Po E A) (a b : Tr E) : Prop where
  st : St O S good n m' a b
  vis : Vis k m m'
  cap : m'.cap = m.cap
theorem St.up {n k : Nat} {m m' : Po E A} {a b : Tr E} {r : Ref} (h : St O S good n m a b) (hu : Upd [] k (zn O) (Gv.see m r) m') : Same O S good n (k + 1) m m' a b := by
  have := (see_upd (zn O) m r).to hu (S := []) (fun s hs => by simp at hs) (Nat.le_of_eq (Nat.add_comm 1 k))
  exact ⟨h.look this, this.v, this.cap⟩
theorem St.seen {n : Nat} {m : Po E A} {a b : Tr E} (h : St O S good n m a b) (r : Ref) : Same O S good n 1 m (Gv.see m r) a b := h.up (Upd.refl _ _ _ _)
theorem Same.mono {n k k' : Nat} {m m' : Po E A} {a b : Tr E} (h : Same O S good n k m m' a b) (hk : k ≤ k') : Same O S good n k' m m' a b := ⟨h.st, h.vis.mono hk, h.cap⟩
theorem St.lk {n : Nat} {m : Po E A} {a b : Tr E} (h : St O S good n m a b) : Gv.lk O m a.root = nd O S a := h.ra.root h.ok
theorem St.hh {n : Nat} {m : Po E A} {a b : Tr E} (h : St O S good n m a b) : (Gv.lk O m a.root).h = (a.h : Int) := by rw [h.lk, nd_h]
variable (Z : Laws O S good)
include Z
theorem St.nn {n : Nat} {m : Po E A} {a b : Tr E} (h : St O S good n m a b) : (Gv.lk O m a.root).all.n = (a.elems.length : Int) := by rw [h.lk, nd_all Z.nil, Tr.elems_length]
theorem find_st {n K : Nat} {e : E} {m : Po E A} {a b : Tr E} (h : St O S good n m a b) (hk : a.h < K) :
    FindE O K (Gv.see m a.root) (Gv.lk O m a.root) e ∧ ∃ m', find O K (Gv.see m a.root) (Gv.lk O m a.root) e = (fndE O e a.elems, m') ∧ Same O S good n (a.h + 1) m m' a b := by
  have h2 := h.see a.root
  obtain ⟨r1, r2, r3⟩ := find_tr Z (e := e) a (k := K) h2.ok h2.ra h.sa hk
  rw [h.lk]
  refine ⟨r1, _, Prod.ext ?_ rfl, h.up r3⟩
  rw [r2]
  have hE := hitE_map (O := O) e a.items
  unfold fndE
  rw [show a.elems = a.items.map Prod.snd from rfl, ← hE]
  cases hit O e a.items <;> rfl
theorem rank_st {n K : Nat} {e : E} {m : Po E A} {a b : Tr E} (h : St O S good n m a b) (hk : a.h < K) :
    RankE O K (Gv.see m a.root) (Gv.lk O m a.root) e 0 ∧ ∃ m', rank O K (Gv.see m a.root) (Gv.lk O m a.root) e 0 = (((loE O e a.elems).length : Int), m') ∧ Same O S good n (2 * a.h + 1) m m' a b := by
  have h2 := h.see a.root
  have hl := Z.len _ h.ga
  rw [Tr.elems_length] at hl
  obtain ⟨r1, r2, r3⟩ := rank_tr Z (e := e) a (k := K) (c := 0) h2.ok h2.ra h.sa hk (Int.le_refl _) (by omega)
  rw [h.lk]
  refine ⟨r1, _, Prod.ext ?_ rfl, h.up r3⟩
  rw [r2, show a.elems = a.items.map Prod.snd from rfl, ← loE_map, List.length_map]
  omega
theorem at_st {n K : Nat} {i : Int} {m : Po E A} {a b : Tr E} (h : St O S good n m a b) (hk : a.h < K) :
    AtD O K m a.root i ∧ ∃ m', atF O K m a.root i = (nthE O i a.elems, m') ∧ Same O S good n (2 * a.h + 1) m m' a b := by
  have h2 := h.see a.root
  have hl := Z.len _ h.ga
  have hn := h.nn Z
  unfold AtD atF nthE
  rw [hn]
  by_cases c : i < 0 ∨ i ≥ (a.elems.length : Int)
  · rw [if_pos c, if_neg (by omega)]
    exact ⟨fun h3 h4 => by omega, _, rfl, (h.seen _).mono (by omega)⟩
  · rw [if_neg c, if_pos (by omega)]
    rw [Tr.elems_length] at hl c
    obtain ⟨r1, r2, r3⟩ := nth_tr Z a (k := K) (i := i.toNat) h2.ok h2.ra hl hk (by omega)
    have e : ((i.toNat : Nat) : Int) = i := by omega
    rw [e] at r1 r2 r3
    rw [h.lk]
    exact ⟨fun _ _ => r1, _, Prod.ext (by rw [r2]) rfl, h.up r3⟩
theorem bet_st {n K : Nat} {f u : Int} {m : Po E A} {a b : Tr E} (h : St O S good n m a b) (hk : a.h < K) :
    BetE O K (Gv.see m a.root) (Gv.lk O m a.root) f u ∧ ∃ m', between O K (Gv.see m a.root) (Gv.lk O m a.root) f u = (⟨(sub a.elems f.toNat u.toNat).length, S (sub a.elems f.toNat u.toNat)⟩, m') ∧ Same O S good n (4 * a.h + 1) m m' a b := by
  have h2 := h.see a.root
  obtain ⟨r1, r2, r3⟩ := between_tr Z (f := f) (u := u) a (k := K) h2.ok h2.ra h.ga hk
  rw [h.lk]
  exact ⟨r1, _, Prod.ext r2 rfl, (h.up r3).mono (by have := (cost_le a.h a.elems.length f u).1; omega)⟩
theorem all_st {n K : Nat} {m : Po E A} {a b : Tr E} (h : St O S good n m a b) (hk : a.h < K) :
    Deep O K m a.root ∧ (Gv.lk O m a.root).all.n = (a.elems.length : Int) ∧ ∃ m' kk, gather O K (Gv.see m a.root) a.root = (a.elems, m') ∧ Same O S good n kk m m' a b := by
  have h2 := h.see a.root
  obtain ⟨r1, kk, r2⟩ := gather_tr a (k := K) h2.ok h2.ra hk
  exact ⟨Deep_tr a h.ok h.ra hk, h.nn Z, _, _, Prod.ext r1 rfl, h.up r2⟩
theorem deepN_st {n K : Nat} {m : Po E A} {a b : Tr E} (h : St O S good n m a b) (hk : a.h < K) : DeepN O K (Gv.see m a.root) (Gv.lk O m a.root) :=
  DeepN_of (Deep_tr a h.ok h.ra hk) (fun s => lk_see ..)
theorem first_st {n K : Nat} {f : Int} {may : A → A → Bool} {P : Nat → Bool} {m : Po E A} {a b : Tr E} (h : St O S good n m a b) (hA : Asks O S may P a.elems) (hk : a.h < K) :
    DeepN O K (Gv.see m a.root) (Gv.lk O m a.root) ∧ ∃ r m' kk, first O may K (Gv.see m a.root) (Gv.lk O m a.root) ⟨0, O.a0⟩ f = (r, m') ∧ FirstIs P 0 a.elems.length f r ∧ Same O S good n kk m m' a b := by
  have h2 := h.see a.root
  obtain ⟨r1, kk, r2⟩ := first_tr Z (f := f) hA h.ga a (k := K) (p := []) (s := []) h2.ok h2.ra (by simp) hk
  have e0 : (([] : List E).length : Int) = 0 := rfl
  rw [e0, Z.nil, List.length_nil, Nat.zero_add] at r1
  rw [e0, Z.nil] at r2
  refine ⟨deepN_st Z h hk, _, _, _, rfl, ?_, h.up (r := a.root) (k := kk) ?_⟩
  · rw [h.lk]; exact r1
  · rw [h.lk]; exact r2
theorem last_st {n K : Nat} {f : Int} {may : A → A → Bool} {P : Nat → Bool} {m : Po E A} {a b : Tr E} (h : St O S good n m a b) (hA : Asks O S may P a.elems) (hk : a.h < K) :
    DeepN O K (Gv.see m a.root) (Gv.lk O m a.root) ∧ ∃ r m' kk, last O may K (Gv.see m a.root) (Gv.lk O m a.root) ⟨0, O.a0⟩ f = (r, m') ∧ LastIs P 0 a.elems.length f r ∧ Same O S good n kk m m' a b := by
  have h2 := h.see a.root
  obtain ⟨r1, kk, r2⟩ := last_tr Z (u := f) hA h.ga a (k := K) (p := []) (s := []) h2.ok h2.ra (by simp) hk
  have e0 : (([] : List E).length : Int) = 0 := rfl
  rw [e0, Z.nil, List.length_nil, Nat.zero_add] at r1
  rw [e0, Z.nil] at r2
  refine ⟨deepN_st Z h hk, _, _, _, rfl, ?_, h.up (r := a.root) (k := kk) ?_⟩
  · rw [h.lk]; exact r1
  · rw [h.lk]; exact r2
theorem put_st' {n K : Nat} {e : E} {m : Po E A} {a b : Tr E} (h : St O S good n m a b) (hn : n + 1 ≤ 100000) (hg : good (putE O e a.elems)) (hk : a.h < K) :
    PutD O K m a.root e ∧ ∃ a' m', putF O K m a.root e = (((hitE O e a.elems).isSome || decide (m.held ≠ m.cap)), a'.root, m') ∧ St O S good (n + 1) m' a' b ∧
      a'.elems = (if ((hitE O e a.elems).isSome || decide (m.held ≠ m.cap)) = true then putE O e a.elems else a.elems) ∧ Vis (32 * a.h + 4) m m' ∧ m'.cap = m.cap := by
  obtain ⟨r1, r2, a', r3, r4, r5, r6, r7⟩ := put_st Z h hn hg hk
  exact ⟨r1, a', _, Prod.ext r2 (Prod.ext r3 rfl), r4, r5, r6, r7⟩
theorem drop_st' {n K : Nat} {e : E} {m : Po E A} {a b : Tr E} (h : St O S good n m a b) (hg : good (loE O e a.elems ++ (hiE O e a.elems).tail)) (hk : 2 * a.h < K) :
    PickD O K K m a.root e ∧ ∃ a' m', dropF O K m a.root e = ((fndE O e a.elems).1, (fndE O e a.elems).2, a'.root, m') ∧ St O S good (n + 1) m' a' b ∧ a'.elems = dropE O e a.elems ∧ Vis (120 * a.h + 5) m m' ∧ m'.cap = m.cap := by
  obtain ⟨r1, r2, r3, a', r4, r5, r6, r7, r8⟩ := drop_st Z h hg hk
  exact ⟨r1, a', _, Prod.ext r2 (Prod.ext r3 (Prod.ext r4 rfl)), r5, r6, r7, r8⟩
theorem split_st' {n K : Nat} {e : E} {m : Po E A} {a : Tr E} (h : St O S good n m a .nil) (hk : 2 * a.items.length < K) :
    CutD O K K m a.root e ∧ ∃ x y m', cutF O K K m a.root e = (x.root, y.root, m') ∧ St O S good n m' x y ∧ x.elems = loE O e a.elems ∧ y.elems = hiE O e a.elems ∧ m'.cap = m.cap := by
  obtain ⟨r1, x, y, r2, r3, r4, r5, r6, r7⟩ := split_st Z (e := e) h hk
  exact ⟨r1, x, y, _, Prod.ext r2 (Prod.ext r3 rfl), r4, r5, r6, r7⟩
/-- is the first list's last element ahead of the second one's first one? -/
def aheadE (O : Ops E A) (x y : List E) : Bool := decide (x = [] ∨ y = [] ∨ O.cmp (x.getD (x.length - 1) O.e0) (y.getD 0 O.e0) < 0)
omit Z in
theorem snocE (l : List E) (z d : E) : (l ++ [z]).getD ((l ++ [z]).length - 1) d = z := by
  simp [List.getD_eq_getElem?_getD]
theorem srt_append {x y : List E} (hx : SrtE O x) (hy : SrtE O y) (h : aheadE O x y = true) : SrtE O (x ++ y) := by
  refine List.pairwise_append.2 ⟨hx, hy, fun u hu v hv => ?_⟩
  have h := of_decide_eq_true h
  have hx0 : x ≠ [] := fun e => by rw [e] at hu; cases hu
  have hy0 : y ≠ [] := fun e => by rw [e] at hv; cases hv
  have h := (h.resolve_left hx0).resolve_left hy0
  rcases List.eq_nil_or_concat x with e | ⟨x', z, e⟩
  · exact absurd e hx0
  rw [List.concat_eq_append] at e
  subst e
  rw [snocE] at h
  cases y with
  | nil => exact absurd rfl hy0
  | cons w y =>
    simp only [List.getD_cons_zero] at h
    have h1 : O.cmp u w < 0 := by
      rcases List.mem_append.1 hu with hu | hu
      · exact Z.trans _ _ _ ((List.pairwise_append.1 hx).2.2 u hu z (List.mem_singleton_self z)) h
      · rw [List.mem_singleton] at hu; rw [hu]; exact h
    rcases List.mem_cons.1 hv with hv | hv
    · rw [hv]; exact h1
    · exact Z.trans _ _ _ h1 ((List.pairwise_cons.1 hy).1 v hv)
theorem join_st {n K : Nat} {m : Po E A} {a b : Tr E} (h : St O S good n m a b) (hn : n ≤ 100000) (hg : good (a.elems ++ b.elems)) (hk : a.h + b.h < K) :
    JoinD O K m a.root b.root ∧ (aheadE O a.elems b.elems = true → ∃ t m', joinF O K m a.root b.root = (true, t.root, r0, m') ∧ St O S good n m' t .nil ∧ t.elems = a.elems ++ b.elems ∧ m'.cap = m.cap) ∧
      (aheadE O a.elems b.elems = false → ∃ m', joinF O K m a.root b.root = (false, a.root, b.root, m') ∧ St O S good n m' a b ∧ m'.cap = m.cap) := by
  have hla := Z.len _ h.ga
  have hnn := h.nn Z
  have hW : W ((a.elems.length : Int) - 1) = (a.elems.length : Int) - 1 := W_of (by omega)
  obtain ⟨d1, m1, e1, s1⟩ := at_st Z (K := K) (i := (a.elems.length : Int) - 1) (h.see a.root) (by omega)
  obtain ⟨d2, m2, e2, s2⟩ := at_st Z (K := K) (i := 0) s1.st.swap (by omega)
  have s2' := s2.st.swap
  have hend : endsF O K m a.root b.root = (nthE O ((a.elems.length : Int) - 1) a.elems, nthE O 0 b.elems, m2) := by
    unfold endsF
    rw [hnn, hW, e1]
    simp only
    rw [e2]
  obtain ⟨g1, t, g2, g3, g4, g5⟩ := glue_tr Z (K := K) s2'.ok s2'.ra s2'.rb s2'.nod hg s2'.ba s2'.bb hk
  have hcond : ((nthE O ((a.elems.length : Int) - 1) a.elems).2 = true ∧ (nthE O 0 b.elems).2 = true ∧ O.cmp (nthE O ((a.elems.length : Int) - 1) a.elems).1 (nthE O 0 b.elems).1 ≥ 0) ↔ aheadE O a.elems b.elems = false := by
    have k3 : ((a.elems.length : Int) - 1).toNat = a.elems.length - 1 := by omega
    unfold nthE aheadE
    rw [decide_eq_false_iff_not]
    by_cases c1 : a.elems = []
    · rw [if_neg (by rw [c1]; simp)]
      simp [c1]
    · have : a.elems.length ≠ 0 := fun h0 => c1 (List.eq_nil_of_length_eq_zero h0)
      rw [if_pos (by omega), k3]
      by_cases c2 : b.elems = []
      · rw [if_neg (by rw [c2]; simp)]
        simp [c2]
      · have : b.elems.length ≠ 0 := fun h0 => c2 (List.eq_nil_of_length_eq_zero h0)
        rw [if_pos (by omega)]
        simp only [true_and, not_or, c1, c2, not_false_eq_true, Int.toNat_zero]
        omega
  have hcap : m2.cap = m.cap := by rw [s2.cap, s1.cap]; unfold see; split <;> rfl
  have hJ : joinF O K m a.root b.root = if aheadE O a.elems b.elems = false then (false, a.root, b.root, m2) else (true, (glue O K m2 a.root b.root).1, r0, (glue O K m2 a.root b.root).2) := by
    unfold joinF
    rw [hend]
    simp only
    by_cases c : aheadE O a.elems b.elems = false
    · rw [if_pos c, if_pos (hcond.2 c)]
    · rw [if_neg c, if_neg (fun x => c (hcond.1 x))]
  refine ⟨⟨?_, ?_, ?_, ?_, ?_⟩, fun c => ?_, fun c => ?_⟩
  · rw [hnn, hW]; exact d1
  · rw [hnn, hW, e1]; exact d2
  · rw [hnn, hW, e1]; exact s1.st.ok.mono hn
  · rw [hend]; exact s2'.ok.mono hn
  · rw [hend]; exact fun _ => g1
  · rw [hJ, if_neg (by rw [c]; decide)]
    have et : t.elems = a.elems ++ b.elems := by rw [Tr.elems, g2.its, List.map_append]; rfl
    have er : t.refs = a.refs ++ b.refs := by rw [Tr.refs, g2.its, List.map_append]; rfl
    refine ⟨t, _, Prod.ext rfl (Prod.ext g2.root rfl), ⟨g5.ok s2'.ok, g2.rp, trivial, g2.bal, trivial, Srt_map.1 ?_, List.Pairwise.nil, ?_, ?_, by rw [et]; exact hg, Z.left [] _ (by simpa [Tr.elems, Tr.items] using h.ga)⟩, et, by rw [g5.cap]; exact hcap⟩
    · rw [show t.items.map Prod.snd = t.elems from rfl, et]
      exact srt_append Z (Srt_map.2 h.sa) (Srt_map.2 h.sb) c
    · rw [er]; simpa [Tr.refs, Tr.items] using h.nod
    · rw [g5.held, s2'.held, g2.its, List.length_append]
      simp [Tr.items]
  · rw [hJ, if_pos c]
    exact ⟨m2, rfl, s2', hcap⟩
end
end Go.Proofs.Ytegekenkfomlbaa.Gv
