/- grove: what is cut, gathered, found, counted and summed. -/
import Derived.Test.YtegekenkfomlbaaGvAvl4
import Derived.Test.YtegekenkfomlbaaGvTop
namespace Go.Proofs.Ytegekenkfomlbaa.Gv
open Go.Proofs.Ytegekenkfomlbaa.Rx
set_option linter.unusedVariables false
set_option linter.unusedSimpArgs false
set_option linter.unusedSectionVars false
set_option maxHeartbeats 4000000
section
variable {E A : Type} {O : Ops E A} {S : List E → A} {good : List E → Prop} (Z : Laws O S good)
theorem gather_tr {n : Nat} : ∀ (t : Tr E) {k : Nat} {m : Po E A}, POk n m → Rp O S m t → t.h < k → (gather O k m t.root).1 = t.elems ∧ ∃ kk, Upd [] kk (zn O) m (gather O k m t.root).2
  | t, 0, m, _, _, hk => by omega
  | .nil, k + 1, m, ho, hr, hk => by
    have h0 : (lk O m (Tr.nil (E := E)).root).h = 0 := by rw [(show Rp O S m .nil from trivial).root ho]; rfl
    rw [gather, if_pos h0]
    exact ⟨rfl, _, see_upd _ _ _⟩
  | .node r l x q, k + 1, m, ho, ⟨hr1, hr2, hr3, hr4⟩, hk => by
    have h0 : ¬ (lk O m r).h = 0 := by rw [hr2, nd_h]; simp only [Tr.h]; omega
    simp only [Tr.root_node]
    simp only [Tr.h] at hk
    rw [gather, if_neg h0, hr2, nd_node]
    obtain ⟨i1, k1, i2⟩ := gather_tr l (k := k) (m := see m r) (see_ok.2 ho) (hr3.see _) (by omega)
    have hu := (see_upd (zn O) m r).to i2 (S := []) (fun s hs => by simp at hs) (Nat.le_refl _)
    obtain ⟨j1, k2, j2⟩ := gather_tr q (k := k) (m := (gather O k (see m r) l.root).2) (gather_ok.2 (see_ok.2 ho)) (Rp.frame hu (fun s _ hs => by cases hs) hr4) (by omega)
    exact ⟨by rw [i1, j1, Tr.elems_node], _, hu.to j2 (fun s hs => by simp at hs) (Nat.le_refl _)⟩
include Z
theorem cut_tr {n K : Nat} {e : E} : ∀ (t : Tr E) {k : Nat} {m : Po E A}, POk n m → Rp O S m t → t.bal → Srt O t.items → t.refs.Nodup → good t.elems → t.h < k → 2 * t.items.length < K →
    CutD O K k m t.root e ∧ ∃ a b, Is O S (cutF O K k m t.root e).2.2 (cutF O K k m t.root e).1 (lo O e t.items) a ∧ Is O S (cutF O K k m t.root e).2.2 (cutF O K k m t.root e).2.1 (hi O e t.items) b ∧
      ∃ kk, Upd t.refs kk (zn O) m (cutF O K k m t.root e).2.2
  | t, 0, m, _, _, _, _, _, _, hk, _ => by omega
  | .nil, k + 1, m, ho, hr, hb, hs, hn, hg, hk, hK => by
    have h0 : (lk O m (Tr.nil (E := E)).root).h = 0 := by rw [(show Rp O S m .nil from trivial).root ho]; rfl
    rw [CutD, cutF, if_pos h0, if_pos h0]
    exact ⟨trivial, .nil, .nil, ⟨rfl, trivial, rfl, trivial⟩, ⟨rfl, trivial, rfl, trivial⟩, _, (see_upd _ _ _).mono (fun s hs => by cases hs) (Nat.le_refl _)⟩
  | .node r l x q, k + 1, m, ho, ⟨hr1, hr2, hr3, hr4⟩, ⟨b1, b2, b3, b4⟩, hs, hn, hg, hk, hK => by
    have h0 : ¬ (lk O m r).h = 0 := by rw [hr2, nd_h]; simp only [Tr.h]; omega
    simp only [Tr.root_node]
    rw [Tr.items_node] at hs hK ⊢
    rw [Tr.refs_node] at hn ⊢
    rw [Tr.elems_node] at hg
    simp only [List.length_append, List.length_cons] at hK
    rw [CutD, cutF, if_neg h0, if_neg h0, hr2, nd_node]
    simp only [Tr.h] at hk ⊢
    have nodc := hn
    simp only [List.nodup_append, List.nodup_cons, List.mem_append, List.mem_cons, not_or] at nodc
    have hl1 := l.h_le
    have hq1 := q.h_le
    by_cases hc : O.cmp x e < 0
    · rw [if_pos hc, if_pos hc]
      have hc2 : 0 < O.cmp e x := (Z.swap _ _).1 hc
      obtain ⟨e1, e2⟩ := lo_gt Z hs hc2
      rw [e1, e2]
      have hsq : Srt O q.items := (List.pairwise_cons.1 hs.right).2
      obtain ⟨d, a, b, i1, i2, kk, i3⟩ := cut_tr (K := K) q (k := k) (m := see m r) (see_ok.2 ho) (hr4.see _) b2 hsq (List.nodup_cons.1 (List.nodup_append.1 hn).2.1).2 (Z.right (l.elems ++ [x]) _ (by simpa using hg)) (by omega) (by omega)
      have hu := (see_upd (zn O) m r).to i3 (S := q.refs) (fun s hs => by simpa using hs) (Nat.le_refl _)
      have ha' : a.refs = List.map Prod.fst (lo O e q.items) := by rw [Tr.refs, i1.its]
      have hb' : b.refs = List.map Prod.fst (hi O e q.items) := by rw [Tr.refs, i2.its]
      have hq' : q.refs = a.refs ++ b.refs := by rw [ha', hb', rf_lo_hi]; rfl
      have hae : q.elems = a.elems ++ b.elems := by rw [Tr.elems, Tr.elems, Tr.elems, i1.its, i2.its, ← List.map_append, lo_hi]
      have hah := a.h_le
      have hal : a.items.length ≤ q.items.length := by
        have := congrArg List.length (lo_hi O e q.items)
        rw [List.length_append] at this
        rw [i1.its]; omega
      rw [hq'] at hn
      have hn' : ((l.refs ++ r :: a.refs) ++ b.refs).Nodup := by simpa using hn
      rw [hae] at hg
      have hg' : good (l.elems ++ x :: a.elems) := Z.left _ b.elems (by simpa using hg)
      have hrx : (lk O (cutF O K k (see m r) q.root e).2.2 r).e = x := by
        rw [show lk O (cutF O K k (see m r) q.root e).2.2 r = lk O m r from hu.look r (fun h => nodc.2.1.1 h), hr2]; rfl
      rw [i1.root]
      obtain ⟨d2, u, u1, u2, u3, u4, u5⟩ := link_tr Z K l a (m := (cutF O K k (see m r) q.root e).2.2) (b := r) (e := x) (cutF_ok.2 (see_ok.2 ho)) (Rp.frame hu (fun s hs hs2 => nodc.2.2 s hs s (Or.inr hs2) rfl) hr3) i1.rp
        (by rw [hu.has]; exact hr1) hrx (List.nodup_append.1 hn').1 hg' b1 i1.bal (by omega)
      refine ⟨⟨d, d2⟩, u, b, ⟨u1.root, u1.rp, by rw [u1.its, i1.its], u1.bal⟩, ⟨i2.root, Rp.frame u5 (fun s hs hs2 => (List.nodup_append.1 hn').2.2 s hs2 s hs rfl) i2.rp, i2.its, i2.bal⟩, _, hu.to u5 (fun s hs => ?_) (Nat.le_refl _)⟩
      rw [hq'] at hs ⊢
      simp only [List.mem_append, List.mem_cons] at hs ⊢
      rcases hs with (h | h) | h | h | h <;> simp [h]
    · rw [if_neg hc, if_neg hc]
      have hc2 : ¬ 0 < O.cmp e x := fun h => hc ((Z.swap _ _).2 h)
      obtain ⟨e1, e2⟩ := lo_lt' (l := l.items) (q := q.items) (r := r) hc2
      rw [e1, e2]
      obtain ⟨d, a, b, i1, i2, kk, i3⟩ := cut_tr (K := K) l (k := k) (m := see m r) (see_ok.2 ho) (hr3.see _) b1 hs.left (List.nodup_append.1 hn).1 (Z.left _ _ hg) (by omega) (by omega)
      have hu := (see_upd (zn O) m r).to i3 (S := l.refs) (fun s hs => by simpa using hs) (Nat.le_refl _)
      have ha' : a.refs = List.map Prod.fst (lo O e l.items) := by rw [Tr.refs, i1.its]
      have hb' : b.refs = List.map Prod.fst (hi O e l.items) := by rw [Tr.refs, i2.its]
      have hl' : l.refs = a.refs ++ b.refs := by rw [ha', hb', rf_lo_hi]; rfl
      have hle : l.elems = a.elems ++ b.elems := by rw [Tr.elems, Tr.elems, Tr.elems, i1.its, i2.its, ← List.map_append, lo_hi]
      have hbh := b.h_le
      have hbl : b.items.length ≤ l.items.length := by
        have := congrArg List.length (lo_hi O e l.items)
        rw [List.length_append] at this
        rw [i2.its]; omega
      rw [hl'] at hn
      have hn' : (a.refs ++ (b.refs ++ r :: q.refs)).Nodup := by simpa using hn
      rw [hle] at hg
      have hg' : good (b.elems ++ x :: q.elems) := Z.right a.elems _ (by simpa using hg)
      have hrx : (lk O (cutF O K k (see m r) l.root e).2.2 r).e = x := by
        rw [show lk O (cutF O K k (see m r) l.root e).2.2 r = lk O m r from hu.look r (fun h => nodc.2.2 r h r (Or.inl rfl) rfl), hr2]; rfl
      rw [i2.root]
      obtain ⟨d2, u, u1, u2, u3, u4, u5⟩ := link_tr Z K b q (m := (cutF O K k (see m r) l.root e).2.2) (b := r) (e := x) (cutF_ok.2 (see_ok.2 ho)) i2.rp (Rp.frame hu (fun s hs hs2 => nodc.2.2 s hs2 s (Or.inr hs) rfl) hr4)
        (by rw [hu.has]; exact hr1) hrx (List.nodup_append.1 hn').2.1 hg' i2.bal b2 (by omega)
      refine ⟨⟨d, d2⟩, a, u, ⟨i1.root, Rp.frame u5 (fun s hs hs2 => (List.nodup_append.1 hn').2.2 s hs s hs2 rfl) i1.rp, i1.its, i1.bal⟩, ⟨u1.root, u1.rp, by rw [u1.its, i2.its], u1.bal⟩, _, hu.to u5 (fun s hs => ?_) (Nat.le_refl _)⟩
      rw [hl'] at hs ⊢
      simp only [List.mem_append, List.mem_cons] at hs ⊢
      rcases hs with (h | h) | h | h | h <;> simp [h]
/-- the first rounds' answers -/
theorem find_tr {n : Nat} {e : E} : ∀ (t : Tr E) {k : Nat} {m : Po E A}, POk n m → Rp O S m t → Srt O t.items → t.h < k →
    FindE O k m (nd O S t) e ∧ (find O k m (nd O S t) e).1 = (match hit O e t.items with
      | none => (O.e0, false)
      | some x => (x.2, true)) ∧ Upd [] t.h (zn O) m (find O k m (nd O S t) e).2
  | t, 0, m, _, _, _, hk => by omega
  | .nil, k + 1, m, ho, hr, hs, hk => by
    have h0 : ¬ (nd O S (Tr.nil (E := E))).h > 0 := by rw [nd_h]; simp [Tr.h]
    rw [FindE, find, if_neg h0]
    exact ⟨fun h => absurd h h0, rfl, Upd.refl _ _ _ _⟩
  | .node r l x q, k + 1, m, ho, ⟨hr1, hr2, hr3, hr4⟩, hs, hk => by
    have h0 : (nd O S (Tr.node r l x q)).h > 0 := by rw [nd_h]; simp only [Tr.h]; omega
    simp only [Tr.h] at hk ⊢
    rw [Tr.items_node] at hs ⊢
    rw [FindE, find, if_pos h0, nd_node]
    have kl : lk O m l.root = nd O S l := hr3.root ho
    have kq : lk O m q.root = nd O S q := hr4.root ho
    simp only [kl, kq]
    have il := find_tr (e := e) l (k := k) (m := see m l.root) (see_ok.2 ho) (hr3.see _) hs.left (by omega)
    have hsq : Srt O q.items := (List.pairwise_cons.1 hs.right).2
    have iq := find_tr (e := e) q (k := k) (m := see m q.root) (see_ok.2 ho) (hr4.see _) hsq (by omega)
    refine ⟨fun _ _ => ⟨fun _ => il.1, fun _ => iq.1⟩, ?_⟩
    by_cases hc : O.cmp e x = 0
    · rw [if_pos hc, hit_eq Z hs hc]
      exact ⟨rfl, Upd.refl _ _ _ _⟩
    · rw [if_neg hc]
      by_cases hc2 : O.cmp e x < 0
      · rw [if_pos hc2, hit_lt hc2]
        exact ⟨il.2.1, (see_upd _ m _).to il.2.2 (fun s hs => by simp at hs) (by omega)⟩
      · rw [if_neg hc2, hit_gt Z hs (by omega)]
        exact ⟨iq.2.1, (see_upd _ m _).to iq.2.2 (fun s hs => by simp at hs) (by omega)⟩
theorem rank_tr {n : Nat} {e : E} : ∀ (t : Tr E) {k : Nat} {m : Po E A} {c : Int}, POk n m → Rp O S m t → Srt O t.items → t.h < k → 0 ≤ c → c + t.items.length ≤ 2000000 →
    RankE O k m (nd O S t) e c ∧ (rank O k m (nd O S t) e c).1 = c + (lo O e t.items).length ∧ Upd [] (2 * t.h) (zn O) m (rank O k m (nd O S t) e c).2
  | t, 0, m, c, _, _, _, hk, _, _ => by omega
  | .nil, k + 1, m, c, ho, hr, hs, hk, hc0, hc1 => by
    have h0 : ¬ (nd O S (Tr.nil (E := E))).h > 0 := by rw [nd_h]; simp [Tr.h]
    rw [RankE, rank, if_neg h0]
    exact ⟨fun h => absurd h h0, by simp [lo, Tr.items], Upd.refl _ _ _ _⟩
  | .node r l x q, k + 1, m, c, ho, ⟨hr1, hr2, hr3, hr4⟩, hs, hk, hc0, hc1 => by
    have h0 : (nd O S (Tr.node r l x q)).h > 0 := by rw [nd_h]; simp only [Tr.h]; omega
    simp only [Tr.h] at hk ⊢
    have hall := nd_all (O := O) (S := S) Z.nil (.node r l x q)
    rw [Tr.items_node] at hs hc1 ⊢
    simp only [List.length_append, List.length_cons] at hc1
    rw [RankE, rank, if_pos h0]
    have kl : lk O m l.root = nd O S l := hr3.root ho
    have kq : lk O m q.root = nd O S q := hr4.root ho
    have e1 : (nd O S (Tr.node r l x q)).l = l.root := rfl
    have e2 : (nd O S (Tr.node r l x q)).r = q.root := rfl
    have e3 : (nd O S (Tr.node r l x q)).e = x := rfl
    have hv : W (c + W ((nd O S (Tr.node r l x q)).all.n - (nd O S q).all.n)) = c + (l.items.length + 1 : Nat) := by
      rw [hall, nd_all Z.nil]
      simp only [Tr.items_node, List.length_append, List.length_cons]
      rw [W_of (n := ((l.items.length + (q.items.length + 1) : Nat) : Int) - (q.items.length : Int)) (by omega), W_of (by omega)]
      omega
    rw [e1, e2, e3]
    simp only [kl, kq]
    rw [hv]
    have hsq : Srt O q.items := (List.pairwise_cons.1 hs.right).2
    have il := rank_tr (e := e) l (k := k) (m := see m l.root) (c := c) (see_ok.2 ho) (hr3.see _) hs.left (by omega) hc0 (by omega)
    have iq := rank_tr (e := e) q (k := k) (m := see m q.root) (c := c + (l.items.length + 1 : Nat)) (see_ok.2 ho) (hr4.see _) hsq (by omega) (by omega) (by omega)
    refine ⟨fun _ => ⟨fun _ => il.1, fun _ => iq.1⟩, ?_⟩
    by_cases hc : O.cmp e x ≤ 0
    · rw [if_pos hc, (lo_lt' (by omega)).1]
      exact ⟨il.2.1, (see_upd _ m _).to il.2.2 (fun s hs => by simp at hs) (by omega)⟩
    · rw [if_neg hc, (lo_gt Z hs (by omega)).1]
      refine ⟨?_, (see_upd _ m _).to iq.2.2 (fun s hs => by simp at hs) (by omega)⟩
      rw [iq.2.1]
      simp only [List.length_append, List.length_cons]
      omega
theorem nth_tr {n : Nat} : ∀ (t : Tr E) {k : Nat} {m : Po E A} {i : Nat}, POk n m → Rp O S m t → t.items.length ≤ 1000000 → t.h < k → i < t.items.length →
    NthE O k m (nd O S t) i ∧ (nthF O k m (nd O S t) i).1 = t.elems.getD i O.e0 ∧ Upd [] (2 * t.h) (zn O) m (nthF O k m (nd O S t) i).2
  | t, 0, m, i, _, _, _, hk, _ => by omega
  | .nil, k + 1, m, i, ho, hr, hg, hk, hi => by simp [Tr.items] at hi
  | .node r l x q, k + 1, m, i, ho, ⟨hr1, hr2, hr3, hr4⟩, hg, hk, hi => by
    simp only [Tr.h] at hk ⊢
    rw [Tr.items_node] at hg hi
    simp only [List.length_append, List.length_cons] at hg hi
    rw [NthE, nthF]
    have kl : lk O m l.root = nd O S l := hr3.root ho
    have kq : lk O m q.root = nd O S q := hr4.root ho
    have e1 : (nd O S (Tr.node r l x q)).l = l.root := rfl
    have e2 : (nd O S (Tr.node r l x q)).r = q.root := rfl
    have e3 : (nd O S (Tr.node r l x q)).e = x := rfl
    have e4 : (nd O S l).all.n = l.items.length := by rw [nd_all Z.nil]
    rw [e1, e2, e3]
    simp only [lk_see, kl, kq, e4]
    have w1 : W (((l.items.length : Nat) : Int) + 1) = (l.items.length : Int) + 1 := W_of (by omega)
    rw [w1, Tr.elems_node]
    have hle : l.elems.length = l.items.length := Tr.elems_length l
    by_cases h1 : (i : Int) = (l.items.length : Int)
    · rw [if_pos h1]
      refine ⟨fun h => absurd h1 h, ?_, (see_upd _ m _).mono (fun s hs => hs) (by omega)⟩
      rw [List.getD_eq_getElem?_getD, List.getElem?_append_right (by omega)]
      simp [hle, show i - l.items.length = 0 by omega]
    · rw [if_neg h1]
      by_cases h2 : (i : Int) < (l.items.length : Int)
      · rw [if_pos h2]
        obtain ⟨i1, i2, i3⟩ := nth_tr l (k := k) (m := see m l.root) (i := i) (see_ok.2 ho) (hr3.see _) (by omega) (by omega) (by omega)
        refine ⟨fun _ => ⟨fun _ => i1, fun h => absurd h2 h⟩, ?_, (see_upd _ m _).to i3 (fun s hs => by simp at hs) (by omega)⟩
        rw [i2, List.getD_eq_getElem?_getD, List.getD_eq_getElem?_getD, List.getElem?_append_left (by omega)]
      · rw [if_neg h2]
        have w2 : W ((i : Int) - ((l.items.length : Int) + 1)) = ((i - (l.items.length + 1) : Nat) : Int) := by rw [W_of (by omega)]; omega
        rw [w2]
        obtain ⟨i1, i2, i3⟩ := nth_tr q (k := k) (m := see (see m l.root) q.root) (i := i - (l.items.length + 1)) (see_ok.2 (see_ok.2 ho)) ((hr4.see _).see _) (by omega) (by omega) (by omega)
        refine ⟨fun _ => ⟨fun h => absurd h h2, fun _ => i1⟩, ?_, (see2_upd m _ _).to i3 (fun s hs => by simp at hs) (by omega)⟩
        rw [i2, List.getD_eq_getElem?_getD, List.getD_eq_getElem?_getD, List.getElem?_append_right (by omega), hle, show i - l.items.length = (i - (l.items.length + 1)) + 1 by omega, List.getElem?_cons_succ]
/-- the elements from a place on, below another -/
def sub (l : List E) (a b : Nat) : List E := (l.drop a).take (b - a)
omit Z in
theorem sub_node (L Q : List E) (x : E) {a b : Nat} (hab : a ≤ b) : sub (L ++ x :: Q) a b = sub L a b ++ ((if a ≤ L.length ∧ L.length < b then [x] else []) ++ sub Q (a - (L.length + 1)) (b - (L.length + 1))) := by
  unfold sub
  rw [List.drop_append, List.take_append]
  congr 1
  rw [List.length_drop]
  by_cases h1 : a ≤ L.length
  · rw [show a - L.length = 0 by omega, List.drop_zero, show a - (L.length + 1) = 0 by omega, List.drop_zero]
    by_cases h2 : L.length < b
    · rw [if_pos ⟨h1, h2⟩, show b - a - (L.length - a) = (b - (L.length + 1)) + 1 by omega, List.take_succ_cons]
      rfl
    · rw [if_neg (by omega), show b - a - (L.length - a) = 0 by omega, show b - (L.length + 1) - 0 = 0 by omega]
      simp
  · rw [if_neg (by omega), show a - L.length = (a - (L.length + 1)) + 1 by omega, List.drop_succ_cons, List.nil_append]
    congr 1
    omega
theorem good_sub {l : List E} (a b : Nat) (h : good l) : good (sub l a b) := by
  unfold sub
  have h1 : good (l.drop a) := Z.right (l.take a) _ (by rw [List.take_append_drop]; exact h)
  exact Z.left _ ((l.drop a).drop (b - a)) (by rw [List.take_append_drop]; exact h1)
omit Z in
theorem sub_none {l : List E} {a b : Nat} (h : b ≤ a ∨ l.length ≤ a) : sub l a b = [] := by
  unfold sub
  rcases h with h | h
  · rw [show b - a = 0 by omega, List.take_zero]
  · rw [List.drop_of_length_le h, List.take_nil]
omit Z in
theorem sub_cap (l : List E) (a b : Nat) : sub l a (min b l.length) = sub l a b := by
  unfold sub
  rcases Nat.le_total b l.length with h | h
  · rw [Nat.min_eq_left h]
  · rw [Nat.min_eq_right h, List.take_of_length_le (by simp), List.take_of_length_le (by simp; omega)]
/-- how many nodes are looked at: none, if there is nothing or all; one way down, if it begins or ends with all; else two -/
def cost (h s : Nat) (f u : Int) : Nat := if (max f 0 ≥ min u s) ∨ (f ≤ 0 ∧ u ≥ s) then 0 else if f ≤ 0 ∨ u ≥ s then 2 * h else 4 * h
omit Z in
theorem cost_le (h s : Nat) (f u : Int) : cost h s f u ≤ 4 * h ∧ (f ≤ 0 ∨ u ≥ s → cost h s f u ≤ 2 * h) ∧ ((max f 0 ≥ min u s) ∨ (f ≤ 0 ∧ u ≥ s) → cost h s f u = 0) := by
  unfold cost
  refine ⟨by split <;> (try split) <;> omega, fun hc => by split <;> (try split) <;> omega, fun hc => by rw [if_pos hc]⟩
omit Z in
theorem cost_eq {h s : Nat} {f u : Int} (h1 : ¬ ((max f 0 ≥ min u s) ∨ (f ≤ 0 ∧ u ≥ s))) : cost h s f u = if f ≤ 0 ∨ u ≥ s then 2 * h else 4 * h := by unfold cost; rw [if_neg h1]
theorem between_tr {n : Nat} : ∀ (t : Tr E) {k : Nat} {m : Po E A} {f u : Int}, POk n m → Rp O S m t → good t.elems → t.h < k →
    BetE O k m (nd O S t) f u ∧ (between O k m (nd O S t) f u).1 = ⟨(sub t.elems f.toNat u.toNat).length, S (sub t.elems f.toNat u.toNat)⟩ ∧ Upd [] (cost t.h t.elems.length f u) (zn O) m (between O k m (nd O S t) f u).2
  | t, 0, m, f, u, _, _, _, hk => by omega
  | .nil, k + 1, m, f, u, ho, hr, hg, hk => by
    have hall : (nd O S (Tr.nil (E := E))).all.n = 0 := rfl
    have hc : mx f 0 ≥ mn u (nd O S (Tr.nil (E := E))).all.n := by rw [hall]; unfold mx mn; split <;> split <;> omega
    rw [BetE, between, if_pos hc]
    refine ⟨fun h => absurd hc h, ?_, Upd.refl _ _ _ _⟩
    rw [sub_none (.inr (Nat.zero_le _)), ← Z.nil]
    rfl
  | .node r l x q, k + 1, m, f, u, ho, ⟨hr1, hr2, hr3, hr4⟩, hg, hk => by
    simp only [Tr.h] at hk ⊢
    have hlen := Z.len _ hg
    have hall := nd_all (O := O) (S := S) Z.nil (.node r l x q)
    rw [← Tr.elems_length] at hall
    have kl : lk O m l.root = nd O S l := hr3.root ho
    have kq : lk O m q.root = nd O S q := hr4.root ho
    have e1 : (nd O S (Tr.node r l x q)).l = l.root := rfl
    have e2 : (nd O S (Tr.node r l x q)).r = q.root := rfl
    have e3 : (nd O S (Tr.node r l x q)).e = x := rfl
    have e4 : (nd O S l).all.n = l.elems.length := by rw [nd_all Z.nil, Tr.elems_length]
    rw [BetE, between, e1, e2, e3, hall]
    rw [Tr.elems_node] at hg hlen ⊢
    simp only [kl, e4, lk_between, lk_see, kq]
    generalize hL : (l.elems ++ x :: q.elems) = L at *
    have hLl : L.length = l.elems.length + (q.elems.length + 1) := by rw [← hL]; simp
    -- the bounds, clamped
    obtain ⟨a, ha⟩ : ∃ a : Nat, mx f 0 = a := ⟨f.toNat, by unfold mx; split <;> omega⟩
    have ha' : a = f.toNat := by unfold mx at ha; split at ha <;> omega
    by_cases c1 : mx f 0 ≥ mn u L.length
    · rw [if_pos c1]
      refine ⟨fun h => absurd c1 h, ?_, Upd.refl _ _ _ _⟩
      have : min u.toNat L.length ≤ a := by unfold mn at c1; rw [ha] at c1; split at c1 <;> omega
      rw [← sub_cap, ← ha', sub_none (.inl this), ← Z.nil]
      rfl
    · rw [if_neg c1]
      obtain ⟨b, hb⟩ : ∃ b : Nat, mn u L.length = b := ⟨min u.toNat L.length, by unfold mn at c1 ⊢; split at c1 <;> split <;> omega⟩
      have hb' : b = min u.toNat L.length := by unfold mn at c1 hb; split at hb <;> omega
      have hsub : sub L f.toNat u.toNat = sub L a b := by rw [hb', sub_cap, ha']
      rw [hsub]
      rw [ha, hb] at c1 ⊢
      have hab : a < b := by omega
      by_cases c2 : (a : Int) = 0 ∧ (b : Int) = L.length
      · rw [if_pos c2]
        refine ⟨fun _ h => absurd c2 h, ?_, Upd.refl _ _ _ _⟩
        have : sub L a b = L := by
          unfold sub
          rw [show a = 0 by omega, List.drop_zero, show b - 0 = L.length by omega, List.take_length]
        rw [this]
      · rw [if_neg c2]
        have hgl : good l.elems := Z.left _ (x :: q.elems) (by rw [hL]; exact hg)
        have hgq : good q.elems := Z.right (l.elems ++ [x]) _ (by rw [List.append_assoc]; simpa [hL] using hg)
        have ih1 := between_tr l (k := k) (m := see m l.root) (f := a) (u := b) (see_ok.2 ho) (hr3.see _) hgl (by omega)
        simp only [Int.toNat_natCast] at ih1
        obtain ⟨d1, v1, u1⟩ := ih1
        have hu1 := (see_upd (zn O) m l.root).to u1 (S := []) (k := cost l.h l.elems.length a b + 1) (fun s hs => by simp at hs) (by omega)
        have w1 : W ((l.elems.length : Int) + 1) = (l.elems.length : Int) + 1 := W_of (by omega)
        have w2 : W (W ((a : Int) - (l.elems.length : Int)) - 1) = (a : Int) - l.elems.length - 1 := by rw [W_of (n := (a : Int) - (l.elems.length : Int)) (by omega), W_of (by omega)]
        have w3 : W (W ((b : Int) - (l.elems.length : Int)) - 1) = (b : Int) - l.elems.length - 1 := by rw [W_of (n := (b : Int) - (l.elems.length : Int)) (by omega), W_of (by omega)]
        rw [w1, w2, w3, v1]
        have hsn := sub_node l.elems q.elems x (a := a) (b := b) (by omega)
        rw [hL] at hsn
        have hgs := good_sub Z a b hg
        rw [hsn] at hgs ⊢
        have hone : (if (a : Int) ≤ (l.elems.length : Int) ∧ (l.elems.length : Int) < (b : Int) then plusP O ⟨(sub l.elems a b).length, S (sub l.elems a b)⟩ (one O x) else ⟨(sub l.elems a b).length, S (sub l.elems a b)⟩) =
            ⟨(sub l.elems a b ++ (if a ≤ l.elems.length ∧ l.elems.length < b then [x] else [])).length, S (sub l.elems a b ++ (if a ≤ l.elems.length ∧ l.elems.length < b then [x] else []))⟩ := by
          by_cases c3 : a ≤ l.elems.length ∧ l.elems.length < b
          · rw [if_pos (by omega), if_pos c3]
            rw [if_pos c3] at hgs
            rw [one_part Z, part_plus Z (Z.left _ (sub q.elems (a - (l.elems.length + 1)) (b - (l.elems.length + 1))) (by simpa using hgs))]
          · rw [if_neg (by omega), if_neg c3, List.append_nil]
        rw [hone]
        by_cases c4 : (b : Int) ≤ (l.elems.length : Int) + 1
        · rw [if_pos c4]
          refine ⟨fun _ _ => ⟨d1, fun h => absurd c4 h⟩, ?_, hu1.mono (fun s hs => hs) ?_⟩
          rotate_left
          · have q1 := cost_le l.h l.elems.length a b
            have q0 : ¬ ((max f 0 ≥ min u (L.length : Nat)) ∨ (f ≤ 0 ∧ u ≥ (L.length : Nat))) := by omega
            rw [cost_eq q0]
            split <;> omega
          rw [sub_none (l := q.elems) (.inl (by omega)), List.append_nil]
        · rw [if_neg c4]
          obtain ⟨d2, v2, u2⟩ := between_tr q (k := k) (m := see (between O k (see m l.root) (nd O S l) a b).2 q.root) (f := (a : Int) - l.elems.length - 1) (u := (b : Int) - l.elems.length - 1) (see_ok.2 (between_ok.2 (see_ok.2 ho)))
            ((Rp.frame hu1 (fun s _ hs => by cases hs) hr4).see _) hgq (by omega)
          refine ⟨fun _ _ => ⟨d1, fun _ => d2⟩, ?_, (hu1.to (see_upd _ _ q.root) (S := []) (k := cost l.h l.elems.length a b + 2) (fun s hs => by simp at hs) (by omega)).to u2 (fun s hs => by simp at hs) ?_⟩
          · rw [v2]
            rw [show ((a : Int) - l.elems.length - 1).toNat = a - (l.elems.length + 1) by omega, show ((b : Int) - l.elems.length - 1).toNat = b - (l.elems.length + 1) by omega]
            rw [part_plus Z (by rw [List.append_assoc]; exact hgs), List.append_assoc]
          · have q1 := cost_le l.h l.elems.length a b
            have q2 := cost_le q.h q.elems.length ((a : Int) - l.elems.length - 1) ((b : Int) - l.elems.length - 1)
            have q0 : ¬ ((max f 0 ≥ min u (L.length : Nat)) ∨ (f ≤ 0 ∧ u ≥ (L.length : Nat))) := by omega
            rw [cost_eq q0]
            split
            · rcases Nat.eq_zero_or_pos a with h0 | h0
              · have := q1.2.2 (by omega)
                have := q2.2.1 (by omega)
                omega
              · rcases Nat.lt_or_ge l.elems.length a with h3 | h3
                · have := q1.2.2 (by omega)
                  have := q2.2.1 (by omega)
                  omega
                · have := q1.2.1 (by omega)
                  have := q2.2.2 (by omega)
                  omega
            · rcases Nat.lt_or_ge l.elems.length a with h3 | h3
              · have := q1.2.2 (by omega)
                omega
              · have := q1.2.1 (by omega)
                have := q2.2.1 (by omega)
                omega
end
end Go.Proofs.Ytegekenkfomlbaa.Gv
