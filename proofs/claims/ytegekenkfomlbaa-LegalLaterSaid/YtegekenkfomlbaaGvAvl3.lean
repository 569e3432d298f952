/- grove: what is taken out, parted and joined. -/
import Derived.Test.YtegekenkfomlbaaGvAvl2
namespace Go.Proofs.Ytegekenkfomlbaa.Gv
open Go.Proofs.Ytegekenkfomlbaa.Rx
set_option linter.unusedVariables false
set_option linter.unusedSimpArgs false
set_option linter.unusedSectionVars false
section
variable {E A : Type} {O : Ops E A} {S : List E → A} {good : List E → Prop} (Z : Laws O S good)
theorem Tr.root_node (r : Ref) (l : Tr E) (e : E) (q : Tr E) : (Tr.node r l e q).root = r := rfl
theorem Deep_tr {n : Nat} : ∀ (t : Tr E) {k : Nat} {m : Po E A}, POk n m → Rp O S m t → t.h < k → Deep O k m t.root
  | t, 0, m, _, _, hk => by omega
  | .nil, k + 1, m, ho, hr, hk => .inl (by rw [hr.root ho]; rfl)
  | .node r l x q, k + 1, m, ho, ⟨hr1, hr2, hr3, hr4⟩, hk => by
    simp only [Tr.h] at hk
    refine .inr ?_
    simp only [Tr.root]
    rw [hr2, nd_node]
    exact ⟨Deep_tr l ho hr3 (by omega), Deep_tr q ho hr4 (by omega)⟩
theorem Rp.elem {m : Po E A} : ∀ {t : Tr E}, Rp O S m t → ∀ p, p ∈ t.items → (lk O m p.1).e = p.2
  | .nil, _, p, hp => by cases hp
  | .node r l x q, ⟨h1, h2, h3, h4⟩, p, hp => by
    rw [Tr.items_node, List.mem_append, List.mem_cons] at hp
    rcases hp with hp | rfl | hp
    · exact Rp.elem h3 p hp
    · rw [h2]; rfl
    · exact Rp.elem h4 p hp
theorem lo_lt' {e : E} {l q : List (Ref × E)} {r : Ref} {x : E} (h : ¬ 0 < O.cmp e x) : lo O e (l ++ (r, x) :: q) = lo O e l ∧ hi O e (l ++ (r, x) :: q) = hi O e l ++ (r, x) :: q :=
  tw_stop _ _ _ (by simp; omega) _
theorem nil_of_root {n : Nat} {m : Po E A} (ho : POk n m) {t : Tr E} (h : Rp O S m t) (hr : t.root = r0) : t = .nil := by
  cases t with
  | nil => rfl
  | node r l x q => exact absurd hr (root_ne ho h (by simp))
theorem see3_upd (m : Po E A) (a b c : Ref) : Upd [] 3 (zn O) m (see (see (see m a) b) c) := (see2_upd m a b).to (see_upd _ _ c) (fun r hr => by simp at hr) (Nat.le_refl _)
include Z
theorem link_tr {n : Nat} {b : Ref} {e : E} : ∀ (k : Nat) (l q : Tr E) {m : Po E A}, POk n m → Rp O S m l → Rp O S m q → has m b = true → (lk O m b).e = e → (l.refs ++ b :: q.refs).Nodup → good (l.elems ++ e :: q.elems) → l.bal → q.bal → l.h + q.h < k →
    LinkD O k m l.root b q.root ∧ ∃ t, Is O S (link O k m l.root b q.root).2 (link O k m l.root b q.root).1 (l.items ++ (b, e) :: q.items) t ∧ max l.h q.h ≤ t.h ∧ t.h ≤ max l.h q.h + 1 ∧ (l.h ≤ q.h + 1 → q.h ≤ l.h + 1 → t.h = max l.h q.h + 1) ∧
      Upd (l.refs ++ b :: q.refs) (30 * (l.h + q.h) + 4) (zn O) m (link O k m l.root b q.root).2
  | 0, l, q, m, _, _, _, _, _, _, _, _, _, hk => by omega
  | k + 1, l, q, m, ho, hl, hq, hb, he, nod, hg, bl, bq, hk => by
    have k1 : lk O m l.root = nd O S l := hl.root ho
    have k2 : lk O m q.root = nd O S q := hq.root ho
    have hlen := Z.len _ hg
    have h1 := l.h_le
    have h2 := q.h_le
    simp only [List.length_append, List.length_cons, Tr.elems_length] at hlen
    have w1 : W ((q.h : Int) + 1) = (q.h : Int) + 1 := W_of (by omega)
    have w2 : W ((l.h : Int) + 1) = (l.h : Int) + 1 := W_of (by omega)
    have ho2 : POk n (see (see m l.root) q.root) := see_ok.2 (see_ok.2 ho)
    have nodc := nod
    simp only [List.nodup_append, List.nodup_cons, List.mem_append, List.mem_cons, not_or] at nodc
    rw [LinkD, link]
    simp only [lk_see, k1, k2, nd_h, w1, w2]
    by_cases c1 : (l.h : Int) > q.h + 1
    · rw [if_pos c1, if_pos c1]
      cases l with
      | nil => simp only [Tr.h] at c1; omega
      | node a ll x lr =>
        obtain ⟨hl1, hl2, hl3, hl4⟩ := hl
        obtain ⟨bl1, bl2, bl3, bl4⟩ := bl
        simp only [Tr.h] at c1 hk
        simp only [nd_node, Tr.root_node, Tr.h]
        rw [Tr.refs_node] at nod ⊢
        rw [Tr.elems_node] at hg
        have nod' : (ll.refs ++ a :: (lr.refs ++ b :: q.refs)).Nodup := by simpa using nod
        obtain ⟨d, t', i1, i2, i3, i4, i5⟩ := link_tr k lr q (m := see (see m a) q.root) (see_ok.2 (see_ok.2 ho)) ((hl4.see _).see _) ((hq.see _).see _) (by simpa using hb) (by simpa using he) (List.nodup_cons.1 (List.nodup_append.1 nod').2.1).2
          (Z.right (ll.elems ++ [x]) _ (by simpa using hg)) bl2 bq (by omega)
        have hu := (see2_upd (O := O) m a q.root).to i5 (S := lr.refs ++ b :: q.refs) (k := 30 * (lr.h + q.h) + 6) (fun s hs => by simpa using hs) (by omega)
        have hr' : t'.refs = lr.refs ++ b :: q.refs := by rw [Tr.refs, i1.its]; simp [Tr.refs]
        have he' : t'.elems = lr.elems ++ e :: q.elems := by rw [Tr.elems, i1.its]; simp [Tr.elems]
        have dis : ∀ s, s ∈ ll.refs ++ [a] → s ∉ lr.refs ++ b :: q.refs := fun s hs hs2 => by
          have : ((ll.refs ++ [a]) ++ (lr.refs ++ b :: q.refs)).Nodup := by simpa using nod'
          exact (List.nodup_append.1 this).2.2 s hs s hs2 rfl
        refine ⟨d, ?_⟩
        rw [i1.root]
        obtain ⟨u, u1, u2, u3, u4, u5⟩ := level_tr Z (m := (link O k (see (see m a) q.root) lr.root b q.root).2) (link_ok.2 (see_ok.2 (see_ok.2 ho))) (r := a) (l := ll) (q := t')
          (v := ⟨x, ll.root, t'.root, ⟨(Tr.node a ll x lr).items.length, S (Tr.node a ll x lr).elems⟩, ((Tr.node a ll x lr).h : Nat)⟩) (Rp.frame hu (fun s hs => dis s (by simp [hs])) hl3) i1.rp (by rw [hu.has]; exact hl1)
          (by rw [hr']; exact nod') rfl rfl (by rw [he']; simpa using hg) bl1 i1.bal (by omega) (by omega)
        simp only [Tr.h] at u4 u5 ⊢
        refine ⟨u, ⟨u1.root, u1.rp, by rw [u1.its, i1.its]; simp [Tr.items], u1.bal⟩, ?_, ?_, fun _ _ => by omega, hu.to u5 (fun s hs => ?_) (by omega)⟩
        · rcases Nat.lt_or_ge (ll.h + 1) t'.h with hx | hx
          · omega
          · have := u4 (by omega) hx; omega
        · rcases Nat.lt_or_ge (ll.h + 1) t'.h with hx | hx
          · omega
          · have := u4 (by omega) hx; omega
        · rw [hr'] at hs
          simp only [List.mem_append, List.mem_cons] at hs ⊢
          rcases hs with (h | h | h) | h | h | h | h | h <;> simp [h]
    · rw [if_neg c1, if_neg c1]
      by_cases c2 : (q.h : Int) > l.h + 1
      · rw [if_pos c2, if_pos c2]
        cases q with
        | nil => simp only [Tr.h] at c2; omega
        | node a ql x qr =>
          obtain ⟨hq1, hq2, hq3, hq4⟩ := hq
          obtain ⟨bq1, bq2, bq3, bq4⟩ := bq
          simp only [Tr.h] at c2 hk
          simp only [nd_node, Tr.root_node, Tr.h]
          rw [Tr.refs_node] at nod ⊢
          rw [Tr.elems_node] at hg
          have nod' : ((l.refs ++ b :: ql.refs) ++ a :: qr.refs).Nodup := by simpa using nod
          obtain ⟨d, t', i1, i2, i3, i4, i5⟩ := link_tr k l ql (m := see (see m l.root) a) (see_ok.2 (see_ok.2 ho)) ((hl.see _).see _) ((hq3.see _).see _) (by simpa using hb) (by simpa using he) (List.nodup_append.1 nod').1
            (Z.left _ (x :: qr.elems) (by simpa using hg)) bl bq1 (by omega)
          have hu := (see2_upd (O := O) m l.root a).to i5 (S := l.refs ++ b :: ql.refs) (k := 30 * (l.h + ql.h) + 6) (fun s hs => by simpa using hs) (by omega)
          have hr' : t'.refs = l.refs ++ b :: ql.refs := by rw [Tr.refs, i1.its]; simp [Tr.refs]
          have he' : t'.elems = l.elems ++ e :: ql.elems := by rw [Tr.elems, i1.its]; simp [Tr.elems]
          have dis : ∀ s, s ∈ a :: qr.refs → s ∉ l.refs ++ b :: ql.refs := fun s hs hs2 => (List.nodup_append.1 nod').2.2 s hs2 s hs rfl
          refine ⟨d, ?_⟩
          rw [i1.root]
          obtain ⟨u, u1, u2, u3, u4, u5⟩ := level_tr Z (m := (link O k (see (see m l.root) a) l.root b ql.root).2) (link_ok.2 (see_ok.2 (see_ok.2 ho))) (r := a) (l := t') (q := qr)
            (v := ⟨x, t'.root, qr.root, ⟨(Tr.node a ql x qr).items.length, S (Tr.node a ql x qr).elems⟩, ((Tr.node a ql x qr).h : Nat)⟩) i1.rp (Rp.frame hu (fun s hs => dis s (by simp [hs])) hq4) (by rw [hu.has]; exact hq1)
            (by rw [hr']; exact nod') rfl rfl (by rw [he']; simpa using hg) i1.bal bq2 (by omega) (by omega)
          simp only [Tr.h] at u4 u5 ⊢
          refine ⟨u, ⟨u1.root, u1.rp, by rw [u1.its, i1.its]; simp [Tr.items], u1.bal⟩, ?_, ?_, fun _ _ => by omega, hu.to u5 (fun s hs => ?_) (by omega)⟩
          · rcases Nat.lt_or_ge (qr.h + 1) t'.h with hx | hx
            · omega
            · have := u4 hx (by omega); omega
          · rcases Nat.lt_or_ge (qr.h + 1) t'.h with hx | hx
            · omega
            · have := u4 hx (by omega); omega
          · rw [hr'] at hs
            simp only [List.mem_append, List.mem_cons] at hs ⊢
            rcases hs with (h | h | h) | (h | h | h) | h | h <;> simp [h]
      · rw [if_neg c2, if_neg c2]
        refine ⟨trivial, ?_⟩
        obtain ⟨s1, s2⟩ := setN_tr Z (m := see (see (see m l.root) q.root) b) (r := b) (l := l) (q := q) (v := ⟨(lk O m b).e, l.root, q.root, (lk O m b).all, (lk O m b).h⟩) (see_ok.2 ho2) (((hl.see _).see _).see _) (((hq.see _).see _).see _) (by simpa using hb)
          (fun h => nodc.2.2 b h b (Or.inl rfl) rfl) (fun h => nodc.2.1.1 h) rfl rfl (by simpa [he] using hg)
        simp only [he] at s1 s2 ⊢
        refine ⟨.node b l e q, ⟨rfl, s1, rfl, ⟨bl, bq, by omega, by omega⟩⟩, ?_, ?_, ?_, (see3_upd m l.root q.root b).to s2 (fun s hs => by simp at hs; subst hs; simp) (by omega)⟩
        · simp only [Tr.h]; omega
        · simp only [Tr.h]; omega
        · intro _ _; simp only [Tr.h]; omega
theorem pickF_tr {n : Nat} : ∀ (t : Tr E) {k : Nat} {m : Po E A}, POk n m → Rp O S m t → t.bal → t.refs.Nodup → good t.elems → t ≠ .nil → t.h ≤ k →
    PickFD O k m t.root ∧ ∃ f x tl t', t.items = (f, x) :: tl ∧ Is O S (pickF O k m t.root).2.2 (pickF O k m t.root).1 tl t' ∧ (pickF O k m t.root).2.1 = f ∧ t.h ≤ t'.h + 1 ∧ t'.h ≤ t.h ∧ Upd (rf tl) (30 * t.h) (zn O) m (pickF O k m t.root).2.2
  | .nil, k, m, _, _, _, _, _, hn, _ => absurd rfl hn
  | .node r l x q, 0, m, _, _, _, _, _, _, hk => by simp only [Tr.h] at hk; omega
  | .node r l x q, k + 1, m, ho, ⟨hr1, hr2, hr3, hr4⟩, ⟨b1, b2, b3, b4⟩, nod, hg, _, hk => by
    simp only [Tr.h] at hk
    simp only [Tr.root]
    rw [PickFD, pickF, hr2, nd_node]
    simp only
    rw [Tr.refs_node] at nod
    rw [Tr.elems_node] at hg
    by_cases c : l.root = r0
    · have hl := nil_of_root ho hr3 c
      subst hl
      rw [if_pos c, if_pos c]
      exact ⟨trivial, r, x, q.items, q, rfl, ⟨rfl, hr4.see _, rfl, b2⟩, rfl, by simp only [Tr.h] at b3 b4 ⊢; omega, by simp only [Tr.h]; omega, (see_upd _ _ _).mono (fun s hs => by cases hs) (by simp only [Tr.h]; omega)⟩
    · rw [if_neg c, if_neg c]
      have hln : l ≠ .nil := fun h => c (by rw [h]; rfl)
      obtain ⟨d, f, y, tl, t', i0, i1, i2, i3, i4, i5⟩ := pickF_tr l (k := k) (m := see m r) (see_ok.2 ho) (hr3.see _) b1 (List.nodup_append.1 nod).1 (Z.left _ _ hg) hln (by omega)
      have hu := (see_upd (zn O) m r).to i5 (S := rf tl) (k := 30 * l.h + 1) (fun s hs => by simpa using hs) (by omega)
      have hlr : l.refs = f :: rf tl := by rw [Tr.refs, i0]; rfl
      have hle : l.elems = y :: tl.map Prod.snd := by rw [Tr.elems, i0]; rfl
      rw [hlr] at nod
      rw [hle] at hg
      have nod' : (rf tl ++ r :: q.refs).Nodup := (List.nodup_cons.1 nod).2
      have hr' : t'.refs = rf tl := by rw [Tr.refs, i1.its]
      have he' : t'.elems = tl.map Prod.snd := by rw [Tr.elems, i1.its]
      have dis : ∀ s, s ∈ r :: q.refs → s ∉ rf tl := fun s hs hs2 => (List.nodup_append.1 nod').2.2 s hs2 s hs rfl
      rw [i1.root]
      obtain ⟨u, u1, u2, u3, u4, u5⟩ := level_tr Z (m := (pickF O k (see m r) l.root).2.2) (pickF_ok.2 (see_ok.2 ho)) (r := r) (l := t') (q := q)
        (v := ⟨x, t'.root, q.root, ⟨(Tr.node r l x q).items.length, S (Tr.node r l x q).elems⟩, ((Tr.node r l x q).h : Nat)⟩) i1.rp (Rp.frame hu (fun s hs => dis s (by simp [hs])) hr4) (by rw [hu.has]; exact hr1)
        (by rw [hr']; exact nod') rfl rfl (by rw [he']; exact Z.right [y] _ hg) i1.bal b2 (by omega) (by omega)
      refine ⟨d, f, y, tl ++ (r, x) :: q.items, u, by rw [Tr.items_node, i0]; rfl, ⟨u1.root, u1.rp, by rw [u1.its, i1.its], u1.bal⟩, i2, ?_, ?_, hu.to u5 (fun s hs => ?_) (by simp only [Tr.h]; omega)⟩
      · simp only [Tr.h]
        rcases Nat.lt_or_ge (t'.h + 1) q.h with hx | hx
        · omega
        · have := u4 (by omega) hx; omega
      · simp only [Tr.h]
        rcases Nat.lt_or_ge (t'.h + 1) q.h with hx | hx
        · omega
        · have := u4 (by omega) hx; omega
      · rw [hr'] at hs
        simp only [List.mem_append, List.mem_cons, List.map_append, List.map_cons, rf] at hs ⊢
        rcases hs with h | h | h | h
        · exact .inl h
        · exact .inl h
        · exact .inr (.inl h)
        · exact .inr (.inr h)
theorem glue_tr {n K : Nat} {l q : Tr E} {m : Po E A} (ho : POk n m) (hl : Rp O S m l) (hq : Rp O S m q) (nod : (l.refs ++ q.refs).Nodup) (hg : good (l.elems ++ q.elems)) (bl : l.bal) (bq : q.bal) (hk : l.h + q.h < K) :
    GlueD O K m l.root q.root ∧ ∃ t, Is O S (glue O K m l.root q.root).2 (glue O K m l.root q.root).1 (l.items ++ q.items) t ∧ (l.h ≤ q.h + 1 → q.h ≤ l.h + 1 → max l.h q.h ≤ t.h) ∧ t.h ≤ max l.h q.h + 1 ∧
      Upd (l.refs ++ q.refs) (30 * (l.h + q.h + q.h) + 4) (zn O) m (glue O K m l.root q.root).2 := by
  unfold GlueD glue
  by_cases c : q.root = r0
  · have hqn := nil_of_root ho hq c
    subst hqn
    rw [if_pos c, if_pos c]
    exact ⟨trivial, l, ⟨rfl, hl, by simp [Tr.items], bl⟩, fun _ _ => by simp only [Tr.h]; omega, by simp only [Tr.h]; omega, Upd.refl _ _ _ _⟩
  · rw [if_neg c, if_neg c]
    have hqn : q ≠ .nil := fun h => c (by rw [h]; rfl)
    obtain ⟨d, f, x, tl, t', i0, i1, i2, i3, i4, i5⟩ := pickF_tr Z q (k := K) (m := m) ho hq bq (List.nodup_append.1 nod).2.1 (Z.right _ _ hg) hqn (by omega)
    have hqr : q.refs = f :: rf tl := by rw [Tr.refs, i0]; rfl
    have hqe : q.elems = x :: tl.map Prod.snd := by rw [Tr.elems, i0]; rfl
    have hf : has m f = true := hq.has f (by rw [hqr]; simp)
    have hfe : (lk O m f).e = x := hq.elem (f, x) (by rw [i0]; simp)
    rw [hqr] at nod ⊢
    rw [hqe] at hg
    have hr' : t'.refs = rf tl := by rw [Tr.refs, i1.its]
    have he' : t'.elems = tl.map Prod.snd := by rw [Tr.elems, i1.its]
    have hnf : f ∉ rf tl := (List.nodup_cons.1 (List.nodup_append.1 nod).2.1).1
    have dis : ∀ s, s ∈ l.refs → s ∉ rf tl := fun s hs hs2 => (List.nodup_append.1 nod).2.2 s hs s (by simp [hs2]) rfl
    rw [i1.root, i2]
    obtain ⟨d2, u, u1, u2, u3, u4, u5⟩ := link_tr Z K l t' (m := (pickF O K m q.root).2.2) (b := f) (e := x) (pickF_ok.2 ho) (Rp.frame i5 dis hl) i1.rp (by rw [i5.has]; exact hf) (by rw [show lk O (pickF O K m q.root).2.2 f = lk O m f from i5.look f hnf]; exact hfe)
      (by rw [hr']; exact nod) (by rw [he']; exact hg) bl i1.bal (by omega)
    refine ⟨⟨d, d2⟩, u, ⟨u1.root, u1.rp, by rw [u1.its, i1.its, i0], u1.bal⟩, fun h1 h2 => ?_, by omega, i5.to u5 (fun s hs => ?_) (by omega)⟩
    · rcases Nat.lt_or_ge (t'.h) q.h with hx | hx
      · rcases Nat.lt_or_ge l.h q.h with hy | hy
        · have := u4 (by omega) (by omega); omega
        · omega
      · omega
    · rw [hr'] at hs
      rcases hs with h | h
      · simp [h]
      · exact h
end
end Go.Proofs.Ytegekenkfomlbaa.Gv
