/- grove: what is dropped, replaced and cut. -/
import Derived.Test.YtegekenkfomlbaaGvAvl3
namespace Go.Proofs.Ytegekenkfomlbaa.Gv
open Go.Proofs.Ytegekenkfomlbaa.Rx
set_option linter.unusedVariables false
set_option linter.unusedSimpArgs false
set_option linter.unusedSectionVars false
section
variable {E A : Type} {O : Ops E A} {S : List E → A} {good : List E → Prop} (Z : Laws O S good)
theorem rf_lo_hi (e : E) (l : List (Ref × E)) : List.map Prod.fst (lo O e l) ++ List.map Prod.fst (hi O e l) = List.map Prod.fst l := by conv => rhs; rw [← lo_hi O e l]; simp
include Z
theorem replace_tr {n : Nat} {e : E} : ∀ (t : Tr E) {k : Nat} {m : Po E A}, POk n m → Rp O S m t → t.bal → Srt O t.items → t.refs.Nodup → (∀ x, hit O e t.items = some x → gd good (lo O e t.items ++ (x.1, e) :: (hi O e t.items).tail)) → t.h < k →
    match hit O e t.items with
    | none => (replace O k m t.root e).1 = false ∧ Upd [] (2 * t.h + 1) (zn O) m (replace O k m t.root e).2
    | some x => (replace O k m t.root e).1 = true ∧ ∃ t', Is O S (replace O k m t.root e).2 t.root (lo O e t.items ++ (x.1, e) :: (hi O e t.items).tail) t' ∧ t'.h = t.h ∧ Upd t.refs (6 * t.h + 1) (zn O) m (replace O k m t.root e).2
  | t, 0, m, _, _, _, _, _, _, hk => by omega
  | .nil, k + 1, m, ho, hr, hb, hs, hn, hg, hk => by
    have h0 : (lk O m (Tr.nil (E := E)).root).h = 0 := by rw [(show Rp O S m .nil from trivial).root ho]; rfl
    rw [replace, if_pos h0]
    exact ⟨rfl, (see_upd _ _ _).mono (fun s hs => hs) (by omega)⟩
  | .node r l x q, k + 1, m, ho, ⟨hr1, hr2, hr3, hr4⟩, ⟨b1, b2, b3, b4⟩, hs, hn, hg, hk => by
    have h0 : ¬ (lk O m r).h = 0 := by rw [hr2, nd_h]; simp only [Tr.h]; omega
    simp only [Tr.root_node]
    rw [Tr.items_node] at hs hg ⊢
    rw [Tr.refs_node] at hn ⊢
    rw [replace, if_neg h0, hr2, nd_node]
    simp only [Tr.h] at hk ⊢
    have nodc := hn
    simp only [List.nodup_append, List.nodup_cons, List.mem_append, List.mem_cons, not_or] at nodc
    by_cases hc : O.cmp e x < 0
    · rw [if_pos hc]
      obtain ⟨e1, e2⟩ := lo_lt (l := l.items) (q := q.items) (r := r) hc
      rw [e1, e2, hit_lt hc] at hg
      rw [e1, e2, hit_lt hc]
      have ih := replace_tr l (k := k) (m := see m r) (see_ok.2 ho) (hr3.see _) b1 hs.left (List.nodup_append.1 hn).1 (fun y hy => Z.left _ (x :: q.elems) (by
        have := hg y hy
        rw [(hit_some hy).1] at this
        simpa [gd, Tr.elems] using this)) (by omega)
      cases hh : hit O e l.items with
      | none =>
        rw [hh] at ih
        obtain ⟨i1, i2⟩ := ih
        rw [if_neg (by rw [i1]; simp)]
        exact ⟨i1, (see_upd _ m r).to i2 (fun s hs => by simp at hs) (by omega)⟩
      | some y =>
        rw [hh] at ih
        obtain ⟨i1, t', i2, i3, i4⟩ := ih
        rw [if_pos i1]
        refine ⟨rfl, ?_⟩
        have hgy := hg y hh
        have hy := (hit_some hh).1
        have hu := (see_upd (zn O) m r).to i4 (S := l.refs) (k := 6 * l.h + 2) (fun s hs => by simpa using hs) (by omega)
        have hr' : t'.refs = l.refs := by rw [Tr.refs, i2.its, Tr.refs, ← rf_lo_hi e l.items, hy]; simp
        have he' : t'.elems = (lo O e l.items).map Prod.snd ++ e :: ((hi O e l.items).tail).map Prod.snd := by rw [Tr.elems, i2.its]; simp
        have hroot : t'.root = l.root := i2.root.symm
        obtain ⟨p1, p2⟩ := tie_tr Z (m := (replace O k (see m r) l.root e).2) (replace_ok.2 (see_ok.2 ho)) (r := r) (l := t') (q := q) (v := ⟨x, l.root, q.root, ⟨(Tr.node r l x q).items.length, S (Tr.node r l x q).elems⟩, ((Tr.node r l x q).h : Nat)⟩) i2.rp
          (Rp.frame hu (fun s hs hs2 => nodc.2.2 s hs2 s (Or.inr hs) rfl) hr4) (by rw [hu.has]; exact hr1) (by rw [hr']; exact fun h => nodc.2.2 r h r (Or.inl rfl) rfl) (fun h => nodc.2.1.1 h) hroot.symm rfl
          (by rw [he']; rw [hy] at hgy; simpa [gd, Tr.elems] using hgy)
        refine ⟨.node r t' x q, ⟨rfl, p1, ?_, ⟨i2.bal, b2, by omega, by omega⟩⟩, by simp only [Tr.h]; omega, hu.to p2 (fun s hs => by simp at hs; rcases hs with h | h <;> simp [h]) (by omega)⟩
        rw [Tr.items_node, i2.its, hy]
        simp
    · rw [if_neg hc]
      by_cases hc2 : 0 < O.cmp e x
      · rw [if_pos hc2]
        obtain ⟨e1, e2⟩ := lo_gt Z hs hc2
        rw [e1, e2, hit_gt Z hs hc2] at hg
        rw [e1, e2, hit_gt Z hs hc2]
        have hsq : Srt O q.items := (List.pairwise_cons.1 hs.right).2
        have ih := replace_tr q (k := k) (m := see m r) (see_ok.2 ho) (hr4.see _) b2 hsq (List.nodup_cons.1 (List.nodup_append.1 hn).2.1).2 (fun y hy => Z.right (l.elems ++ [x]) _ (by
          have := hg y hy
          simpa [gd, Tr.elems] using this)) (by omega)
        cases hh : hit O e q.items with
        | none =>
          rw [hh] at ih
          obtain ⟨i1, i2⟩ := ih
          rw [if_neg (by rw [i1]; simp)]
          exact ⟨i1, (see_upd _ m r).to i2 (fun s hs => by simp at hs) (by omega)⟩
        | some y =>
          rw [hh] at ih
          obtain ⟨i1, t', i2, i3, i4⟩ := ih
          rw [if_pos i1]
          refine ⟨rfl, ?_⟩
          have hgy := hg y hh
          have hy := (hit_some hh).1
          have hu := (see_upd (zn O) m r).to i4 (S := q.refs) (k := 6 * q.h + 2) (fun s hs => by simpa using hs) (by omega)
          have hr' : t'.refs = q.refs := by rw [Tr.refs, i2.its, Tr.refs, ← rf_lo_hi e q.items, hy]; simp
          have he' : t'.elems = (lo O e q.items).map Prod.snd ++ e :: ((hi O e q.items).tail).map Prod.snd := by rw [Tr.elems, i2.its]; simp
          have hroot : t'.root = q.root := i2.root.symm
          obtain ⟨p1, p2⟩ := tie_tr Z (m := (replace O k (see m r) q.root e).2) (replace_ok.2 (see_ok.2 ho)) (r := r) (l := l) (q := t') (v := ⟨x, l.root, q.root, ⟨(Tr.node r l x q).items.length, S (Tr.node r l x q).elems⟩, ((Tr.node r l x q).h : Nat)⟩)
            (Rp.frame hu (fun s hs hs2 => nodc.2.2 s hs s (Or.inr hs2) rfl) hr3) i2.rp (by rw [hu.has]; exact hr1) (fun h => nodc.2.2 r h r (Or.inl rfl) rfl) (by rw [hr']; exact fun h => nodc.2.1.1 h) rfl hroot.symm
            (by rw [he']; simpa [gd, Tr.elems] using hgy)
          refine ⟨.node r l x t', ⟨rfl, p1, ?_, ⟨b1, i2.bal, by omega, by omega⟩⟩, by simp only [Tr.h]; omega, hu.to p2 (fun s hs => by simp at hs; rcases hs with h | h <;> simp [h]) (by omega)⟩
          rw [Tr.items_node, i2.its]
          simp
      · rw [if_neg hc2]
        have hc3 : O.cmp e x = 0 := by omega
        obtain ⟨e1, e2⟩ := lo_eq Z hs hc3
        rw [e1, e2, hit_eq Z hs hc3] at hg
        rw [e1, e2, hit_eq Z hs hc3]
        have hgy := hg _ rfl
        simp only [List.tail_cons] at hgy ⊢
        obtain ⟨p1, p2⟩ := tie_tr Z (m := see m r) (see_ok.2 ho) (r := r) (l := l) (q := q) (v := ⟨e, l.root, q.root, ⟨(Tr.node r l x q).items.length, S (Tr.node r l x q).elems⟩, ((Tr.node r l x q).h : Nat)⟩)
          (hr3.see _) (hr4.see _) (by simpa using hr1) (fun h => nodc.2.2 r h r (Or.inl rfl) rfl) (fun h => nodc.2.1.1 h) rfl rfl (by simpa [gd, Tr.elems] using hgy)
        exact ⟨by simp, .node r l e q, ⟨rfl, p1, rfl, ⟨b1, b2, b3, b4⟩⟩, by simp only [Tr.h], (see_upd _ m r).to p2 (fun s hs => by simp at hs; simp [hs]) (by omega)⟩
theorem pick_tr {n K : Nat} {e : E} : ∀ (t : Tr E) {k : Nat} {m : Po E A}, POk n m → Rp O S m t → t.bal → Srt O t.items → t.refs.Nodup → gd good (lo O e t.items ++ (hi O e t.items).tail) → t.h < k → 2 * t.h < K →
    PickD O K k m t.root e ∧ match hit O e t.items with
    | none => (pick O K k m t.root e).2.1 = r0 ∧ (pick O K k m t.root e).1 = t.root ∧ Upd [] (2 * t.h + 1) (zn O) m (pick O K k m t.root e).2.2
    | some x => (pick O K k m t.root e).2.1 = x.1 ∧ ∃ t', Is O S (pick O K k m t.root e).2.2 (pick O K k m t.root e).1 (lo O e t.items ++ (hi O e t.items).tail) t' ∧ t.h ≤ t'.h + 1 ∧ t'.h ≤ t.h ∧
      Upd (rf (lo O e t.items ++ (hi O e t.items).tail)) (120 * t.h + 4) (zn O) m (pick O K k m t.root e).2.2
  | t, 0, m, _, _, _, _, _, _, hk, _ => by omega
  | .nil, k + 1, m, ho, hr, hb, hs, hn, hg, hk, hK => by
    have h0 : (lk O m (Tr.nil (E := E)).root).h = 0 := by rw [(show Rp O S m .nil from trivial).root ho]; rfl
    rw [PickD, pick, if_pos h0, if_pos h0]
    exact ⟨trivial, rfl, rfl, (see_upd _ _ _).mono (fun s hs => hs) (by omega)⟩
  | .node r l x q, k + 1, m, ho, ⟨hr1, hr2, hr3, hr4⟩, ⟨b1, b2, b3, b4⟩, hs, hn, hg, hk, hK => by
    have h0 : ¬ (lk O m r).h = 0 := by rw [hr2, nd_h]; simp only [Tr.h]; omega
    simp only [Tr.root_node]
    rw [Tr.items_node] at hs hg ⊢
    rw [Tr.refs_node] at hn
    rw [PickD, pick, if_neg h0, if_neg h0, hr2, nd_node]
    simp only [Tr.h] at hk hK ⊢
    have nodc := hn
    simp only [List.nodup_append, List.nodup_cons, List.mem_append, List.mem_cons, not_or] at nodc
    by_cases hc : O.cmp e x < 0
    · rw [if_pos hc, if_pos hc]
      obtain ⟨e1, e2⟩ := lo_lt (l := l.items) (q := q.items) (r := r) hc
      rw [e1, e2] at hg
      rw [e1, e2, hit_lt hc]
      cases hh : hit O e l.items with
      | none =>
        have hgl : gd good (lo O e l.items ++ (hi O e l.items).tail) := by
          cases hhi : hi O e l.items with
          | nil =>
            rw [hhi] at hg
            simp only [List.tail_nil, List.append_nil, List.nil_append] at hg ⊢
            exact Z.left _ (q.elems) (by simpa [gd, Tr.elems] using hg)
          | cons y tl =>
            rw [hhi] at hg
            simp only [List.tail_cons, List.cons_append] at hg ⊢
            exact Z.left _ (x :: q.elems) (by simpa [gd, Tr.elems] using hg)
        have ih := pick_tr (K := K) l (k := k) (m := see m r) (see_ok.2 ho) (hr3.see _) b1 hs.left (List.nodup_append.1 hn).1 hgl (by omega) (by omega)
        rw [hh] at ih
        obtain ⟨d, i1, i2, i3⟩ := ih
        rw [if_pos i1]
        exact ⟨d, i1, rfl, (see_upd _ m r).to i3 (fun s hs => by simp at hs) (by omega)⟩
      | some y =>
        have hy := (hit_some hh).1
        rw [hy] at hg
        simp only [List.cons_append, List.tail_cons] at hg
        have ih := pick_tr (K := K) l (k := k) (m := see m r) (see_ok.2 ho) (hr3.see _) b1 hs.left (List.nodup_append.1 hn).1 (Z.left _ (x :: q.elems) (by simpa [gd, Tr.elems] using hg)) (by omega) (by omega)
        rw [hh] at ih
        obtain ⟨d, i1, t', i2, i3, i4, i5⟩ := ih
        have hyr : y.1 ∈ l.refs := List.mem_map.2 ⟨y, (hit_some hh).2.2, rfl⟩
        have hyn : y.1 ≠ r0 := fun hc0 => by
          have := hr3.has _ hyr
          rw [hc0, ho.z0] at this
          cases this
        rw [if_neg (by rw [i1]; exact hyn)]
        have hsub : ∀ s, s ∈ rf (lo O e l.items ++ (hi O e l.items).tail) → s ∈ l.refs := fun s hs => by
          rw [Tr.refs, ← rf_lo_hi e l.items, hy]
          simp only [rf, List.map_append, List.mem_append, List.map_cons, List.mem_cons] at hs ⊢
          rcases hs with h | h
          · exact .inl h
          · exact .inr (.inr h)
        have hu := (see_upd (zn O) m r).to i5 (S := rf (lo O e l.items ++ (hi O e l.items).tail)) (k := 120 * l.h + 5) (fun s hs => by simpa using hs) (by omega)
        have hr' : t'.refs = rf (lo O e l.items ++ (hi O e l.items).tail) := by rw [Tr.refs, i2.its]
        have he' : t'.elems = (lo O e l.items ++ (hi O e l.items).tail).map Prod.snd := by rw [Tr.elems, i2.its]
        have hsl : (rf (lo O e l.items ++ (hi O e l.items).tail)).Sublist l.refs := by
          rw [Tr.refs, ← rf_lo_hi e l.items]
          conv => rhs; rw [hy]
          simp only [rf, List.map_append, List.map_cons]
          exact List.Sublist.append_left (List.sublist_cons_self _ _) _
        rw [i2.root]
        obtain ⟨u, u1, u2, u3, u4, u5⟩ := level_tr Z (m := (pick O K k (see m r) l.root e).2.2) (pick_ok.2 (see_ok.2 ho)) (r := r) (l := t') (q := q)
          (v := ⟨x, t'.root, q.root, ⟨(Tr.node r l x q).items.length, S (Tr.node r l x q).elems⟩, ((Tr.node r l x q).h : Nat)⟩) i2.rp (Rp.frame hu (fun s hs hs2 => nodc.2.2 s (hsub s hs2) s (Or.inr hs) rfl) hr4)
          (by rw [hu.has]; exact hr1) (by rw [hr']; exact (List.Sublist.append_right hsl _).nodup hn) rfl rfl (by rw [he']; simpa [gd, Tr.elems] using hg) i2.bal b2 (by omega) (by omega)
        refine ⟨d, i1, u, ⟨u1.root, u1.rp, by rw [u1.its, i2.its, hy]; simp, u1.bal⟩, ?_, ?_, hu.to u5 (fun s hs => ?_) (by omega)⟩
        · rcases Nat.lt_or_ge (t'.h + 1) q.h with hx | hx
          · omega
          · have := u4 (by omega) hx; omega
        · rcases Nat.lt_or_ge (t'.h + 1) q.h with hx | hx
          · omega
          · have := u4 (by omega) hx; omega
        · rw [hr'] at hs
          rw [hy]
          simp only [rf, List.map_append, List.mem_append, List.map_cons, List.mem_cons, List.cons_append, List.tail_cons, Tr.refs] at hs ⊢
          rcases hs with (h | h) | (h | h) | h | h <;> (first | simp [h]; done | exact Or.inl h | exact Or.inr h | exact Or.inl (Or.inl h) | exact Or.inl (Or.inr h) | exact Or.inr (Or.inl h) | exact Or.inr (Or.inr h) | exact Or.inl (Or.inr (Or.inl h)) | exact Or.inl (Or.inr (Or.inr h)) | exact Or.inr (Or.inr (Or.inl h)) | exact Or.inr (Or.inr (Or.inr h)))
    · rw [if_neg hc, if_neg hc]
      by_cases hc2 : 0 < O.cmp e x
      · rw [if_pos hc2, if_pos hc2]
        obtain ⟨e1, e2⟩ := lo_gt Z hs hc2
        rw [e1, e2] at hg
        rw [e1, e2, hit_gt Z hs hc2]
        have hsq : Srt O q.items := (List.pairwise_cons.1 hs.right).2
        have hgq : gd good (lo O e q.items ++ (hi O e q.items).tail) := Z.right (l.elems ++ [x]) _ (by simpa [gd, Tr.elems] using hg)
        have ih := pick_tr (K := K) q (k := k) (m := see m r) (see_ok.2 ho) (hr4.see _) b2 hsq (List.nodup_cons.1 (List.nodup_append.1 hn).2.1).2 hgq (by omega) (by omega)
        cases hh : hit O e q.items with
        | none =>
          rw [hh] at ih
          obtain ⟨d, i1, i2, i3⟩ := ih
          rw [if_pos i1]
          exact ⟨d, i1, rfl, (see_upd _ m r).to i3 (fun s hs => by simp at hs) (by omega)⟩
        | some y =>
          have hy := (hit_some hh).1
          rw [hh] at ih
          obtain ⟨d, i1, t', i2, i3, i4, i5⟩ := ih
          have hyr : y.1 ∈ q.refs := List.mem_map.2 ⟨y, (hit_some hh).2.2, rfl⟩
          have hyn : y.1 ≠ r0 := fun hc0 => by
            have := hr4.has _ hyr
            rw [hc0, ho.z0] at this
            cases this
          rw [if_neg (by rw [i1]; exact hyn)]
          have hsl : (rf (lo O e q.items ++ (hi O e q.items).tail)).Sublist q.refs := by
            rw [Tr.refs, ← rf_lo_hi e q.items]
            conv => rhs; rw [hy]
            simp only [rf, List.map_append, List.map_cons]
            exact List.Sublist.append_left (List.sublist_cons_self _ _) _
          have hu := (see_upd (zn O) m r).to i5 (S := rf (lo O e q.items ++ (hi O e q.items).tail)) (k := 120 * q.h + 5) (fun s hs => by simpa using hs) (by omega)
          have hr' : t'.refs = rf (lo O e q.items ++ (hi O e q.items).tail) := by rw [Tr.refs, i2.its]
          have he' : t'.elems = (lo O e q.items ++ (hi O e q.items).tail).map Prod.snd := by rw [Tr.elems, i2.its]
          rw [i2.root]
          obtain ⟨u, u1, u2, u3, u4, u5⟩ := level_tr Z (m := (pick O K k (see m r) q.root e).2.2) (pick_ok.2 (see_ok.2 ho)) (r := r) (l := l) (q := t')
            (v := ⟨x, l.root, t'.root, ⟨(Tr.node r l x q).items.length, S (Tr.node r l x q).elems⟩, ((Tr.node r l x q).h : Nat)⟩) (Rp.frame hu (fun s hs hs2 => nodc.2.2 s hs s (Or.inr (hsl.subset hs2)) rfl) hr3) i2.rp
            (by rw [hu.has]; exact hr1) (by rw [hr']; exact (List.Sublist.append_left (List.Sublist.cons_cons r hsl) _).nodup hn) rfl rfl (by rw [he']; simpa [gd, Tr.elems] using hg) b1 i2.bal (by omega) (by omega)
          refine ⟨d, i1, u, ⟨u1.root, u1.rp, by rw [u1.its, i2.its]; simp, u1.bal⟩, ?_, ?_, hu.to u5 (fun s hs => ?_) (by omega)⟩
          · rcases Nat.lt_or_ge (l.h) (t'.h + 1) with hx | hx
            · have := u4 (by omega) (by omega); omega
            · rcases Nat.lt_or_ge (t'.h + 1) l.h with hx2 | hx2
              · omega
              · have := u4 (by omega) (by omega); omega
          · rcases Nat.lt_or_ge (t'.h + 1) l.h with hx2 | hx2
            · omega
            · have := u4 (by omega) (by omega); omega
          · rw [hr'] at hs
            simp only [rf, List.map_append, List.mem_append, List.map_cons, List.mem_cons, Tr.refs] at hs ⊢
            rcases hs with (h | h) | h | h | h | h <;> (first | simp [h]; done | exact Or.inl h | exact Or.inr h | exact Or.inl (Or.inl h) | exact Or.inl (Or.inr h) | exact Or.inr (Or.inl h) | exact Or.inr (Or.inr h) | exact Or.inl (Or.inr (Or.inl h)) | exact Or.inl (Or.inr (Or.inr h)) | exact Or.inr (Or.inr (Or.inl h)) | exact Or.inr (Or.inr (Or.inr h)))
      · rw [if_neg hc2, if_neg hc2]
        have hc3 : O.cmp e x = 0 := by omega
        obtain ⟨e1, e2⟩ := lo_eq Z hs hc3
        rw [e1, e2] at hg
        rw [e1, e2, hit_eq Z hs hc3]
        simp only [List.tail_cons] at hg ⊢
        obtain ⟨d, u, u1, u2, u3, u4⟩ := glue_tr Z (K := K) (m := see m r) (see_ok.2 ho) (hr3.see _) (hr4.see _) (List.Sublist.nodup (List.Sublist.append_left (List.sublist_cons_self r _) _) hn) (by simpa [gd, Tr.elems] using hg) b1 b2 (by omega)
        refine ⟨d, by simp, u, u1, by have := u2 b3 b4; omega, by omega, (see_upd _ m r).to u4 (fun s hs => ?_) (by omega)⟩
        simp only [rf, List.map_append, List.mem_append, Tr.refs] at hs ⊢
        rcases hs with h | h | h <;> simp_all
end
end Go.Proofs.Ytegekenkfomlbaa.Gv
