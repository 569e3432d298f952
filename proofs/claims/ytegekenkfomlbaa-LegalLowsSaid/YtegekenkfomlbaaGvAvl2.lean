/- grove: what is put in, taken out, parted and joined. -/
import Derived.Test.YtegekenkfomlbaaGvAvl
namespace Go.Proofs.Ytegekenkfomlbaa.Gv
open Go.Proofs.Ytegekenkfomlbaa.Rx
set_option linter.unusedVariables false
set_option linter.unusedSimpArgs false
set_option linter.unusedSectionVars false
section
variable {E A : Type} (O : Ops E A)
/-- what is ahead of e, and the rest -/
def lo (e : E) (l : List (Ref × E)) : List (Ref × E) := l.takeWhile fun x => decide (0 < O.cmp e x.2)
def hi (e : E) (l : List (Ref × E)) : List (Ref × E) := l.dropWhile fun x => decide (0 < O.cmp e x.2)
def hit (e : E) (l : List (Ref × E)) : Option (Ref × E) :=
  match hi O e l with
  | [] => none
  | x :: _ => if O.cmp e x.2 = 0 then some x else none
def Srt (l : List (Ref × E)) : Prop := l.Pairwise fun a b => O.cmp a.2 b.2 < 0
theorem lo_hi (e : E) (l : List (Ref × E)) : lo O e l ++ hi O e l = l := List.takeWhile_append_dropWhile
variable {O} {S : List E → A} {good : List E → Prop} (Z : Laws O S good)
theorem tw_append {α : Type} (p : α → Bool) : ∀ (l q : List α), (∀ x ∈ l, p x = true) → (l ++ q).takeWhile p = l ++ q.takeWhile p ∧ (l ++ q).dropWhile p = q.dropWhile p
  | [], q, _ => ⟨rfl, rfl⟩
  | a :: l, q, h => by
    obtain ⟨h1, h2⟩ := tw_append p l q fun x hx => h x (List.mem_cons_of_mem _ hx)
    have ha := h a List.mem_cons_self
    simp [List.takeWhile_cons, List.dropWhile_cons, ha, h1, h2]
theorem tw_stop {α : Type} (p : α → Bool) (a : α) (q : List α) (ha : p a = false) : ∀ l : List α, (l ++ a :: q).takeWhile p = l.takeWhile p ∧ (l ++ a :: q).dropWhile p = l.dropWhile p ++ a :: q
  | [] => by simp [List.takeWhile_cons, List.dropWhile_cons, ha]
  | b :: l => by
    obtain ⟨h1, h2⟩ := tw_stop p a q ha l
    simp only [List.cons_append, List.takeWhile_cons, List.dropWhile_cons]
    split
    · exact ⟨by rw [h1], h2⟩
    · exact ⟨rfl, rfl⟩
theorem lo_lt {e : E} {l q : List (Ref × E)} {r : Ref} {x : E} (h : O.cmp e x < 0) : lo O e (l ++ (r, x) :: q) = lo O e l ∧ hi O e (l ++ (r, x) :: q) = hi O e l ++ (r, x) :: q :=
  tw_stop _ _ _ (by simp; omega) _
include Z in
theorem Srt.ahead {l q : List (Ref × E)} {r : Ref} {x e : E} (hs : Srt O (l ++ (r, x) :: q)) (h : 0 ≤ O.cmp e x) : ∀ y ∈ l, decide (0 < O.cmp e y.2) = true := by
  intro y hy
  have h1 : O.cmp y.2 x < 0 := (List.pairwise_append.1 hs).2.2 y hy (r, x) List.mem_cons_self
  refine decide_eq_true ((Z.swap _ _).1 ?_)
  rcases Int.lt_or_eq_of_le h with h2 | h2
  · exact Z.trans _ _ _ h1 ((Z.swap _ _).2 h2)
  · exact Z.eqv' _ _ _ h2.symm h1
include Z in
theorem lo_gt {e : E} {l q : List (Ref × E)} {r : Ref} {x : E} (hs : Srt O (l ++ (r, x) :: q)) (h : 0 < O.cmp e x) : lo O e (l ++ (r, x) :: q) = l ++ (r, x) :: lo O e q ∧ hi O e (l ++ (r, x) :: q) = hi O e q := by
  obtain ⟨h1, h2⟩ := tw_append (fun y : Ref × E => decide (0 < O.cmp e y.2)) l ((r, x) :: q) (hs.ahead Z (by omega))
  have hx : decide (0 < O.cmp e x) = true := decide_eq_true h
  unfold lo hi
  rw [h1, h2, List.takeWhile_cons, List.dropWhile_cons, if_pos hx, if_pos hx]
  exact ⟨rfl, rfl⟩
include Z in
theorem lo_eq {e : E} {l q : List (Ref × E)} {r : Ref} {x : E} (hs : Srt O (l ++ (r, x) :: q)) (h : O.cmp e x = 0) : lo O e (l ++ (r, x) :: q) = l ∧ hi O e (l ++ (r, x) :: q) = (r, x) :: q := by
  obtain ⟨h1, h2⟩ := tw_append (fun y : Ref × E => decide (0 < O.cmp e y.2)) l ((r, x) :: q) (hs.ahead Z (by omega))
  have hx : ¬ decide (0 < O.cmp e x) = true := by simp; omega
  unfold lo hi
  rw [h1, h2, List.takeWhile_cons, List.dropWhile_cons, if_neg hx, if_neg hx]
  simp
theorem hit_lt {e : E} {l q : List (Ref × E)} {r : Ref} {x : E} (h : O.cmp e x < 0) : hit O e (l ++ (r, x) :: q) = hit O e l := by
  unfold hit
  rw [(lo_lt h).2]
  cases hl : hi O e l with
  | nil => simp only [List.nil_append]; rw [if_neg (by omega)]
  | cons y tl => rfl
include Z in
theorem hit_gt {e : E} {l q : List (Ref × E)} {r : Ref} {x : E} (hs : Srt O (l ++ (r, x) :: q)) (h : 0 < O.cmp e x) : hit O e (l ++ (r, x) :: q) = hit O e q := by
  unfold hit
  rw [(lo_gt Z hs h).2]
include Z in
theorem hit_eq {e : E} {l q : List (Ref × E)} {r : Ref} {x : E} (hs : Srt O (l ++ (r, x) :: q)) (h : O.cmp e x = 0) : hit O e (l ++ (r, x) :: q) = some (r, x) := by
  unfold hit
  rw [(lo_eq Z hs h).2]
  simp only
  rw [if_pos h]
theorem hit_some {e : E} {l : List (Ref × E)} {x : Ref × E} (h : hit O e l = some x) : hi O e l = x :: (hi O e l).tail ∧ O.cmp e x.2 = 0 ∧ x ∈ l := by
  unfold hit at h
  split at h
  · cases h
  · rename_i y tl hy
    split at h
    · rename_i hc
      injection h with h
      subst h
      rw [hy]
      refine ⟨rfl, hc, ?_⟩
      rw [← lo_hi O e l, hy]
      simp
    · cases h
theorem Srt.left {l q : List (Ref × E)} (h : Srt O (l ++ q)) : Srt O l := (List.pairwise_append.1 h).1
theorem Srt.right {l q : List (Ref × E)} (h : Srt O (l ++ q)) : Srt O q := (List.pairwise_append.1 h).2.1
abbrev gd (good : List E → Prop) (l : List (Ref × E)) : Prop := good (l.map Prod.snd)
/-- handles -/
abbrev rf (l : List (Ref × E)) : List Ref := l.map Prod.fst
theorem Tr.items_node (r : Ref) (l : Tr E) (e : E) (q : Tr E) : (Tr.node r l e q).items = l.items ++ (r, e) :: q.items := rfl
include Z
theorem hang_tr {n : Nat} {f : Ref} {e : E} : ∀ (t : Tr E) {k : Nat} {m : Po E A}, POk n m → Rp O S m t → t.bal → Srt O t.items → (f :: t.refs).Nodup → has m f = true →
    lk O m f = ⟨e, r0, r0, one O e, 1⟩ → hit O e t.items = none → gd good (lo O e t.items ++ (f, e) :: hi O e t.items) → t.h < k →
    ∃ t', Is O S (hang O k m t.root f e).2 (hang O k m t.root f e).1 (lo O e t.items ++ (f, e) :: hi O e t.items) t' ∧ t.h ≤ t'.h ∧ t'.h ≤ t.h + 1 ∧ Upd (f :: t.refs) (30 * t.h + 1) (zn O) m (hang O k m t.root f e).2
  | t, 0, m, _, _, _, _, _, _, _, _, _, hk => by omega
  | .nil, k + 1, m, ho, hr, hb, hs, hn, hf, hfe, hh, hg, hk => by
    have h0 : (lk O m (Tr.nil (E := E)).root).h = 0 := by rw [(show Rp O S m .nil from trivial).root ho]; rfl
    rw [hang, if_pos h0]
    refine ⟨.node f .nil e .nil, ⟨rfl, ⟨by simpa using hf, ?_, trivial, trivial⟩, rfl, ⟨trivial, trivial, by simp [Tr.h], by simp [Tr.h]⟩⟩, by simp [Tr.h], by simp [Tr.h], (see_upd _ _ _).mono (fun s hs => by cases hs) (by omega)⟩
    rw [lk_see, hfe, nd_node]
    simp [Tr.items, Tr.elems, Tr.h, Tr.root, one, Z.one]
  | .node r l x q, k + 1, m, ho, hr, hb, hs, hn, hf, hfe, hh, hg, hk => by
    have hrt := hr.root ho
    obtain ⟨hr1, hr2, hr3, hr4⟩ := hr
    obtain ⟨b1, b2, b3, b4⟩ := hb
    have h0 : ¬ (lk O m r).h = 0 := by rw [hr2, nd_h]; simp only [Tr.h]; omega
    simp only [Tr.root]
    rw [Tr.items_node] at hs hh hg ⊢
    rw [Tr.refs_node] at hn ⊢
    rw [hang, if_neg h0, hr2, nd_node]
    simp only [Tr.h] at hk ⊢
    have hne : O.cmp e x ≠ 0 := fun hx => by rw [hit_eq Z hs hx] at hh; cases hh
    by_cases hc : O.cmp e x < 0
    · rw [if_pos hc]
      obtain ⟨e1, e2⟩ := lo_lt (l := l.items) (q := q.items) (r := r) hc
      rw [e1, e2] at hg ⊢
      rw [hit_lt hc] at hh
      have hg1 : gd good (lo O e l.items ++ (f, e) :: hi O e l.items) := Z.left _ ((x :: q.elems)) (by simpa [gd, Tr.elems] using hg)
      have hn1 : (f :: l.refs).Nodup := (List.nodup_append (l₂ := r :: q.refs).1 (by simpa using hn)).1
      obtain ⟨t', h1, h2, h3, h4⟩ := hang_tr l (k := k) (m := see m r) (see_ok.2 ho) (hr3.see _) b1 hs.left hn1 (by simpa using hf) (by rw [lk_see]; exact hfe) hh hg1 (by omega)
      have hu : Upd (f :: l.refs) (30 * l.h + 2) (zn O) m (hang O k (see m r) l.root f e).2 := (see_upd _ m r).to h4 (fun s hs => by simpa using hs) (by omega)
      have hrefs : t'.refs = rf (lo O e l.items) ++ f :: rf (hi O e l.items) := by simp [Tr.refs, h1.its]
      have hlr : l.refs = rf (lo O e l.items) ++ rf (hi O e l.items) := by rw [Tr.refs]; conv => lhs; rw [← lo_hi O e l.items]; simp
      have hnd : (t'.refs ++ r :: q.refs).Nodup := by
        rw [hrefs]
        rw [hlr] at hn
        have : (rf (lo O e l.items) ++ f :: (rf (hi O e l.items) ++ r :: q.refs)).Nodup := List.perm_middle.nodup_iff.2 (by simpa using hn)
        simpa using this
      have hni : ∀ s, s ∈ r :: q.refs → s ∉ f :: l.refs := fun s hs hs2 => (List.nodup_append (l₁ := f :: l.refs) (l₂ := r :: q.refs).1 (by simpa using hn)).2.2 s hs2 s hs rfl
      rw [h1.root]
      obtain ⟨u, u1, u2, u3, u4, u5⟩ := level_tr Z (m := (hang O k (see m r) l.root f e).2) (hang_ok.2 (see_ok.2 ho)) (r := r) (l := t') (q := q)
        (v := ⟨x, t'.root, q.root, ⟨(Tr.node r l x q).items.length, S (Tr.node r l x q).elems⟩, ((Tr.node r l x q).h : Nat)⟩) h1.rp (Rp.frame hu (fun s hs => hni s (by simp [hs])) hr4) (by rw [hu.has]; exact hr1) hnd rfl rfl
        (by rw [Tr.elems, h1.its]; simpa [gd, Tr.elems] using hg) h1.bal b2 (by omega) (by omega)
      refine ⟨u, ⟨u1.root, u1.rp, by rw [u1.its, h1.its]; simp, u1.bal⟩, ?_, by omega, hu.to u5 (fun s hs => ?_) (by omega)⟩
      · rcases Nat.lt_or_ge (q.h + 1) t'.h with hx | hx
        · omega
        · have := u4 hx (by omega); omega
      · rw [hrefs] at hs
        rw [hlr] at hs ⊢
        simp only [List.mem_cons, List.mem_append] at hs ⊢
        rcases hs with (h | h | h) | (h | h | h) | h | h <;> simp [h]
    · rw [if_neg hc]
      have hc2 : 0 < O.cmp e x := by omega
      obtain ⟨e1, e2⟩ := lo_gt Z hs hc2
      rw [e1, e2] at hg ⊢
      rw [hit_gt Z hs hc2] at hh
      have hg1 : gd good (lo O e q.items ++ (f, e) :: hi O e q.items) := Z.right (l.elems ++ [x]) _ (by simpa [gd, Tr.elems] using hg)
      have hn0 := List.nodup_cons.1 hn
      have hn1 : (f :: q.refs).Nodup := List.nodup_cons.2 ⟨fun h => hn0.1 (by simp [h]), (List.nodup_cons.1 (List.nodup_append.1 hn0.2).2.1).2⟩
      have hsq : Srt O q.items := (List.pairwise_cons.1 hs.right).2
      obtain ⟨t', h1, h2, h3, h4⟩ := hang_tr q (k := k) (m := see m r) (see_ok.2 ho) (hr4.see _) b2 hsq hn1 (by simpa using hf) (by rw [lk_see]; exact hfe) hh hg1 (by omega)
      have hu : Upd (f :: q.refs) (30 * q.h + 2) (zn O) m (hang O k (see m r) q.root f e).2 := (see_upd _ m r).to h4 (fun s hs => by simpa using hs) (by omega)
      have hrefs : t'.refs = rf (lo O e q.items) ++ f :: rf (hi O e q.items) := by simp [Tr.refs, h1.its]
      have hlr : q.refs = rf (lo O e q.items) ++ rf (hi O e q.items) := by rw [Tr.refs]; conv => lhs; rw [← lo_hi O e q.items]; simp
      have hnd : (l.refs ++ r :: t'.refs).Nodup := by
        rw [hrefs]
        rw [hlr] at hn
        have : ((l.refs ++ r :: rf (lo O e q.items)) ++ f :: rf (hi O e q.items)).Nodup := List.perm_middle.nodup_iff.2 (by simpa using hn)
        simpa using this
      have hni : ∀ s, s ∈ l.refs ++ [r] → s ∉ f :: q.refs := fun s hs hs2 => by
        rcases List.mem_cons.1 hs2 with rfl | hs2
        · refine hn0.1 ?_
          rcases List.mem_append.1 hs with h | h
          · simp [h]
          · simp at h; simp [h]
        · have : ((l.refs ++ [r]) ++ q.refs).Nodup := by simpa using hn0.2
          exact (List.nodup_append.1 this).2.2 s hs s hs2 rfl
      rw [h1.root]
      obtain ⟨u, u1, u2, u3, u4, u5⟩ := level_tr Z (m := (hang O k (see m r) q.root f e).2) (hang_ok.2 (see_ok.2 ho)) (r := r) (l := l) (q := t')
        (v := ⟨x, l.root, t'.root, ⟨(Tr.node r l x q).items.length, S (Tr.node r l x q).elems⟩, ((Tr.node r l x q).h : Nat)⟩) (Rp.frame hu (fun s hs => hni s (by simp [hs])) hr3) h1.rp (by rw [hu.has]; exact hr1) hnd rfl rfl
        (by rw [show t'.elems = t'.items.map Prod.snd from rfl, h1.its]; simpa [gd, Tr.elems] using hg) b1 h1.bal (by omega) (by omega)
      refine ⟨u, ⟨u1.root, u1.rp, by rw [u1.its, h1.its]; simp, u1.bal⟩, ?_, by omega, hu.to u5 (fun s hs => ?_) (by omega)⟩
      · rcases Nat.lt_or_ge (l.h + 1) t'.h with hx | hx
        · omega
        · have := u4 (by omega) hx; omega
      · rw [hrefs] at hs
        rw [hlr] at hs ⊢
        simp only [List.mem_cons, List.mem_append] at hs ⊢
        rcases hs with (h | h | h) | h | h | h | h | h <;> simp [h]
end
end Go.Proofs.Ytegekenkfomlbaa.Gv
