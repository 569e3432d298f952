/- grove: the trees that are in a pool, and what the functions make of them. -/
import Derived.Test.YtegekenkfomlbaaGvOk
namespace Go.Proofs.Ytegekenkfomlbaa.Gv
open Go.Proofs.Ytegekenkfomlbaa.Rx
set_option linter.unusedVariables false
set_option linter.unusedSimpArgs false
set_option linter.unusedSectionVars false
/-- a tree, with its nodes' handles -/
inductive Tr (E : Type)
  | nil
  | node (r : Ref) (l : Tr E) (e : E) (q : Tr E)
namespace Tr
variable {E : Type}
def root : Tr E → Ref
  | nil => r0
  | node r _ _ _ => r
def items : Tr E → List (Ref × E)
  | nil => []
  | node r l e q => l.items ++ (r, e) :: q.items
def h : Tr E → Nat
  | nil => 0
  | node _ l _ q => 1 + max l.h q.h
def elems (t : Tr E) : List E := t.items.map Prod.snd
def refs (t : Tr E) : List Ref := t.items.map Prod.fst
def bal : Tr E → Prop
  | nil => True
  | node _ l _ q => l.bal ∧ q.bal ∧ l.h ≤ q.h + 1 ∧ q.h ≤ l.h + 1
theorem h_le : ∀ t : Tr E, t.h ≤ t.items.length
  | nil => Nat.le_refl _
  | node r l e q => by
    have h1 := h_le l
    have h2 := h_le q
    simp only [h, items, List.length_append, List.length_cons]
    omega
theorem elems_node (r : Ref) (l : Tr E) (e : E) (q : Tr E) : (node r l e q).elems = l.elems ++ e :: q.elems := by simp [elems, items]
theorem refs_node (r : Ref) (l : Tr E) (e : E) (q : Tr E) : (node r l e q).refs = l.refs ++ r :: q.refs := by simp [refs, items]
theorem elems_length (t : Tr E) : t.elems.length = t.items.length := by simp [elems]
theorem refs_length (t : Tr E) : t.refs.length = t.items.length := by simp [refs]
end Tr
/-- what lists of elements come to; those of which it is promised -/
structure Laws {E A : Type} (O : Ops E A) (S : List E → A) (good : List E → Prop) : Prop where
  nil : S [] = O.a0
  one : ∀ e, S [e] = O.sum e
  plus : ∀ x y, good (x ++ y) → x ≠ [] → y ≠ [] → O.plus (S x) (S y) = S (x ++ y)
  left : ∀ x y, good (x ++ y) → good x
  right : ∀ x y, good (x ++ y) → good y
  len : ∀ x, good x → x.length ≤ 1000000
  swap : ∀ a b, O.cmp a b < 0 ↔ 0 < O.cmp b a
  trans : ∀ a b c, O.cmp a b < 0 → O.cmp b c < 0 → O.cmp a c < 0
  eqv : ∀ a b c, O.cmp a b = 0 → O.cmp b c < 0 → O.cmp a c < 0
  eqv' : ∀ a b c, O.cmp a b = 0 → O.cmp c b < 0 → O.cmp c a < 0
section
variable {E A : Type} (O : Ops E A) (S : List E → A)
def nd (t : Tr E) : Node E A :=
  match t with
  | .nil => zn O
  | .node r l e q => ⟨e, l.root, q.root, ⟨(Tr.node r l e q).items.length, S (Tr.node r l e q).elems⟩, (Tr.node r l e q).h⟩
/-- the tree is in the pool -/
def Rp (m : Po E A) : Tr E → Prop
  | .nil => True
  | .node r l e q => has m r = true ∧ lk O m r = nd O S (.node r l e q) ∧ Rp m l ∧ Rp m q
variable {O S} {good : List E → Prop} (Z : Laws O S good)
theorem nd_node (r : Ref) (l : Tr E) (e : E) (q : Tr E) : nd O S (.node r l e q) = ⟨e, l.root, q.root, ⟨(Tr.node r l e q).items.length, S (Tr.node r l e q).elems⟩, (Tr.node r l e q).h⟩ := rfl
theorem see2_upd (m : Po E A) (a b : Ref) : Upd [] 2 (zn O) m (see (see m a) b) := (see_upd _ m a).to (see_upd _ _ b) (fun r hr => by simp at hr) (Nat.le_refl _)
theorem see4_upd (m : Po E A) (a b c d : Ref) : Upd [] 4 (zn O) m (see (see (see (see m a) b) c) d) := (see2_upd m a b).to (see2_upd _ c d) (fun r hr => by simp at hr) (Nat.le_refl _)
theorem nd_h (t : Tr E) : (nd O S t).h = (t.h : Int) := by cases t <;> rfl
theorem nd_all (hZ : S [] = O.a0) (t : Tr E) : (nd O S t).all = ⟨t.items.length, S t.elems⟩ := by
  cases t with
  | nil => simp [nd, zn, Tr.items, Tr.elems, hZ]
  | node r l e q => rfl
theorem Rp.root {n : Nat} {m : Po E A} (ho : POk n m) {t : Tr E} (h : Rp O S m t) : lk O m t.root = nd O S t := by
  cases t with
  | nil =>
    show look (zn O) m r0 = _
    unfold look
    rw [ho.z0]
    rfl
  | node r l e q => exact h.2.1
theorem Rp.frame {R : List Ref} {k : Nat} {m m' : Po E A} (hu : Upd R k (zn O) m m') : ∀ {t : Tr E}, (∀ s, s ∈ t.refs → s ∉ R) → Rp O S m t → Rp O S m' t
  | .nil, _, _ => trivial
  | .node r l e q, hd, h => by
    obtain ⟨h1, h2, h3, h4⟩ := h
    rw [Tr.refs_node] at hd
    refine ⟨by rw [hu.has]; exact h1, ?_, Rp.frame hu (fun s hs => hd s (by simp [hs])) h3, Rp.frame hu (fun s hs => hd s (by simp [hs])) h4⟩
    rw [← h2]
    exact hu.look r (hd r (by simp))
theorem Rp.see {m : Po E A} {t : Tr E} (s : Ref) (h : Rp O S m t) : Rp O S (see m s) t := Rp.frame (see_upd _ m s) (fun _ _ hs => by cases hs) h
theorem Rp.has {m : Po E A} : ∀ {t : Tr E}, Rp O S m t → ∀ s, s ∈ t.refs → has m s = true
  | .nil, _, s, hs => by cases hs
  | .node r l e q, h, s, hs => by
    obtain ⟨h1, h2, h3, h4⟩ := h
    rw [Tr.refs_node, List.mem_append, List.mem_cons] at hs
    rcases hs with hs | rfl | hs
    · exact Rp.has h3 s hs
    · exact h1
    · exact Rp.has h4 s hs
theorem root_ne {n : Nat} {m : Po E A} (ho : POk n m) {t : Tr E} (h : Rp O S m t) (hn : t ≠ .nil) : t.root ≠ r0 := by
  cases t with
  | nil => exact absurd rfl hn
  | node r l e q =>
    intro e0
    have := h.1
    simp only [Tr.root] at e0
    rw [e0, ho.z0] at this
    cases this
include Z
theorem part_plus {x y : List E} (hg : good (x ++ y)) : plusP O ⟨x.length, S x⟩ ⟨y.length, S y⟩ = ⟨(x ++ y).length, S (x ++ y)⟩ := by
  unfold plusP
  cases x with
  | nil => simp
  | cons a x =>
    cases y with
    | nil =>
      simp only [List.append_nil, List.length_nil]
      rw [if_neg (by simp; omega), if_pos (by rfl)]
    | cons b y =>
      have hl := Z.len _ hg
      simp only [List.length_append, List.length_cons] at hl
      rw [if_neg (by simp; omega), if_neg (by simp; omega), Z.plus _ _ hg (by simp) (by simp), W_of (by simp only [List.length_cons]; omega)]
      simp only [List.length_append, List.length_cons]
      congr 1
theorem one_part (e : E) : one O e = ⟨([e] : List E).length, S [e]⟩ := by rw [one, Z.one]; rfl
theorem node_part {x y : List E} {e : E} (hg : good (x ++ e :: y)) : plusP O (plusP O ⟨x.length, S x⟩ (one O e)) ⟨y.length, S y⟩ = ⟨(x ++ e :: y).length, S (x ++ e :: y)⟩ := by
  have e1 : x ++ e :: y = (x ++ [e]) ++ y := by simp
  rw [e1] at hg ⊢
  rw [one_part Z, part_plus Z (Z.left _ _ hg), part_plus Z hg]
theorem setN_tr {n : Nat} {m : Po E A} (ho : POk n m) {r : Ref} {l q : Tr E} {v : Node E A} (hl : Rp O S m l) (hq : Rp O S m q) (hr : has m r = true) (hnl : r ∉ l.refs) (hnq : r ∉ q.refs)
    (e1 : v.l = l.root) (e2 : v.r = q.root) (hg : good (l.elems ++ v.e :: q.elems)) :
    Rp O S (setN O m r v (nd O S l) (nd O S q)) (.node r l v.e q) ∧ Upd [r] 1 (zn O) m (setN O m r v (nd O S l) (nd O S q)) := by
  have hu := put1_upd (zn O) m r ⟨v.e, v.l, v.r, plusP O (plusP O (nd O S l).all (one O v.e)) (nd O S q).all, W (1 + mx (nd O S l).h (nd O S q).h)⟩
  refine ⟨⟨by rw [setN, hu.has]; exact hr, ?_, Rp.frame hu (fun s hs => by simp; rintro rfl; exact hnl hs) hl, Rp.frame hu (fun s hs => by simp; rintro rfl; exact hnq hs) hq⟩, hu⟩
  show look (zn O) _ r = _
  rw [setN, look_put1 (zn O) _ hr]
  have hlen := Z.len _ hg
  have h1 := l.h_le
  have h2 := q.h_le
  simp only [List.length_append, List.length_cons, Tr.elems_length] at hlen
  rw [nd_all Z.nil, nd_all Z.nil, nd_h, nd_h, ← Tr.elems_length, ← Tr.elems_length, node_part Z hg]
  simp only [nd, e1, e2, Tr.elems_node, Tr.items, Tr.h]
  have e3 : W (1 + mx (l.h : Int) (q.h : Int)) = ((1 + max l.h q.h : Nat) : Int) := by
    unfold mx
    rw [W_of (by split <;> omega)]
    split <;> omega
  rw [e3]
  simp [Tr.elems]
theorem tie_tr {n : Nat} {m : Po E A} (ho : POk n m) {r : Ref} {l q : Tr E} {v : Node E A} (hl : Rp O S m l) (hq : Rp O S m q) (hr : has m r = true) (hnl : r ∉ l.refs) (hnq : r ∉ q.refs)
    (e1 : v.l = l.root) (e2 : v.r = q.root) (hg : good (l.elems ++ v.e :: q.elems)) :
    Rp O S (tie O m r v) (.node r l v.e q) ∧ Upd [r] 3 (zn O) m (tie O m r v) := by
  unfold tie
  have k1 : lk O m v.l = nd O S l := by rw [e1]; exact hl.root ho
  have k2 : lk O (see m v.l) v.r = nd O S q := by rw [lk_see, e2]; exact hq.root ho
  rw [k1, k2]
  obtain ⟨p1, p2⟩ := setN_tr Z (m := see (see m v.l) v.r) (see_ok.2 (see_ok.2 ho)) ((hl.see _).see _) ((hq.see _).see _) (by simpa using hr) hnl hnq e1 e2 hg
  exact ⟨p1, (see2_upd m v.l v.r).to p2 (fun r hr => by simpa using hr) (by omega)⟩
omit Z in
/-- what is there behind m: a tree of these nodes -/
structure Is (O : Ops E A) (S : List E → A) (m : Po E A) (root : Ref) (its : List (Ref × E)) (t : Tr E) : Prop where
  root : root = t.root
  rp : Rp O S m t
  its : t.items = its
  bal : t.bal
theorem turnL_tr {n : Nat} {m : Po E A} (ho : POk n m) {r u : Ref} {a b c : Tr E} {y : E} {v : Node E A} (ha : Rp O S m a) (hb : Rp O S m (.node u b y c)) (hr : has m r = true)
    (nod : (a.refs ++ r :: (b.refs ++ u :: c.refs)).Nodup) (e1 : v.l = a.root) (e2 : v.r = u) (hg : good (a.elems ++ v.e :: (b.elems ++ y :: c.elems))) :
    Rp O S (turnL O m r v) (.node u (.node r a v.e b) y c) ∧ Upd [r, u] 7 (zn O) m (turnL O m r v) := by
  obtain ⟨b1, b2, b3, b4⟩ := hb
  have k1 : lk O m v.r = nd O S (.node u b y c) := by rw [e2]; exact b2
  unfold turnL
  rw [k1, e2]
  simp only [nd]
  simp only [List.nodup_append, List.nodup_cons, List.mem_append, List.mem_cons, not_or] at nod
  have hg1 : good (a.elems ++ v.e :: b.elems) := Z.left _ (y :: c.elems) (by simpa using hg)
  obtain ⟨p1, p2⟩ := tie_tr Z (m := see m u) (r := r) (v := ⟨v.e, v.l, b.root, v.all, v.h⟩) (see_ok.2 ho) (ha.see _) (b3.see _) (by simpa using hr)
    (fun h => nod.2.2 r h r (Or.inl rfl) rfl) (fun h => nod.2.1.1.1 h) e1 rfl hg1
  have q1 := (see_upd (zn O) m u).to p2 (S := [r]) (k := 4) (fun r hr => by simpa using hr) (by omega)
  obtain ⟨s1, s2⟩ := tie_tr Z (m := tie O (see m u) r ⟨v.e, v.l, b.root, v.all, v.h⟩) (r := u) (l := .node r a v.e b) (q := c) (v := ⟨y, r, c.root, ⟨(Tr.node u b y c).items.length, S (Tr.node u b y c).elems⟩, (Tr.node u b y c).h⟩)
    (tie_ok.2 (see_ok.2 ho)) p1 (Rp.frame q1 (fun s hs => by simp; rintro rfl; exact nod.2.1.1.2.2 hs) b4) (by rw [q1.has]; exact b1)
    (by
      rw [Tr.refs_node]
      simp only [List.mem_append, List.mem_cons, not_or]
      exact ⟨fun h => nod.2.2 u h u (Or.inr (Or.inr (Or.inl rfl))) rfl, fun h => nod.2.1.1.2.1 h.symm, fun h => nod.2.1.2.2.2 u h u (Or.inl rfl) rfl⟩)
    (fun h => nod.2.1.2.2.1.1 h) rfl rfl (by rw [Tr.elems_node]; simpa using hg)
  exact ⟨s1, q1.to s2 (fun s hs => by simp at hs; rcases hs with rfl | rfl <;> simp) (by omega)⟩
theorem turnR_tr {n : Nat} {m : Po E A} (ho : POk n m) {r u : Ref} {a b c : Tr E} {y : E} {v : Node E A} (hb : Rp O S m (.node u a y b)) (hc : Rp O S m c) (hr : has m r = true)
    (nod : ((a.refs ++ u :: b.refs) ++ r :: c.refs).Nodup) (e1 : v.l = u) (e2 : v.r = c.root) (hg : good ((a.elems ++ y :: b.elems) ++ v.e :: c.elems)) :
    Rp O S (turnR O m r v) (.node u a y (.node r b v.e c)) ∧ Upd [r, u] 7 (zn O) m (turnR O m r v) := by
  obtain ⟨b1, b2, b3, b4⟩ := hb
  have k1 : lk O m v.l = nd O S (.node u a y b) := by rw [e1]; exact b2
  unfold turnR
  rw [k1, e1]
  simp only [nd]
  simp only [List.nodup_append, List.nodup_cons, List.mem_append, List.mem_cons, not_or] at nod
  have hg1 : good (b.elems ++ v.e :: c.elems) := Z.right (a.elems ++ [y]) _ (by simpa using hg)
  have nu : r ≠ u := fun h => nod.2.2 u (Or.inr (Or.inl rfl)) r (Or.inl rfl) h.symm
  obtain ⟨p1, p2⟩ := tie_tr Z (m := see m u) (r := r) (v := ⟨v.e, b.root, v.r, v.all, v.h⟩) (see_ok.2 ho) (b4.see _) (hc.see _) (by simpa using hr)
    (fun h => nod.2.2 r (Or.inr (Or.inr h)) r (Or.inl rfl) rfl) (fun h => nod.2.1.1 h) rfl e2 hg1
  have q1 := (see_upd (zn O) m u).to p2 (S := [r]) (k := 4) (fun r hr => by simpa using hr) (by omega)
  obtain ⟨s1, s2⟩ := tie_tr Z (m := tie O (see m u) r ⟨v.e, b.root, v.r, v.all, v.h⟩) (r := u) (l := a) (q := .node r b v.e c) (v := ⟨y, a.root, r, ⟨(Tr.node u a y b).items.length, S (Tr.node u a y b).elems⟩, (Tr.node u a y b).h⟩)
    (tie_ok.2 (see_ok.2 ho)) (Rp.frame q1 (fun s hs => by simp; rintro rfl; exact nod.2.2 s (Or.inl hs) s (Or.inl rfl) rfl) b3) p1 (by rw [q1.has]; exact b1)
    (fun h => nod.1.2.2 u h u (Or.inl rfl) rfl)
    (by
      rw [Tr.refs_node]
      simp only [List.mem_append, List.mem_cons, not_or]
      exact ⟨fun h => nod.1.2.1.1 h, fun h => nu h.symm, fun h => nod.2.2 u (Or.inr (Or.inl rfl)) u (Or.inr h) rfl⟩)
    rfl rfl (by simpa [Tr.elems_node] using hg)
  exact ⟨s1, q1.to s2 (fun s hs => by simp at hs; rcases hs with rfl | rfl <;> simp) (by omega)⟩
omit Z in
theorem Rp.see4 {m : Po E A} {t : Tr E} (a b c d : Ref) (h : Rp O S m t) : Rp O S (Gv.see (Gv.see (Gv.see (Gv.see m a) b) c) d) t := (((h.see _).see _).see _).see _
/-- two trees and a node, whose heights differ by 2 at most -/
theorem level_tr {n : Nat} {m : Po E A} (ho : POk n m) {r : Ref} {l q : Tr E} {v : Node E A} (hl : Rp O S m l) (hq : Rp O S m q) (hr : has m r = true)
    (nod : (l.refs ++ r :: q.refs).Nodup) (e1 : v.l = l.root) (e2 : v.r = q.root) (hg : good (l.elems ++ v.e :: q.elems)) (bl : l.bal) (bq : q.bal) (d1 : l.h ≤ q.h + 2) (d2 : q.h ≤ l.h + 2) :
    ∃ t, Is O S (level O m r v).2 (level O m r v).1 (l.items ++ (r, v.e) :: q.items) t ∧ max l.h q.h ≤ t.h ∧ t.h ≤ max l.h q.h + 1 ∧ (l.h ≤ q.h + 1 → q.h ≤ l.h + 1 → t.h = max l.h q.h + 1) ∧
      Upd (l.refs ++ r :: q.refs) 20 (zn O) m (level O m r v).2 := by
  have k1 : lk O m v.l = nd O S l := by rw [e1]; exact hl.root ho
  have k2 : lk O m v.r = nd O S q := by rw [e2]; exact hq.root ho
  have hlen := Z.len _ hg
  have h1 := l.h_le
  have h2 := q.h_le
  simp only [List.length_append, List.length_cons, Tr.elems_length] at hlen
  have w1 : W ((q.h : Int) + 1) = (q.h : Int) + 1 := W_of (by omega)
  have w2 : W ((l.h : Int) + 1) = (l.h : Int) + 1 := W_of (by omega)
  unfold level
  simp only [lk_see, k1, k2, nd_h, w1, w2]
  have nodc := nod
  simp only [List.nodup_append, List.nodup_cons, List.mem_append, List.mem_cons, not_or] at nodc
  split
  · rename_i hgt
    cases l with
    | nil => simp only [Tr.h] at hgt; omega
    | node a ll x lr =>
      obtain ⟨hl1, hl2, hl3, hl4⟩ := hl
      obtain ⟨bl1, bl2, bl3, bl4⟩ := bl
      have k3 : lk O m lr.root = nd O S lr := hl4.root ho
      have k4 : lk O m ll.root = nd O S ll := hl3.root ho
      simp only [nd_node, k3, k4, nd_h, Tr.h] at hgt d1 ⊢
      rw [Tr.refs_node] at nod
      rw [Tr.elems_node] at hg
      have hsee := see4_upd (O := O) m v.l v.r lr.root ll.root
      have hos : POk n (see (see (see (see m v.l) v.r) lr.root) ll.root) := see_ok.2 (see_ok.2 (see_ok.2 (see_ok.2 ho)))
      split
      · rename_i hin
        cases lr with
        | nil => simp only [Tr.h] at hin; omega
        | node b p y c =>
          obtain ⟨hr1, hr2, hr3, hr4⟩ := hl4
          obtain ⟨br1, br2, br3, br4⟩ := bl2
          simp only [Tr.h] at hin hgt d1 bl3 bl4 ⊢
          rw [Tr.refs_node] at nod
          rw [Tr.elems_node] at hg
          have nod1 : (ll.refs ++ a :: (p.refs ++ b :: c.refs)).Nodup := (List.nodup_append.1 nod).1
          obtain ⟨p1, p2⟩ := turnL_tr Z hos (r := a) (u := b) (a := ll) (b := p) (c := c) (y := y) (v := ⟨x, ll.root, b, ⟨(Tr.node a ll x (.node b p y c)).items.length, S (Tr.node a ll x (.node b p y c)).elems⟩, ((Tr.node a ll x (.node b p y c)).h : Nat)⟩)
            (Rp.see4 _ _ _ _ hl3) (Rp.see4 _ _ _ _ ⟨hr1, hr2, hr3, hr4⟩) (by simpa using hl1) nod1 rfl rfl (Z.left _ _ hg)
          have q1 := hsee.to p2 (S := [a, b]) (k := 11) (fun s hs => by simpa using hs) (by omega)
          have nod2 : (((ll.refs ++ a :: p.refs) ++ b :: c.refs) ++ r :: q.refs).Nodup := by simpa using nod
          have dq : ∀ s, s ∈ q.refs → s ∉ [a, b] := fun s hs hab => by
            have := (List.nodup_append.1 nod).2.2 s (by simp at hab; rcases hab with rfl | rfl <;> simp) s (by simp [hs])
            exact this rfl
          obtain ⟨s1, s2⟩ := turnR_tr Z (turnL_ok.2 hos) (r := r) (u := b) (a := .node a ll x p) (b := c) (c := q) (y := y) (v := ⟨v.e, b, v.r, v.all, v.h⟩) p1 (Rp.frame q1 dq hq) (by rw [q1.has]; exact hr)
            (by rw [Tr.refs_node]; exact nod2) rfl e2 (by rw [Tr.elems_node]; simpa using hg)
          rw [e1] at *
          refine ⟨.node b (.node a ll x p) y (.node r c v.e q), ⟨rfl, s1, by simp [Tr.items], ?_⟩, ?_, ?_, ?_, (q1.to s2 (fun s hs => by simp at hs; rw [Tr.refs_node, Tr.refs_node]; rcases hs with (rfl | rfl) | rfl | rfl <;> simp) (by omega))⟩
          · simp only [Tr.bal, Tr.h]
            refine ⟨⟨bl1, br1, by omega, by omega⟩, ⟨br2, bq, by omega, by omega⟩, by omega, by omega⟩
          · simp only [Tr.h]; omega
          · simp only [Tr.h]; omega
          · intro _ _; omega
      · rename_i hin
        obtain ⟨s1, s2⟩ := turnR_tr Z hos (r := r) (u := a) (a := ll) (b := lr) (c := q) (y := x) (v := v) (Rp.see4 _ _ _ _ ⟨hl1, hl2, hl3, hl4⟩) (Rp.see4 _ _ _ _ hq) (by simpa using hr)
          nod e1 e2 hg
        rw [e1] at *
        refine ⟨.node a ll x (.node r lr v.e q), ⟨rfl, s1, by simp [Tr.items], ?_⟩, ?_, ?_, ?_, (hsee.to s2 (fun s hs => by simp at hs; rw [Tr.refs_node]; rcases hs with rfl | rfl <;> simp) (by omega))⟩
        · simp only [Tr.bal, Tr.h]
          refine ⟨bl1, ⟨bl2, bq, by omega, by omega⟩, by omega, by omega⟩
        · simp only [Tr.h]; omega
        · simp only [Tr.h]; omega
        · intro _ _; omega
  · split
    · rename_i hngt hgt
      cases q with
      | nil => simp only [Tr.h] at hgt; omega
      | node a ql x qr =>
        obtain ⟨hq1, hq2, hq3, hq4⟩ := hq
        obtain ⟨bq1, bq2, bq3, bq4⟩ := bq
        have k3 : lk O m ql.root = nd O S ql := hq3.root ho
        have k4 : lk O m qr.root = nd O S qr := hq4.root ho
        simp only [nd_node, k3, k4, nd_h, Tr.h] at hgt d2 ⊢
        rw [Tr.refs_node] at nod
        rw [Tr.elems_node] at hg
        have hsee := see4_upd (O := O) m v.l v.r ql.root qr.root
        have hos : POk n (see (see (see (see m v.l) v.r) ql.root) qr.root) := see_ok.2 (see_ok.2 (see_ok.2 (see_ok.2 ho)))
        split
        · rename_i hin
          cases ql with
          | nil => simp only [Tr.h] at hin; omega
          | node b p y c =>
            obtain ⟨hr1, hr2, hr3, hr4⟩ := hq3
            obtain ⟨br1, br2, br3, br4⟩ := bq1
            simp only [Tr.h] at hin hgt d2 bq3 bq4 ⊢
            rw [Tr.refs_node] at nod
            rw [Tr.elems_node] at hg
            have nod1 : ((p.refs ++ b :: c.refs) ++ a :: qr.refs).Nodup := (List.nodup_cons.1 (List.nodup_append.1 nod).2.1).2
            have hg1 : good ((p.elems ++ y :: c.elems) ++ x :: qr.elems) := Z.right (l.elems ++ [v.e]) _ (by simpa using hg)
            obtain ⟨p1, p2⟩ := turnR_tr Z hos (r := a) (u := b) (a := p) (b := c) (c := qr) (y := y) (v := ⟨x, b, qr.root, ⟨(Tr.node a (.node b p y c) x qr).items.length, S (Tr.node a (.node b p y c) x qr).elems⟩, ((Tr.node a (.node b p y c) x qr).h : Nat)⟩)
              (Rp.see4 _ _ _ _ ⟨hr1, hr2, hr3, hr4⟩) (Rp.see4 _ _ _ _ hq4) (by simpa using hq1) nod1 rfl rfl hg1
            have q1 := hsee.to p2 (S := [a, b]) (k := 11) (fun s hs => by simpa using hs) (by omega)
            have dl : ∀ s, s ∈ l.refs → s ∉ [a, b] := fun s hs hab => by
              have := (List.nodup_append.1 nod).2.2 s hs s (by simp at hab; rcases hab with rfl | rfl <;> simp)
              exact this rfl
            obtain ⟨s1, s2⟩ := turnL_tr Z (turnR_ok.2 hos) (r := r) (u := b) (a := l) (b := p) (c := .node a c x qr) (y := y) (v := ⟨v.e, v.l, b, v.all, v.h⟩) (Rp.frame q1 dl hl) p1 (by rw [q1.has]; exact hr)
              (by rw [Tr.refs_node]; simpa using nod) e1 rfl (by rw [Tr.elems_node]; simpa using hg)
            rw [e2] at *
            refine ⟨.node b (.node r l v.e p) y (.node a c x qr), ⟨rfl, s1, by simp [Tr.items], ?_⟩, ?_, ?_, ?_, (q1.to s2 (fun s hs => by simp at hs; rw [Tr.refs_node, Tr.refs_node]; rcases hs with (rfl | rfl) | rfl | rfl <;> simp) (by omega))⟩
            · simp only [Tr.bal, Tr.h]
              refine ⟨⟨bl, br1, by omega, by omega⟩, ⟨br2, bq2, by omega, by omega⟩, by omega, by omega⟩
            · simp only [Tr.h]; omega
            · simp only [Tr.h]; omega
            · intro _ _; omega
        · rename_i hin
          obtain ⟨s1, s2⟩ := turnL_tr Z hos (r := r) (u := a) (a := l) (b := ql) (c := qr) (y := x) (v := v) (Rp.see4 _ _ _ _ hl) (Rp.see4 _ _ _ _ ⟨hq1, hq2, hq3, hq4⟩) (by simpa using hr)
            nod e1 e2 hg
          rw [e2] at *
          refine ⟨.node a (.node r l v.e ql) x qr, ⟨rfl, s1, by simp [Tr.items], ?_⟩, ?_, ?_, ?_, (hsee.to s2 (fun s hs => by simp at hs; rw [Tr.refs_node]; rcases hs with rfl | rfl <;> simp) (by omega))⟩
          · simp only [Tr.bal, Tr.h]
            refine ⟨⟨bl, bq1, by omega, by omega⟩, bq2, by omega, by omega⟩
          · simp only [Tr.h]; omega
          · simp only [Tr.h]; omega
          · intro _ _; omega
    · rename_i hn1 hn2
      obtain ⟨s1, s2⟩ := setN_tr Z (m := see (see m v.l) v.r) (see_ok.2 (see_ok.2 ho)) ((hl.see _).see _) ((hq.see _).see _) (by simpa using hr) (fun h => nodc.2.2 r h r (Or.inl rfl) rfl) (fun h => nodc.2.1.1 h) e1 e2 hg
      refine ⟨.node r l v.e q, ⟨rfl, s1, rfl, ⟨bl, bq, by omega, by omega⟩⟩, ?_, ?_, ?_, (see2_upd m v.l v.r).to s2 (fun s hs => by simp at hs; subst hs; simp) (by omega)⟩
      · simp only [Tr.h]; omega
      · simp only [Tr.h]; omega
      · intro _ _; simp only [Tr.h]; omega
end
end Go.Proofs.Ytegekenkfomlbaa.Gv
