/- grove: a tree in its pool as a list: elements and sums of any kind. -/
import Derived.Test.YtegekenkfomlbaaGvSt3
namespace Go.Proofs.Ytegekenkfomlbaa.Gv
open Go.Proofs.Ytegekenkfomlbaa.Rx
set_option linter.unusedVariables false
set_option linter.unusedSimpArgs false
set_option linter.unusedSectionVars false
/-- a kind of elements, and what lists of them come to -/
structure Kd (E A : Type) where
  O : Ops E A
  S : List E → A
  good : List E → Prop
  dec : ∀ l, Decidable (good l)
  Z : Laws O S good
  short : ∀ x, good x → x.length ≤ 1000
  gnil : good []
  gcut : ∀ x y, good (x ++ y) → good (x ++ y.tail)
instance {E A : Type} (k : Kd E A) (l : List E) : Decidable (k.good l) := k.dec l
theorem h_elems {E : Type} (a : Tr E) : a.h ≤ a.elems.length := by rw [Tr.elems_length]; exact a.h_le
theorem nil_elems {E : Type} {t : Tr E} (h : t.elems = []) : t = .nil := by
  cases t with
  | nil => rfl
  | node r l e q => rw [Tr.elems_node] at h; simp at h
section
variable {E A : Type}
/-- two trees, with these roots and elements; so much room -/
def P2 (k : Kd E A) (n : Nat) (m : Po E A) (ra rb : Ref) (la lb : List E) (c : Int) : Prop := ∃ a b : Tr E, a.root = ra ∧ b.root = rb ∧ St k.O k.S k.good n m a b ∧ a.elems = la ∧ b.elems = lb ∧ m.cap = c
/-- one tree -/
abbrev P1 (k : Kd E A) (n : Nat) (m : Po E A) (r : Ref) (l : List E) (c : Int) : Prop := P2 k n m r r0 l [] c
/-- the same trees; few nodes looked at -/
structure Sm (k : Kd E A) (n v : Nat) (m m' : Po E A) (ra rb : Ref) (la lb : List E) (c : Int) : Prop where
  p : P2 k n m' ra rb la lb c
  vis : Vis v m m'
variable {k : Kd E A} {n : Nat} {m : Po E A} {ra rb : Ref} {la lb : List E} {c : Int}
theorem sm_of {v : Nat} {a b : Tr E} {m' : Po E A} (h : Same k.O k.S k.good n v m m' a b) (h6 : m.cap = c) : Sm k n v m m' a.root b.root a.elems b.elems c :=
  ⟨⟨a, b, rfl, rfl, h.st, rfl, rfl, h.cap.trans h6⟩, h.vis⟩
namespace P2
theorem swap (h : P2 k n m ra rb la lb c) : P2 k n m rb ra lb la c := by
  obtain ⟨a, b, h1, h2, h3, h4, h5, h6⟩ := h
  exact ⟨b, a, h2, h1, h3.swap, h5, h4, h6⟩
theorem mono {q : Nat} (h : P2 k n m ra rb la lb c) (hk : n ≤ q) : P2 k q m ra rb la lb c := by
  obtain ⟨a, b, h1, h2, h3, h4, h5, h6⟩ := h
  exact ⟨a, b, h1, h2, h3.mono hk, h4, h5, h6⟩
theorem empty (k : Kd E A) (c : Int) : P1 k 0 ⟨[], [], [], [], 0, c, 0⟩ r0 [] c :=
  ⟨.nil, .nil, rfl, rfl, St.empty k.gnil c 0, rfl, rfl, rfl⟩
theorem upd {m' : Po E A} (h : P2 k n m ra rb la lb c) (hu : ∃ v, Upd [] v (zn k.O) m m') : P2 k n m' ra rb la lb c := by
  obtain ⟨a, b, h1, h2, h3, h4, h5, h6⟩ := h
  obtain ⟨v, hu⟩ := hu
  exact ⟨a, b, h1, h2, h3.look hu, h4, h5, hu.cap.trans h6⟩
theorem ok (h : P2 k n m ra rb la lb c) (hn : n ≤ 100000) : POk 100000 m := by
  obtain ⟨a, b, h1, h2, h3, h4, h5, h6⟩ := h
  exact h3.ok.mono hn
theorem good (h : P2 k n m ra rb la lb c) : k.good la := by
  obtain ⟨a, b, h1, h2, h3, h4, h5, h6⟩ := h
  rw [← h4]; exact h3.ga
theorem srt (h : P2 k n m ra rb la lb c) : SrtE k.O la := by
  obtain ⟨a, b, h1, h2, h3, h4, h5, h6⟩ := h
  rw [← h4]; exact Srt_map.2 h3.sa
theorem len (h : P2 k n m ra rb la lb c) : la.length ≤ 1000 := k.short _ h.good
theorem held (h : P2 k n m ra rb la lb c) : m.held = la.length + lb.length := by
  obtain ⟨a, b, h1, h2, h3, h4, h5, h6⟩ := h
  rw [h3.held, ← h4, ← h5, Tr.elems_length, Tr.elems_length]
theorem cap (h : P2 k n m ra rb la lb c) : m.cap = c := by
  obtain ⟨a, b, h1, h2, h3, h4, h5, h6⟩ := h
  exact h6
theorem seen (h : P2 k n m ra rb la lb c) (r : Ref) : Sm k n 1 m (see m r) ra rb la lb c := by
  obtain ⟨a, b, rfl, rfl, h3, rfl, rfl, h6⟩ := h
  exact sm_of (h3.seen r) h6
theorem nn (h : P2 k n m ra rb la lb c) : (lk k.O m ra).all.n = (la.length : Int) := by
  obtain ⟨a, b, rfl, rfl, h3, rfl, rfl, h6⟩ := h
  exact h3.nn k.Z
theorem height (h : P2 k n m ra rb la lb c) : ∃ H : Nat, (lk k.O m ra).h = (H : Int) ∧ H ≤ hgt la.length := by
  obtain ⟨a, b, rfl, rfl, h3, rfl, rfl, h6⟩ := h
  refine ⟨a.h, h3.hh, ?_⟩
  rw [Tr.elems_length]
  exact a.h_hgt h3.ba
theorem put {K : Nat} {e : E} (h : P2 k n m ra rb la lb c) (hn : n + 1 ≤ 100000) (hg : k.good (putE k.O e la)) (hk : la.length < K) :
    PutD k.O K m ra e ∧ ∃ r' m', putF k.O K m ra e = (((hitE k.O e la).isSome || decide (((la.length + lb.length : Nat) : Int) ≠ c)), r', m') ∧
      P2 k (n + 1) m' r' rb (if ((hitE k.O e la).isSome || decide (((la.length + lb.length : Nat) : Int) ≠ c)) = true then putE k.O e la else la) lb c ∧ Vis (32 * hgt la.length + 4) m m' := by
  have hh := h.held
  obtain ⟨a, b, rfl, rfl, h3, rfl, rfl, h6⟩ := h
  obtain ⟨d, a', m', e1, e2, e3, e4, e5⟩ := put_st' k.Z (e := e) h3 hn hg (Nat.lt_of_le_of_lt (h_elems a) hk)
  have hb : ((hitE k.O e a.elems).isSome || decide (m.held ≠ m.cap)) = ((hitE k.O e a.elems).isSome || decide (((a.elems.length + b.elems.length : Nat) : Int) ≠ c)) := by
    rw [hh, h6]; push_cast; rfl
  rw [hb] at e1 e3
  exact ⟨d, a'.root, m', e1, ⟨a', b, rfl, rfl, e2, e3, rfl, e5.trans h6⟩, e4.mono (by have := a.h_hgt h3.ba; rw [Tr.elems_length]; omega)⟩
theorem drop {K : Nat} {e : E} (h : P2 k n m ra rb la lb c) (hk : 2 * la.length < K) :
    PickD k.O K K m ra e ∧ ∃ r' m', dropF k.O K m ra e = ((fndE k.O e la).1, (fndE k.O e la).2, r', m') ∧ P2 k (n + 1) m' r' rb (dropE k.O e la) lb c ∧ Vis (120 * hgt la.length + 5) m m' := by
  obtain ⟨a, b, rfl, rfl, h3, rfl, rfl, h6⟩ := h
  have hh := h_elems a
  obtain ⟨d, a', m', e1, e2, e3, e4, e5⟩ := drop_st' k.Z (K := K) (e := e) h3 (k.gcut _ _ (by rw [loE_hiE]; exact h3.ga)) (by omega)
  exact ⟨d, a'.root, m', e1, ⟨a', b, rfl, rfl, e2, e3, rfl, e5.trans h6⟩, e4.mono (by have := a.h_hgt h3.ba; rw [Tr.elems_length]; omega)⟩
theorem find {K : Nat} {e : E} (h : P2 k n m ra rb la lb c) (hk : la.length < K) :
    FindE k.O K (see m ra) (lk k.O m ra) e ∧ ∃ m', Gv.find k.O K (see m ra) (lk k.O m ra) e = (fndE k.O e la, m') ∧ Sm k n (hgt la.length + 1) m m' ra rb la lb c := by
  obtain ⟨a, b, rfl, rfl, h3, rfl, rfl, h6⟩ := h
  obtain ⟨d, m', e1, e2⟩ := find_st k.Z (K := K) (e := e) h3 (Nat.lt_of_le_of_lt (h_elems a) hk)
  exact ⟨d, m', e1, sm_of (e2.mono (by have := a.h_hgt h3.ba; rw [Tr.elems_length]; omega)) h6⟩
theorem rank {K : Nat} {e : E} (h : P2 k n m ra rb la lb c) (hk : la.length < K) :
    RankE k.O K (see m ra) (lk k.O m ra) e 0 ∧ ∃ m', Gv.rank k.O K (see m ra) (lk k.O m ra) e 0 = (((loE k.O e la).length : Int), m') ∧ Sm k n (2 * hgt la.length + 1) m m' ra rb la lb c := by
  obtain ⟨a, b, rfl, rfl, h3, rfl, rfl, h6⟩ := h
  obtain ⟨d, m', e1, e2⟩ := rank_st k.Z (K := K) (e := e) h3 (Nat.lt_of_le_of_lt (h_elems a) hk)
  exact ⟨d, m', e1, sm_of (e2.mono (by have := a.h_hgt h3.ba; rw [Tr.elems_length]; omega)) h6⟩
theorem at_ {K : Nat} {i : Int} (h : P2 k n m ra rb la lb c) (hk : la.length < K) :
    AtD k.O K m ra i ∧ ∃ m', atF k.O K m ra i = (nthE k.O i la, m') ∧ Sm k n (2 * hgt la.length + 1) m m' ra rb la lb c := by
  obtain ⟨a, b, rfl, rfl, h3, rfl, rfl, h6⟩ := h
  obtain ⟨d, m', e1, e2⟩ := at_st k.Z (K := K) (i := i) h3 (Nat.lt_of_le_of_lt (h_elems a) hk)
  exact ⟨d, m', e1, sm_of (e2.mono (by have := a.h_hgt h3.ba; rw [Tr.elems_length]; omega)) h6⟩
theorem bet {K : Nat} {f u : Int} (h : P2 k n m ra rb la lb c) (hk : la.length < K) :
    BetE k.O K (see m ra) (lk k.O m ra) f u ∧ ∃ m', between k.O K (see m ra) (lk k.O m ra) f u = (⟨(sub la f.toNat u.toNat).length, k.S (sub la f.toNat u.toNat)⟩, m') ∧ Sm k n (4 * hgt la.length + 1) m m' ra rb la lb c := by
  obtain ⟨a, b, rfl, rfl, h3, rfl, rfl, h6⟩ := h
  obtain ⟨d, m', e1, e2⟩ := bet_st k.Z (K := K) (f := f) (u := u) h3 (Nat.lt_of_le_of_lt (h_elems a) hk)
  exact ⟨d, m', e1, sm_of (e2.mono (by have := a.h_hgt h3.ba; rw [Tr.elems_length]; omega)) h6⟩
theorem all {K : Nat} (h : P2 k n m ra rb la lb c) (hk : la.length < K) :
    (Deep k.O K m ra ∧ (lk k.O m ra).all.n = (gather k.O K (see m ra) ra).1.length ∧ (gather k.O K (see m ra) ra).1.length < 900000) ∧ ∃ m', gather k.O K (see m ra) ra = (la, m') ∧ P2 k n m' ra rb la lb c := by
  have hl := h.len
  obtain ⟨a, b, rfl, rfl, h3, rfl, rfl, h6⟩ := h
  obtain ⟨d1, d2, m', kk, e1, e2⟩ := all_st k.Z (K := K) h3 (Nat.lt_of_le_of_lt (h_elems a) hk)
  refine ⟨⟨d1, ?_, ?_⟩, m', e1, (sm_of e2 h6).p⟩
  · rw [e1]; exact d2
  · rw [e1]; simp only; omega
theorem first {K : Nat} {f : Int} {may : A → A → Bool} {P : Nat → Bool} (h : P2 k n m ra rb la lb c) (hA : Asks k.O k.S may P la) (hk : la.length < K) :
    DeepN k.O K (see m ra) (lk k.O m ra) ∧ ∃ r m', Gv.first k.O may K (see m ra) (lk k.O m ra) ⟨0, k.O.a0⟩ f = (r, m') ∧ FirstIs P 0 la.length f r ∧ P2 k n m' ra rb la lb c := by
  obtain ⟨a, b, rfl, rfl, h3, rfl, rfl, h6⟩ := h
  obtain ⟨d, r, m', kk, e1, e2, e3⟩ := first_st k.Z (K := K) (f := f) h3 hA (Nat.lt_of_le_of_lt (h_elems a) hk)
  exact ⟨d, r, m', e1, e2, (sm_of e3 h6).p⟩
theorem last {K : Nat} {f : Int} {may : A → A → Bool} {P : Nat → Bool} (h : P2 k n m ra rb la lb c) (hA : Asks k.O k.S may P la) (hk : la.length < K) :
    DeepN k.O K (see m ra) (lk k.O m ra) ∧ ∃ r m', Gv.last k.O may K (see m ra) (lk k.O m ra) ⟨0, k.O.a0⟩ f = (r, m') ∧ LastIs P 0 la.length f r ∧ P2 k n m' ra rb la lb c := by
  obtain ⟨a, b, rfl, rfl, h3, rfl, rfl, h6⟩ := h
  obtain ⟨d, r, m', kk, e1, e2, e3⟩ := last_st k.Z (K := K) (f := f) h3 hA (Nat.lt_of_le_of_lt (h_elems a) hk)
  exact ⟨d, r, m', e1, e2, (sm_of e3 h6).p⟩
theorem deepN {K : Nat} (h : P2 k n m ra rb la lb c) (hk : la.length < K) : DeepN k.O K (see m ra) (lk k.O m ra) := by
  obtain ⟨a, b, rfl, rfl, h3, rfl, rfl, h6⟩ := h
  exact deepN_st k.Z h3 (Nat.lt_of_le_of_lt (h_elems a) hk)
theorem split {K : Nat} {e : E} {r : Ref} {l : List E} (h : P1 k n m r l c) (hk : 2 * l.length < K) :
    CutD k.O K K m r e ∧ ∃ x y m', cutF k.O K K m r e = (x, y, m') ∧ P2 k n m' x y (loE k.O e l) (hiE k.O e l) c := by
  obtain ⟨a, b, rfl, h2, h3, rfl, h5, h6⟩ := h
  obtain rfl := nil_elems h5
  obtain ⟨d, x, y, m', e1, e2, e3, e4, e5⟩ := split_st' k.Z (K := K) (e := e) h3 (by rw [← Tr.elems_length]; exact hk)
  exact ⟨d, x.root, y.root, m', e1, x, y, rfl, rfl, e2, e3, e4, e5.trans h6⟩
theorem join {K : Nat} (h : P2 k n m ra rb la lb c) (hn : n ≤ 100000) (hg : k.good (la ++ lb)) (hk : la.length + lb.length < K) :
    JoinD k.O K m ra rb ∧ (aheadE k.O la lb = true → ∃ r m', joinF k.O K m ra rb = (true, r, r0, m') ∧ P1 k n m' r (la ++ lb) c) ∧
      (aheadE k.O la lb = false → ∃ m', joinF k.O K m ra rb = (false, ra, rb, m') ∧ P2 k n m' ra rb la lb c) := by
  obtain ⟨a, b, rfl, rfl, h3, rfl, rfl, h6⟩ := h
  have h1 := h_elems a
  have h2 := h_elems b
  obtain ⟨d, e1, e2⟩ := join_st k.Z (K := K) h3 hn hg (by omega)
  refine ⟨d, fun hh => ?_, fun hh => ?_⟩
  · obtain ⟨t, m', f1, f2, f3, f4⟩ := e1 hh
    exact ⟨t.root, m', f1, t, .nil, rfl, rfl, f2, f3, rfl, f4.trans h6⟩
  · obtain ⟨m', f1, f2, f4⟩ := e2 hh
    exact ⟨m', f1, a, b, rfl, rfl, f2, rfl, rfl, f4.trans h6⟩
end P2
end
theorem upd_see' {E A : Type} (O : Ops E A) {k : Nat} {m m' : Po E A} {r : Ref} (h : Upd [] k (zn O) (see m r) m') : ∃ k, Upd [] k (zn O) m m' := ⟨_, (see_upd (zn O) m r).to h (S := []) (fun s hs => by simp at hs) (Nat.le_refl _)⟩
theorem upd_two' {E A : Type} (O : Ops E A) {a b c : Po E A} (h : ∃ k, Upd [] k (zn O) a b) (h' : ∃ k, Upd [] k (zn O) b c) : ∃ k, Upd [] k (zn O) a c := by
  obtain ⟨k, h⟩ := h
  obtain ⟨k', h'⟩ := h'
  exact ⟨_, h.to h' (S := []) (fun s hs => by simp at hs) (Nat.le_refl _)⟩
theorem first_upd' {E A : Type} (O : Ops E A) (may : A → A → Bool) : ∀ (k : Nat) (m : Po E A) (n : Node E A) (a : Part A) (f : Int), ∃ kk, Upd [] kk (zn O) m (first O may k m n a f).2
  | 0, m, _, _, _ => ⟨0, Upd.refl _ _ _ _⟩
  | k + 1, m, n, a, f => by
    obtain ⟨k1, h1⟩ := first_upd' O may k (see m n.l) (lk O m n.l) a f
    have h1 := upd_see' O h1
    rw [first]
    split
    · exact ⟨0, Upd.refl _ _ _ _⟩
    · split
      · exact ⟨0, Upd.refl _ _ _ _⟩
      · split
        · exact h1
        · split
          · exact h1
          · obtain ⟨k2, h2⟩ := first_upd' O may k (see (first O may k (see m n.l) (lk O m n.l) a f).2 n.r) (lk O (first O may k (see m n.l) (lk O m n.l) a f).2 n.r) (plusP O (plusP O a (lk O m n.l).all) (one O n.e)) f
            exact upd_two' O h1 (upd_see' O h2)
theorem last_upd' {E A : Type} (O : Ops E A) (may : A → A → Bool) : ∀ (k : Nat) (m : Po E A) (n : Node E A) (a : Part A) (f : Int), ∃ kk, Upd [] kk (zn O) m (last O may k m n a f).2
  | 0, m, _, _, _ => ⟨0, Upd.refl _ _ _ _⟩
  | k + 1, m, n, a, f => by
    obtain ⟨k1, h1⟩ := last_upd' O may k (see (see m n.l) n.r) (lk O (see m n.l) n.r) (plusP O (plusP O a (lk O m n.l).all) (one O n.e)) f
    have h1 := upd_two' O ⟨_, see_upd (zn O) m n.l⟩ (upd_see' O h1)
    rw [last]
    split
    · exact ⟨0, Upd.refl _ _ _ _⟩
    · split
      · exact ⟨0, Upd.refl _ _ _ _⟩
      · simp only
        split
        · exact h1
        · split
          · exact h1
          · exact upd_two' O h1 (last_upd' O may k _ _ _ _)
/-- so many rounds suffice -/
def KK : Nat := 5000
/-- a tree in its pool: its elements, how many calls it saw at the most, its room -/
structure TS {E A : Type} (k : Kd E A) where
  n : Nat
  m : Po E A
  r : Ref
  l : List E
  c : Int
  ok : P1 k n m r l c
namespace TS
section
variable {E A : Type} {k : Kd E A}
theorem len_le (s : TS k) : s.l.length ≤ 1000 := s.ok.len
theorem kk (s : TS k) : 2 * s.l.length < KK := by have := s.len_le; unfold KK; omega
theorem k1 (s : TS k) : s.l.length < KK := by have := s.kk; omega
def new (k : Kd E A) (c : Int) : TS k := ⟨0, ⟨[], [], [], [], 0, min (max c 0) 16777216, 0⟩, r0, [], min (max c 0) 16777216, P2.empty k _⟩
/-- the calls are few yet -/
def Few (s : TS k) : Prop := s.n < 100000
instance (s : TS k) : Decidable s.Few := inferInstanceAs (Decidable (_ < _))
theorem pp (s : TS k) (h : s.Few) : POk 100000 s.m := s.ok.ok (Nat.le_of_lt h)
def seen (s : TS k) : TS k := ⟨s.n, see s.m s.r, s.r, s.l, s.c, (s.ok.seen s.r).p⟩
def h (s : TS k) : Int := (lk k.O s.m s.r).h
theorem h_le (s : TS k) : 0 ≤ s.h ∧ s.h ≤ hgt s.l.length := by
  obtain ⟨H, e, hh⟩ := s.ok.height
  unfold h
  rw [e]
  omega
structure PutOk (s : TS k) (e : E) : Prop where
  few : s.n < 100000
  good : k.good (putE k.O e s.l)
def putB (s : TS k) (e : E) : Bool := (hitE k.O e s.l).isSome || decide ((s.l.length : Int) ≠ s.c)
def putL (s : TS k) (e : E) : List E := if s.putB e = true then putE k.O e s.l else s.l
theorem put_ok {s : TS k} {e : E} (h : s.PutOk e) : PutD k.O KK s.m s.r e ∧ (putF k.O KK s.m s.r e).1 = s.putB e ∧
    P1 k (s.n + 1) (putF k.O KK s.m s.r e).2.2 (putF k.O KK s.m s.r e).2.1 (s.putL e) s.c ∧ Vis (32 * hgt s.l.length + 4) s.m (putF k.O KK s.m s.r e).2.2 := by
  obtain ⟨d, r', m', e1, e2, e3⟩ := s.ok.put (K := KK) (e := e) h.few h.good s.k1
  rw [e1]
  simp only [List.length_nil, Nat.add_zero] at e2 ⊢
  exact ⟨d, rfl, e2, e3⟩
instance (s : TS k) (e : E) : Decidable (s.PutOk e) := decidable_of_iff (s.n < 100000 ∧ k.good (putE k.O e s.l)) ⟨fun ⟨a, b⟩ => ⟨a, b⟩, fun ⟨a, b⟩ => ⟨a, b⟩⟩
def put (s : TS k) (e : E) : TS k := if h : s.PutOk e then ⟨s.n + 1, (putF k.O KK s.m s.r e).2.2, (putF k.O KK s.m s.r e).2.1, s.putL e, s.c, (put_ok h).2.2.1⟩ else s
theorem put_eq {s : TS k} {e : E} (h : s.PutOk e) : s.put e = ⟨s.n + 1, (putF k.O KK s.m s.r e).2.2, (putF k.O KK s.m s.r e).2.1, s.putL e, s.c, (put_ok h).2.2.1⟩ := by unfold put; rw [dif_pos h]
theorem put_l {s : TS k} {e : E} (h : s.PutOk e) : (s.put e).l = s.putL e := by rw [put_eq h]
theorem put_n {s : TS k} {e : E} (h : s.PutOk e) : (s.put e).n = s.n + 1 := by rw [put_eq h]
theorem put_c {s : TS k} {e : E} (h : s.PutOk e) : (s.put e).c = s.c := by rw [put_eq h]
theorem put_vis {s : TS k} {e : E} (h : s.PutOk e) : Vis (32 * hgt s.l.length + 4) s.m (s.put e).m := by rw [put_eq h]; exact (put_ok h).2.2.2
theorem drop_ok (s : TS k) (e : E) : PickD k.O KK KK s.m s.r e ∧ (dropF k.O KK s.m s.r e).1 = (fndE k.O e s.l).1 ∧ (dropF k.O KK s.m s.r e).2.1 = (fndE k.O e s.l).2 ∧
    P1 k (s.n + 1) (dropF k.O KK s.m s.r e).2.2.2 (dropF k.O KK s.m s.r e).2.2.1 (dropE k.O e s.l) s.c ∧ Vis (120 * hgt s.l.length + 5) s.m (dropF k.O KK s.m s.r e).2.2.2 := by
  obtain ⟨d, r', m', e1, e2, e3⟩ := s.ok.drop (K := KK) (e := e) s.kk
  rw [e1]
  exact ⟨d, rfl, rfl, e2, e3⟩
def drop (s : TS k) (e : E) : TS k := ⟨s.n + 1, (dropF k.O KK s.m s.r e).2.2.2, (dropF k.O KK s.m s.r e).2.2.1, dropE k.O e s.l, s.c, (s.drop_ok e).2.2.2.1⟩
def find (s : TS k) (e : E) : TS k := ⟨s.n, (Gv.find k.O KK (see s.m s.r) (lk k.O s.m s.r) e).2, s.r, s.l, s.c, by obtain ⟨d, m', e1, e2⟩ := s.ok.find (K := KK) (e := e) s.k1; rw [e1]; exact e2.p⟩
def rank (s : TS k) (e : E) : TS k := ⟨s.n, (Gv.rank k.O KK (see s.m s.r) (lk k.O s.m s.r) e 0).2, s.r, s.l, s.c, by obtain ⟨d, m', e1, e2⟩ := s.ok.rank (K := KK) (e := e) s.k1; rw [e1]; exact e2.p⟩
def at_ (s : TS k) (i : Int) : TS k := ⟨s.n, (atF k.O KK s.m s.r i).2, s.r, s.l, s.c, by obtain ⟨d, m', e1, e2⟩ := s.ok.at_ (K := KK) (i := i) s.k1; rw [e1]; exact e2.p⟩
def bet (s : TS k) (f u : Int) : TS k := ⟨s.n, (between k.O KK (see s.m s.r) (lk k.O s.m s.r) f u).2, s.r, s.l, s.c, by obtain ⟨d, m', e1, e2⟩ := s.ok.bet (K := KK) (f := f) (u := u) s.k1; rw [e1]; exact e2.p⟩
def all (s : TS k) : TS k := ⟨s.n, (gather k.O KK (see s.m s.r) s.r).2, s.r, s.l, s.c, by obtain ⟨d, m', e1, e2⟩ := s.ok.all (K := KK) s.k1; rw [e1]; exact e2⟩
theorem find_vis (s : TS k) (e : E) : Vis (hgt s.l.length + 1) s.m (s.find e).m := by
  obtain ⟨d, m', e1, e2⟩ := s.ok.find (K := KK) (e := e) s.k1
  show Vis _ s.m (Gv.find k.O KK (see s.m s.r) (lk k.O s.m s.r) e).2
  rw [e1]
  exact e2.vis
theorem rank_vis (s : TS k) (e : E) : Vis (2 * hgt s.l.length + 1) s.m (s.rank e).m := by
  obtain ⟨d, m', e1, e2⟩ := s.ok.rank (K := KK) (e := e) s.k1
  show Vis _ s.m (Gv.rank k.O KK (see s.m s.r) (lk k.O s.m s.r) e 0).2
  rw [e1]
  exact e2.vis
theorem bet_vis (s : TS k) (f u : Int) : Vis (4 * hgt s.l.length + 1) s.m (s.bet f u).m := by
  obtain ⟨d, m', e1, e2⟩ := s.ok.bet (K := KK) (f := f) (u := u) s.k1
  show Vis _ s.m (between k.O KK (see s.m s.r) (lk k.O s.m s.r) f u).2
  rw [e1]
  exact e2.vis
theorem seen_vis (s : TS k) : Vis 1 s.m s.seen.m := (s.ok.seen s.r).vis
theorem drop_vis (s : TS k) (e : E) : Vis (120 * hgt s.l.length + 5) s.m (s.drop e).m := (s.drop_ok e).2.2.2.2
/-- the first, the last place of which something holds -/
def firstI (may : A → A → Bool) (s : TS k) (f : Int) : Int := (Gv.first k.O may KK (see s.m s.r) (lk k.O s.m s.r) ⟨0, k.O.a0⟩ f).1
def lastI (may : A → A → Bool) (s : TS k) (f : Int) : Int := (Gv.last k.O may KK (see s.m s.r) (lk k.O s.m s.r) ⟨0, k.O.a0⟩ f).1
def first (may : A → A → Bool) (s : TS k) (f : Int) : TS k := ⟨s.n, (Gv.first k.O may KK (see s.m s.r) (lk k.O s.m s.r) ⟨0, k.O.a0⟩ f).2, s.r, s.l, s.c, P2.upd (s.ok.seen s.r).p (first_upd' k.O may KK _ _ _ _)⟩
def last (may : A → A → Bool) (s : TS k) (f : Int) : TS k := ⟨s.n, (Gv.last k.O may KK (see s.m s.r) (lk k.O s.m s.r) ⟨0, k.O.a0⟩ f).2, s.r, s.l, s.c, P2.upd (s.ok.seen s.r).p (last_upd' k.O may KK _ _ _ _)⟩
theorem first_is {may : A → A → Bool} {P : Nat → Bool} {s : TS k} {f : Int} (h : Asks k.O k.S may P s.l) : FirstIs P 0 s.l.length f (s.firstI may f) := by
  obtain ⟨d, r, m', e1, e2, e3⟩ := s.ok.first (K := KK) (f := f) h s.k1
  unfold firstI; rw [e1]; exact e2
theorem last_is {may : A → A → Bool} {P : Nat → Bool} {s : TS k} {f : Int} (h : Asks k.O k.S may P s.l) : LastIs P 0 s.l.length f (s.lastI may f) := by
  obtain ⟨d, r, m', e1, e2, e3⟩ := s.ok.last (K := KK) (f := f) h s.k1
  unfold lastI; rw [e1]; exact e2
theorem deepN (s : TS k) : DeepN k.O KK (see s.m s.r) (lk k.O s.m s.r) := s.ok.deepN s.k1
end
end TS
end Go.Proofs.Ytegekenkfomlbaa.Gv
