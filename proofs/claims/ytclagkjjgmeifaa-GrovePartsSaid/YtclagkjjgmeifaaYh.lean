/- Yh: G7P, G7T, G7TC, G7Awake, G7Made -/
import Derived.Test.YtclagkjjgmeifaaYg
import Derived.Test.YtclagkjjgmeifaaYe
import Derived.Test.YtclagkjjgmeifaaYc
import Derived.Test.YtclagkjjgmeifaaYf
/- grove: two trees of keys and numbers in a pool, as lists. -/
namespace Go.Proofs.Ytclagkjjgmeifaa.G7
open Go.Proofs.Ytclagkjjgmeifaa.Rx Go.Proofs.Ytclagkjjgmeifaa.D7
set_option linter.unusedVariables false
set_option linter.unusedSimpArgs false
instance : DecidableEq El := fun a b => decidable_of_iff (a.k = b.k ∧ a.w = b.w) ⟨fun h => by cases a; cases b; cases h.1; cases h.2; rfl, fun h => by cases h; exact ⟨rfl, rfl⟩⟩
theorem ref_eta (r : Gv.Ref) : Gv.Ref.mk r.i r.g = r := rfl
/-- two trees, with these roots and elements; so much room -/
def P7 (n : Nat) (m : Pl) (ra rb : Gv.Ref) (la lb : List El) (c : Int) : Prop := ∃ a b : T1, a.root = ra ∧ b.root = rb ∧ St7 n m a b ∧ a.elems = la ∧ b.elems = lb ∧ m.cap = c
/-- one tree -/
abbrev T7 (n : Nat) (m : Pl) (r : Gv.Ref) (l : List El) (c : Int) : Prop := P7 n m r Gv.r0 l [] c
theorem nil_of {t : T1} (h : t.elems = []) : t = .nil := by
  cases t with
  | nil => rfl
  | node r l e q => rw [Gv.Tr.elems_node] at h; simp at h
section
variable {n : Nat} {m : Pl} {ra rb : Gv.Ref} {la lb : List El} {c : Int}
theorem P7.swap (h : P7 n m ra rb la lb c) : P7 n m rb ra lb la c := by
  obtain ⟨a, b, h1, h2, h3, h4, h5, h6⟩ := h
  exact ⟨b, a, h2, h1, h3.swap, h5, h4, h6⟩
theorem P7.mono {k : Nat} (h : P7 n m ra rb la lb c) (hk : n ≤ k) : P7 k m ra rb la lb c := by
  obtain ⟨a, b, h1, h2, h3, h4, h5, h6⟩ := h
  exact ⟨a, b, h1, h2, h3.mono hk, h4, h5, h6⟩
theorem P7.empty (c : Int) : T7 0 ⟨[], [], [], [], 0, c, 0⟩ Gv.r0 [] c :=
  ⟨.nil, .nil, rfl, rfl, Gv.St.empty ⟨Nat.zero_le _, fun v hv => by cases hv⟩ c 0, rfl, rfl, rfl⟩
theorem P7.ok (h : P7 n m ra rb la lb c) (hn : n ≤ 100000) : PP m := by
  obtain ⟨a, b, h1, h2, h3, h4, h5, h6⟩ := h
  exact h3.ok.mono hn
theorem P7.good (h : P7 n m ra rb la lb c) : good7 la := by
  obtain ⟨a, b, h1, h2, h3, h4, h5, h6⟩ := h
  rw [← h4]; exact h3.ga
theorem P7.srt (h : P7 n m ra rb la lb c) : Gv.SrtE O7 la := by
  obtain ⟨a, b, h1, h2, h3, h4, h5, h6⟩ := h
  rw [← h4]; exact Gv.Srt_map.2 h3.sa
theorem P7.len (h : P7 n m ra rb la lb c) : la.length ≤ 1000 := by have := h.good.len; rwa [List.length_map] at this
theorem P7.held (h : P7 n m ra rb la lb c) : m.held = la.length + lb.length := by
  obtain ⟨a, b, h1, h2, h3, h4, h5, h6⟩ := h
  rw [h3.held, ← h4, ← h5, Gv.Tr.elems_length, Gv.Tr.elems_length]
theorem P7.cap (h : P7 n m ra rb la lb c) : m.cap = c := by
  obtain ⟨a, b, h1, h2, h3, h4, h5, h6⟩ := h
  exact h6
theorem h_elems (a : T1) : a.h ≤ a.elems.length := by rw [Gv.Tr.elems_length]; exact a.h_le
/-- the same trees; few nodes looked at -/
structure Sm (n k : Nat) (m m' : Pl) (ra rb : Gv.Ref) (la lb : List El) (c : Int) : Prop where
  p : P7 n m' ra rb la lb c
  vis : Gv.Vis k m m'
theorem sm_of {k : Nat} {a b : T1} {m' : Pl} (h : Gv.Same O7 S7 good7 n k m m' a b) (h6 : m.cap = c) : Sm n k m m' a.root b.root a.elems b.elems c :=
  ⟨⟨a, b, rfl, rfl, h.st, rfl, rfl, h.cap.trans h6⟩, h.vis⟩
theorem P7.seen (h : P7 n m ra rb la lb c) (r : Gv.Ref) : Sm n 1 m (Gv.see m r) ra rb la lb c := by
  obtain ⟨a, b, rfl, rfl, h3, rfl, rfl, h6⟩ := h
  exact sm_of (h3.seen r) h6
theorem P7.nn (h : P7 n m ra rb la lb c) : (Gv.lk O7 m ra).all.n = (la.length : Int) := by
  obtain ⟨a, b, rfl, rfl, h3, rfl, rfl, h6⟩ := h
  exact h3.nn laws7
theorem P7.height (h : P7 n m ra rb la lb c) : ∃ H : Nat, (Gv.lk O7 m ra).h = (H : Int) ∧ H ≤ Gv.hgt la.length := by
  obtain ⟨a, b, rfl, rfl, h3, rfl, rfl, h6⟩ := h
  refine ⟨a.h, h3.hh, ?_⟩
  rw [Gv.Tr.elems_length]
  exact a.h_hgt h3.ba
theorem P7.put {K : Nat} {e : El} (h : P7 n m ra rb la lb c) (hn : n + 1 ≤ 100000) (hl : la.length + 1 ≤ 1000) (he : -1000000 ≤ e.w ∧ e.w ≤ 1000000) (hk : la.length < K) :
    Gv.PutD O7 K m ra e ∧ ∃ r' m', Gv.putF O7 K m ra e = ((hitC (ks la) e.k || decide (((la.length + lb.length : Nat) : Int) ≠ c)), r', m') ∧
      P7 (n + 1) m' r' rb (if (hitC (ks la) e.k || decide (((la.length + lb.length : Nat) : Int) ≠ c)) = true then Gv.putE O7 e la else la) lb c ∧ Gv.Vis (32 * Gv.hgt la.length + 4) m m' := by
  have hh := h.held
  obtain ⟨a, b, rfl, rfl, h3, rfl, rfl, h6⟩ := h
  obtain ⟨d, a', m', e1, e2, e3, e4, e5⟩ := Gv.put_st' laws7 (e := e) h3 hn (good7_put h3.ga hl he) (Nat.lt_of_le_of_lt (h_elems a) hk)
  have hb : ((Gv.hitE O7 e a.elems).isSome || decide (m.held ≠ m.cap)) = (hitC (ks a.elems) e.k || decide (((a.elems.length + b.elems.length : Nat) : Int) ≠ c)) := by
    rw [hitE7_some, hh, h6]; push_cast; rfl
  rw [hb] at e1 e3
  exact ⟨d, a'.root, m', e1, ⟨a', b, rfl, rfl, e2, e3, rfl, e5.trans h6⟩, e4.mono (by have := a.h_hgt h3.ba; rw [Gv.Tr.elems_length]; omega)⟩
theorem P7.drop {K : Nat} {e : El} (h : P7 n m ra rb la lb c) (hk : 2 * la.length < K) :
    Gv.PickD O7 K K m ra e ∧ ∃ r' m', Gv.dropF O7 K m ra e = ((Gv.fndE O7 e la).1, (Gv.fndE O7 e la).2, r', m') ∧ P7 (n + 1) m' r' rb (Gv.dropE O7 e la) lb c ∧ Gv.Vis (120 * Gv.hgt la.length + 5) m m' := by
  obtain ⟨a, b, rfl, rfl, h3, rfl, rfl, h6⟩ := h
  have hh := h_elems a
  obtain ⟨d, a', m', e1, e2, e3, e4, e5⟩ := Gv.drop_st' laws7 (K := K) (e := e) h3 (good7_cut h3.ga) (by omega)
  exact ⟨d, a'.root, m', e1, ⟨a', b, rfl, rfl, e2, e3, rfl, e5.trans h6⟩, e4.mono (by have := a.h_hgt h3.ba; rw [Gv.Tr.elems_length]; omega)⟩
theorem P7.rank {K : Nat} {e : El} (h : P7 n m ra rb la lb c) (hk : la.length < K) :
    Gv.RankE O7 K (Gv.see m ra) (Gv.lk O7 m ra) e 0 ∧ ∃ m', Gv.rank O7 K (Gv.see m ra) (Gv.lk O7 m ra) e 0 = ((rk la e.k : Int), m') ∧ Sm n (2 * Gv.hgt la.length + 1) m m' ra rb la lb c := by
  obtain ⟨a, b, rfl, rfl, h3, rfl, rfl, h6⟩ := h
  obtain ⟨d, m', e1, e2⟩ := Gv.rank_st laws7 (K := K) (e := e) h3 (Nat.lt_of_le_of_lt (h_elems a) hk)
  refine ⟨d, m', ?_, sm_of (e2.mono (by have := a.h_hgt h3.ba; rw [Gv.Tr.elems_length]; omega)) h6⟩
  rw [e1, (loE7 e a.elems).1, List.length_take]
  have := rkC_le (ks a.elems) e.k
  rw [List.length_map] at this
  rw [Nat.min_eq_left this]
theorem P7.at_ {K : Nat} {i : Int} (h : P7 n m ra rb la lb c) (hk : la.length < K) :
    Gv.AtD O7 K m ra i ∧ ∃ m', Gv.atF O7 K m ra i = (Gv.nthE O7 i la, m') ∧ Sm n (2 * Gv.hgt la.length + 1) m m' ra rb la lb c := by
  obtain ⟨a, b, rfl, rfl, h3, rfl, rfl, h6⟩ := h
  obtain ⟨d, m', e1, e2⟩ := Gv.at_st laws7 (K := K) (i := i) h3 (Nat.lt_of_le_of_lt (h_elems a) hk)
  exact ⟨d, m', e1, sm_of (e2.mono (by have := a.h_hgt h3.ba; rw [Gv.Tr.elems_length]; omega)) h6⟩
theorem P7.bet {K : Nat} {f u : Int} (h : P7 n m ra rb la lb c) (hk : la.length < K) :
    Gv.BetE O7 K (Gv.see m ra) (Gv.lk O7 m ra) f u ∧ ∃ m', Gv.between O7 K (Gv.see m ra) (Gv.lk O7 m ra) f u = (⟨(Gv.sub la f.toNat u.toNat).length, S7 (Gv.sub la f.toNat u.toNat)⟩, m') ∧ Sm n (4 * Gv.hgt la.length + 1) m m' ra rb la lb c := by
  obtain ⟨a, b, rfl, rfl, h3, rfl, rfl, h6⟩ := h
  obtain ⟨d, m', e1, e2⟩ := Gv.bet_st laws7 (K := K) (f := f) (u := u) h3 (Nat.lt_of_le_of_lt (h_elems a) hk)
  exact ⟨d, m', e1, sm_of (e2.mono (by have := a.h_hgt h3.ba; rw [Gv.Tr.elems_length]; omega)) h6⟩
theorem P7.all {K : Nat} (h : P7 n m ra rb la lb c) (hk : la.length < K) :
    (Gv.Deep O7 K m ra ∧ (Gv.lk O7 m ra).all.n = (gaM K m ra).1.length ∧ (gaM K m ra).1.length < 900000) ∧ ∃ m', Gv.gather O7 K (Gv.see m ra) ra = (la, m') ∧ P7 n m' ra rb la lb c := by
  obtain ⟨a, b, rfl, rfl, h3, rfl, rfl, h6⟩ := h
  obtain ⟨d1, d2, m', kk, e1, e2⟩ := Gv.all_st laws7 (K := K) h3 (Nat.lt_of_le_of_lt (h_elems a) hk)
  have hl := h3.ga.len
  rw [List.length_map] at hl
  refine ⟨⟨d1, ?_, ?_⟩, m', e1, (sm_of e2 h6).p⟩
  · unfold gaM; rw [e1]; exact d2
  · unfold gaM; rw [e1]; simp only; omega
/-- the law's alike -/
theorem P7.alike {K : Nat} (h : P7 n m ra rb la lb c) (hk : la.length < K) (l : List El) :
    AlikeD K m ra ∧ alikeB K m ra (ks l) (wsL l) = decide (la = l) ∧ P7 n (alikeM K m ra) ra rb la lb c := by
  obtain ⟨d, m', e1, e2⟩ := h.all hk
  have hg : gaM K m ra = (la, m') := e1
  refine ⟨d, ?_, ?_⟩
  · unfold alikeB
    rw [hg]
    simp only
    rw [e2.nn]
    unfold sameC
    rw [← Bool.decide_and, decide_eq_decide]
    constructor
    · rintro ⟨h1, h2, h3⟩
      have h1' : la.length = l.length := by rw [List.length_map] at h1; omega
      refine ext_getD ⟨0, 0⟩ h1' fun i hi => ?_
      have k1 : (ks la).getD i 0 = (ks l).getD i 0 := by rw [show ks la = ks l from h2]
      have k2 : (wsL la).getD i 0 = (wsL l).getD i 0 := by rw [show wsL la = wsL l from h3]
      have hl : i < l.length := by omega
      simp only [ks, wsL, List.getD_eq_getElem?_getD, List.getElem?_map, List.getElem?_eq_getElem hi, List.getElem?_eq_getElem hl, Option.map_some, Option.getD_some] at k1 k2 ⊢
      cases hx : la[i] with
      | mk p q =>
        cases hy : l[i] with
        | mk p' q' => rw [hx, hy] at k1 k2; simp only at k1 k2; rw [k1, k2]
    · rintro rfl
      exact ⟨by simp, rfl, rfl⟩
  · unfold alikeM
    rw [hg]
    exact (e2.seen _).p
theorem P7.first {K : Nat} {f : Int} {may : Ti.Td → Ti.Td → Bool} {P : Nat → Bool} (h : P7 n m ra rb la lb c) (hA : Gv.Asks O7 S7 may P la) (hk : la.length < K) :
    Gv.DeepN O7 K (Gv.see m ra) (Gv.lk O7 m ra) ∧ ∃ r m', Gv.first O7 may K (Gv.see m ra) (Gv.lk O7 m ra) ⟨0, O7.a0⟩ f = (r, m') ∧ Gv.FirstIs P 0 la.length f r ∧ P7 n m' ra rb la lb c := by
  obtain ⟨a, b, rfl, rfl, h3, rfl, rfl, h6⟩ := h
  obtain ⟨d, r, m', kk, e1, e2, e3⟩ := Gv.first_st laws7 (K := K) (f := f) h3 hA (Nat.lt_of_le_of_lt (h_elems a) hk)
  exact ⟨d, r, m', e1, e2, (sm_of e3 h6).p⟩
theorem P7.last {K : Nat} {f : Int} {may : Ti.Td → Ti.Td → Bool} {P : Nat → Bool} (h : P7 n m ra rb la lb c) (hA : Gv.Asks O7 S7 may P la) (hk : la.length < K) :
    Gv.DeepN O7 K (Gv.see m ra) (Gv.lk O7 m ra) ∧ ∃ r m', Gv.last O7 may K (Gv.see m ra) (Gv.lk O7 m ra) ⟨0, O7.a0⟩ f = (r, m') ∧ Gv.LastIs P 0 la.length f r ∧ P7 n m' ra rb la lb c := by
  obtain ⟨a, b, rfl, rfl, h3, rfl, rfl, h6⟩ := h
  obtain ⟨d, r, m', kk, e1, e2, e3⟩ := Gv.last_st laws7 (K := K) (f := f) h3 hA (Nat.lt_of_le_of_lt (h_elems a) hk)
  exact ⟨d, r, m', e1, e2, (sm_of e3 h6).p⟩
theorem T7.split {K : Nat} {e : El} {r : Gv.Ref} {l : List El} (h : T7 n m r l c) (hk : 2 * l.length < K) :
    Gv.CutD O7 K K m r e ∧ ∃ x y m', Gv.cutF O7 K K m r e = (x, y, m') ∧ P7 n m' x y (l.take (rk l e.k)) (l.drop (rk l e.k)) c := by
  obtain ⟨a, b, rfl, h2, h3, rfl, h5, h6⟩ := h
  obtain rfl := nil_of h5
  obtain ⟨d, x, y, m', e1, e2, e3, e4, e5⟩ := Gv.split_st' laws7 (K := K) (e := e) h3 (by rw [← Gv.Tr.elems_length]; exact hk)
  exact ⟨d, x.root, y.root, m', e1, x, y, rfl, rfl, e2, e3.trans (loE7 e _).1, e4.trans (loE7 e _).2, e5.trans h6⟩
theorem P7.join {K : Nat} (h : P7 n m ra rb la lb c) (hn : n ≤ 100000) (hg : good7 (la ++ lb)) (hk : la.length + lb.length < K) :
    Gv.JoinD O7 K m ra rb ∧ (Gv.aheadE O7 la lb = true → ∃ r m', Gv.joinF O7 K m ra rb = (true, r, Gv.r0, m') ∧ T7 n m' r (la ++ lb) c) ∧
      (Gv.aheadE O7 la lb = false → ∃ m', Gv.joinF O7 K m ra rb = (false, ra, rb, m') ∧ P7 n m' ra rb la lb c) := by
  obtain ⟨a, b, rfl, rfl, h3, rfl, rfl, h6⟩ := h
  have h1 := h_elems a
  have h2 := h_elems b
  obtain ⟨d, e1, e2⟩ := Gv.join_st laws7 (K := K) h3 hn hg (by omega)
  refine ⟨d, fun hh => ?_, fun hh => ?_⟩
  · obtain ⟨t, m', f1, f2, f3, f4⟩ := e1 hh
    exact ⟨t.root, m', f1, t, .nil, rfl, rfl, f2, f3, rfl, f4.trans h6⟩
  · obtain ⟨m', f1, f2, f4⟩ := e2 hh
    exact ⟨m', f1, a, b, rfl, rfl, f2, rfl, rfl, f4.trans h6⟩
end
end Go.Proofs.Ytclagkjjgmeifaa.G7


/- grove: a tree of keys and numbers, alone in its pool, as a thing. -/
namespace Go.Proofs.Ytclagkjjgmeifaa.G7
open Go.Proofs.Ytclagkjjgmeifaa.Rx Go.Proofs.Ytclagkjjgmeifaa.D7
set_option linter.unusedVariables false
set_option linter.unusedSimpArgs false
end Go.Proofs.Ytclagkjjgmeifaa.G7
namespace Go.Proofs.Ytclagkjjgmeifaa.Gv
theorem upd_see {E A : Type} (O : Ops E A) {k : Nat} {m m' : Po E A} {r : Ref} (h : Upd [] k (zn O) (see m r) m') : ∃ k, Upd [] k (zn O) m m' := ⟨_, (see_upd (zn O) m r).to h (S := []) (fun s hs => by simp at hs) (Nat.le_refl _)⟩
theorem upd_two {E A : Type} (O : Ops E A) {a b c : Po E A} (h : ∃ k, Upd [] k (zn O) a b) (h' : ∃ k, Upd [] k (zn O) b c) : ∃ k, Upd [] k (zn O) a c := by
  obtain ⟨k, h⟩ := h
  obtain ⟨k', h'⟩ := h'
  exact ⟨_, h.to h' (S := []) (fun s hs => by simp at hs) (Nat.le_refl _)⟩
theorem first_upd {E A : Type} (O : Ops E A) (may : A → A → Bool) : ∀ (k : Nat) (m : Po E A) (n : Node E A) (a : Part A) (f : Int), ∃ kk, Upd [] kk (zn O) m (first O may k m n a f).2
  | 0, m, _, _, _ => ⟨0, Upd.refl _ _ _ _⟩
  | k + 1, m, n, a, f => by
    obtain ⟨k1, h1⟩ := first_upd O may k (see m n.l) (lk O m n.l) a f
    have h1 := upd_see O h1
    rw [first]
    split
    · exact ⟨0, Upd.refl _ _ _ _⟩
    · split
      · exact ⟨0, Upd.refl _ _ _ _⟩
      · split
        · exact h1
        · split
          · exact h1
          · obtain ⟨k2, h2⟩ := first_upd O may k (see (first O may k (see m n.l) (lk O m n.l) a f).2 n.r) (lk O (first O may k (see m n.l) (lk O m n.l) a f).2 n.r) (plusP O (plusP O a (lk O m n.l).all) (one O n.e)) f
            exact upd_two O h1 (upd_see O h2)
theorem last_upd {E A : Type} (O : Ops E A) (may : A → A → Bool) : ∀ (k : Nat) (m : Po E A) (n : Node E A) (a : Part A) (f : Int), ∃ kk, Upd [] kk (zn O) m (last O may k m n a f).2
  | 0, m, _, _, _ => ⟨0, Upd.refl _ _ _ _⟩
  | k + 1, m, n, a, f => by
    obtain ⟨k1, h1⟩ := last_upd O may k (see (see m n.l) n.r) (lk O (see m n.l) n.r) (plusP O (plusP O a (lk O m n.l).all) (one O n.e)) f
    have h1 := upd_two O ⟨_, see_upd (zn O) m n.l⟩ (upd_see O h1)
    rw [last]
    split
    · exact ⟨0, Upd.refl _ _ _ _⟩
    · split
      · exact ⟨0, Upd.refl _ _ _ _⟩
      · simp only
        split
        · exact h1
        · split
          · exact h1
          · exact upd_two O h1 (last_upd O may k _ _ _ _)
end Go.Proofs.Ytclagkjjgmeifaa.Gv
namespace Go.Proofs.Ytclagkjjgmeifaa.G7
open Go.Proofs.Ytclagkjjgmeifaa.Rx Go.Proofs.Ytclagkjjgmeifaa.D7
/-- so many rounds suffice -/
def KK : Nat := 5000
/-- a tree in its pool: its elements, how many calls it saw at the most, its room -/
structure TS where
  n : Nat
  m : Pl
  r : Gv.Ref
  l : List El
  c : Int
  ok : T7 n m r l c
theorem P7.upd {n : Nat} {m m' : Pl} {ra rb : Gv.Ref} {la lb : List El} {c : Int} (h : P7 n m ra rb la lb c) (hu : ∃ k, Gv.Upd [] k (Gv.zn O7) m m') : P7 n m' ra rb la lb c := by
  obtain ⟨a, b, h1, h2, h3, h4, h5, h6⟩ := h
  obtain ⟨k, hu⟩ := hu
  exact ⟨a, b, h1, h2, h3.look hu, h4, h5, hu.cap.trans h6⟩
namespace TS
theorem len_le (s : TS) : s.l.length ≤ 1000 := s.ok.len
theorem kk (s : TS) : 2 * s.l.length < KK := by have := s.len_le; unfold KK; omega
theorem k1 (s : TS) : s.l.length < KK := by have := s.kk; omega
def new (c : Int) : TS := ⟨0, ⟨[], [], [], [], 0, min (max c 0) 16777216, 0⟩, Gv.r0, [], min (max c 0) 16777216, P7.empty _⟩
/-- the calls are few yet -/
def Few (s : TS) : Prop := s.n < 100000
instance (s : TS) : Decidable s.Few := inferInstanceAs (Decidable (_ < _))
theorem pp (s : TS) (h : s.Few) : PP s.m := s.ok.ok (Nat.le_of_lt h)
def seen (s : TS) : TS := ⟨s.n, Gv.see s.m s.r, s.r, s.l, s.c, (s.ok.seen s.r).p⟩
def h (s : TS) : Int := (Gv.lk O7 s.m s.r).h
theorem h_le (s : TS) : 0 ≤ s.h ∧ s.h ≤ Gv.hgt s.l.length := by
  obtain ⟨H, e, hh⟩ := s.ok.height
  unfold h
  rw [e]
  omega
structure PutOk (s : TS) (e : El) : Prop where
  few : s.n < 100000
  len : s.l.length < 1000
  lo : -1000000 ≤ e.w
  hi : e.w ≤ 1000000
def putB (s : TS) (e : El) : Bool := hitC (ks s.l) e.k || decide ((s.l.length : Int) ≠ s.c)
def putL (s : TS) (e : El) : List El := if s.putB e = true then Gv.putE O7 e s.l else s.l
theorem put_ok {s : TS} {e : El} (h : s.PutOk e) : Gv.PutD O7 KK s.m s.r e ∧ (Gv.putF O7 KK s.m s.r e).1 = s.putB e ∧
    T7 (s.n + 1) (Gv.putF O7 KK s.m s.r e).2.2 (Gv.putF O7 KK s.m s.r e).2.1 (s.putL e) s.c ∧ Gv.Vis (32 * Gv.hgt s.l.length + 4) s.m (Gv.putF O7 KK s.m s.r e).2.2 := by
  obtain ⟨d, r', m', e1, e2, e3⟩ := s.ok.put (K := KK) (e := e) h.few h.len ⟨h.lo, h.hi⟩ s.k1
  rw [e1]
  simp only [List.length_nil, Nat.add_zero] at e2 ⊢
  exact ⟨d, rfl, e2, e3⟩
instance (s : TS) (e : El) : Decidable (s.PutOk e) := decidable_of_iff (s.n < 100000 ∧ s.l.length < 1000 ∧ -1000000 ≤ e.w ∧ e.w ≤ 1000000) ⟨fun ⟨a, b, c, d⟩ => ⟨a, b, c, d⟩, fun ⟨a, b, c, d⟩ => ⟨a, b, c, d⟩⟩
def put (s : TS) (e : El) : TS := if h : s.PutOk e then ⟨s.n + 1, (Gv.putF O7 KK s.m s.r e).2.2, (Gv.putF O7 KK s.m s.r e).2.1, s.putL e, s.c, (put_ok h).2.2.1⟩ else s
theorem put_eq {s : TS} {e : El} (h : s.PutOk e) : s.put e = ⟨s.n + 1, (Gv.putF O7 KK s.m s.r e).2.2, (Gv.putF O7 KK s.m s.r e).2.1, s.putL e, s.c, (put_ok h).2.2.1⟩ := by unfold put; rw [dif_pos h]
theorem put_l {s : TS} {e : El} (h : s.PutOk e) : (s.put e).l = s.putL e := by rw [put_eq h]
theorem put_n {s : TS} {e : El} (h : s.PutOk e) : (s.put e).n = s.n + 1 := by rw [put_eq h]
theorem put_c {s : TS} {e : El} (h : s.PutOk e) : (s.put e).c = s.c := by rw [put_eq h]
theorem drop_ok (s : TS) (e : El) : Gv.PickD O7 KK KK s.m s.r e ∧ (Gv.dropF O7 KK s.m s.r e).1 = (Gv.fndE O7 e s.l).1 ∧ (Gv.dropF O7 KK s.m s.r e).2.1 = (Gv.fndE O7 e s.l).2 ∧
    T7 (s.n + 1) (Gv.dropF O7 KK s.m s.r e).2.2.2 (Gv.dropF O7 KK s.m s.r e).2.2.1 (Gv.dropE O7 e s.l) s.c ∧ Gv.Vis (120 * Gv.hgt s.l.length + 5) s.m (Gv.dropF O7 KK s.m s.r e).2.2.2 := by
  obtain ⟨d, r', m', e1, e2, e3⟩ := s.ok.drop (K := KK) (e := e) s.kk
  rw [e1]
  exact ⟨d, rfl, rfl, e2, e3⟩
def drop (s : TS) (e : El) : TS := ⟨s.n + 1, (Gv.dropF O7 KK s.m s.r e).2.2.2, (Gv.dropF O7 KK s.m s.r e).2.2.1, Gv.dropE O7 e s.l, s.c, (s.drop_ok e).2.2.2.1⟩
def rank (s : TS) (e : El) : TS := ⟨s.n, (Gv.rank O7 KK (Gv.see s.m s.r) (Gv.lk O7 s.m s.r) e 0).2, s.r, s.l, s.c, by obtain ⟨d, m', e1, e2⟩ := s.ok.rank (K := KK) (e := e) s.k1; rw [e1]; exact e2.p⟩
def at_ (s : TS) (i : Int) : TS := ⟨s.n, (Gv.atF O7 KK s.m s.r i).2, s.r, s.l, s.c, by obtain ⟨d, m', e1, e2⟩ := s.ok.at_ (K := KK) (i := i) s.k1; rw [e1]; exact e2.p⟩
def bet (s : TS) (f u : Int) : TS := ⟨s.n, (Gv.between O7 KK (Gv.see s.m s.r) (Gv.lk O7 s.m s.r) f u).2, s.r, s.l, s.c, by obtain ⟨d, m', e1, e2⟩ := s.ok.bet (K := KK) (f := f) (u := u) s.k1; rw [e1]; exact e2.p⟩
def all (s : TS) : TS := ⟨s.n, (Gv.gather O7 KK (Gv.see s.m s.r) s.r).2, s.r, s.l, s.c, by obtain ⟨d, m', e1, e2⟩ := s.ok.all (K := KK) s.k1; rw [e1]; exact e2⟩
/-- the first, the last place of which something holds -/
def firstI (may : Ti.Td → Ti.Td → Bool) (s : TS) (f : Int) : Int := (Gv.first O7 may KK (Gv.see s.m s.r) (Gv.lk O7 s.m s.r) ⟨0, O7.a0⟩ f).1
def first (may : Ti.Td → Ti.Td → Bool) (s : TS) (f : Int) : TS := ⟨s.n, (Gv.first O7 may KK (Gv.see s.m s.r) (Gv.lk O7 s.m s.r) ⟨0, O7.a0⟩ f).2, s.r, s.l, s.c, P7.upd (s.ok.seen s.r).p (Gv.first_upd O7 may KK _ _ _ _)⟩
def last (may : Ti.Td → Ti.Td → Bool) (s : TS) (f : Int) : TS := ⟨s.n, (Gv.last O7 may KK (Gv.see s.m s.r) (Gv.lk O7 s.m s.r) ⟨0, O7.a0⟩ f).2, s.r, s.l, s.c, P7.upd (s.ok.seen s.r).p (Gv.last_upd O7 may KK _ _ _ _)⟩
theorem deepN (s : TS) : Gv.DeepN O7 KK (Gv.see s.m s.r) (Gv.lk O7 s.m s.r) := by
  obtain ⟨a, b, h1, h2, h3, h4, h5, h6⟩ := s.ok
  rw [← h1]
  refine Gv.deepN_st laws7 h3 (Nat.lt_of_le_of_lt (h_elems a) ?_)
  rw [h4]
  exact s.k1
end TS
inductive Rt
  | tree (s : TS)
  | pool (m : Pl)
def lay2 : Rt → Hp Rs
  | .tree s => [some (.inl (76, [.pointer (some ⟨1, 0, none⟩), .int .i64 s.r.i, .int .i64 s.r.g])), some (.inr (.inr (.inr (.pool s.m))))]
  | .pool m => [some (.inr (.inr (.inr (.pool m))))]
def L2 : Lay Rt Rs where
  lay := lay2
  ne x := by cases x <;> exact Nat.succ_pos _
  own x b X h := by
    cases x with
    | tree s =>
      match b, h with
      | 0, h => simp only [lay2, List.getElem?_cons_zero, Option.some.injEq] at h; subst h; rfl
      | 1, h => simp only [lay2, List.getElem?_cons_succ, List.getElem?_cons_zero, Option.some.injEq] at h; subst h; rfl
      | b + 2, h => simp [lay2] at h
    | pool m =>
      match b, h with
      | 0, h => simp only [lay2, List.getElem?_cons_zero, Option.some.injEq] at h; subst h; rfl
      | b + 1, h => simp [lay2] at h
  ins x := by cases x <;> rfl
def D2 : Res Rt := resOf D L2
abbrev oT (s : TS) : Option (SB Rt) := some (.inr (.inr (.inr (.tree s))))
end Go.Proofs.Ytclagkjjgmeifaa.G7


/- grove: a tree as a thing: its calls. -/
namespace Go.Proofs.Ytclagkjjgmeifaa.G7
open Go.Proofs.Ytclagkjjgmeifaa.Rx Go.Proofs.Ytclagkjjgmeifaa.D7
set_option linter.unusedVariables false
set_option linter.unusedSimpArgs false
set_option maxRecDepth 100000
def tnewP : Prim Rt := fun args hh => match args, hh with
  | [.int .i64 c], [] => some ⟨True, .pointer (some ⟨0, 0, none⟩), none, [oT (TS.new c)], [], [(0, 0)]⟩
  | _, _ => none
theorem tnew_ok : ConOk D2 Try.prog 11 (con1 tnewP) := by
  refine res_up (c := con1 gnewP) gnew_ok fun args hh x hx => ?_
  unfold tnewP at hx
  split at hx
  · rename_i c
    injection hx with hx
    subst hx
    refine ⟨Nat.zero_le _, noLit rfl, (fun hw => by cases hw), fun hv => ⟨⟨_, .inl ⟨rfl, rfl⟩, rfl, ?_, ?_, ?_⟩, rfl, rfl⟩⟩
    · trivial
    · rfl
    · rfl
  · cases hx
def tputP : Prim Rt := fun args hh => match args, hh with
  | [.pointer (some ⟨0, 0, none⟩), .agg ⟨[.int .i64 k0, .int .i64 k1]⟩], [some (.inr (.inr (.inr (.tree s))))] => some ⟨s.PutOk (⟨k0, k1⟩ : El), .bool (s.putB (⟨k0, k1⟩ : El)), none, [oT (s.put (⟨k0, k1⟩ : El))], [], [(0, 0)]⟩
  | _, _ => none
theorem tput_ok : ConOk D2 Try.prog 13 (con1 tputP) := by
  refine res_up (c := con1 (gputP KK)) (gput_ok KK) fun args hh x hx => ?_
  unfold tputP at hx
  split at hx
  · rename_i k0 k1 s
    injection hx with hx
    subst hx
    refine ⟨Nat.le_refl _, noLit rfl, (fun hw => by cases hw), fun hv => ⟨⟨_, .inl ⟨rfl, rfl⟩, rfl, ?_, ?_, ?_⟩, rfl, rfl⟩⟩
    · exact ⟨s.pp hv.few, (TS.put_ok hv).1⟩
    · rw [TS.put_eq hv]; rfl
    · exact congrArg Value.bool (TS.put_ok hv).2.1
  · cases hx
def tdropP : Prim Rt := fun args hh => match args, hh with
  | [.pointer (some ⟨0, 0, none⟩), .agg ⟨[.int .i64 k0, .int .i64 k1]⟩], [some (.inr (.inr (.inr (.tree s))))] => some ⟨s.Few, .tuple #[.agg ⟨[.int .i64 (Gv.fndE O7 (⟨k0, k1⟩ : El) s.l).1.k, .int .i64 (Gv.fndE O7 (⟨k0, k1⟩ : El) s.l).1.w]⟩, .bool (Gv.fndE O7 (⟨k0, k1⟩ : El) s.l).2], none, [oT (s.drop (⟨k0, k1⟩ : El))], [], [(0, 0)]⟩
  | _, _ => none
theorem tdrop_ok : ConOk D2 Try.prog 15 (con1 tdropP) := by
  refine res_up (c := con1 (gdropP KK)) (gdrop_ok KK) fun args hh x hx => ?_
  unfold tdropP at hx
  split at hx
  · rename_i k0 k1 s
    injection hx with hx
    subst hx
    refine ⟨Nat.le_refl _, noLit rfl, (fun hw => by cases hw), fun hv => ⟨⟨_, .inl ⟨rfl, rfl⟩, rfl, ?_, ?_, ?_⟩, rfl, rfl⟩⟩
    · exact ⟨s.pp hv, (s.drop_ok (⟨k0, k1⟩ : El)).1⟩
    · rfl
    · obtain ⟨_, h1, h2, _⟩ := s.drop_ok (⟨k0, k1⟩ : El)
      show Value.tuple #[.agg ⟨[.int .i64 (Gv.dropF O7 KK s.m s.r (⟨k0, k1⟩ : El)).1.k, .int .i64 (Gv.dropF O7 KK s.m s.r (⟨k0, k1⟩ : El)).1.w]⟩, .bool (Gv.dropF O7 KK s.m s.r (⟨k0, k1⟩ : El)).2.1] = _
      rw [h1, h2]
      rfl
  · cases hx
def trankP : Prim Rt := fun args hh => match args, hh with
  | [.pointer (some ⟨0, 0, none⟩), .agg ⟨[.int .i64 k0, .int .i64 k1]⟩], [some (.inr (.inr (.inr (.tree s))))] => some ⟨s.Few, .int .i64 (rk s.l k0), none, [oT (s.rank (⟨k0, k1⟩ : El))], [], [(0, 0)]⟩
  | _, _ => none
theorem trank_ok : ConOk D2 Try.prog 18 (con1 trankP) := by
  refine res_up (c := con1 (grankP KK)) (grank_ok KK) fun args hh x hx => ?_
  unfold trankP at hx
  split at hx
  · rename_i k0 k1 s
    injection hx with hx
    subst hx
    refine ⟨Nat.le_refl _, noLit rfl, (fun hw => by cases hw), fun hv => ⟨⟨_, .inl ⟨rfl, rfl⟩, rfl, ?_, ?_, ?_⟩, rfl, rfl⟩⟩
    · exact ⟨s.pp hv, (s.ok.rank (e := (⟨k0, k1⟩ : El)) s.k1).1⟩
    · rfl
    · obtain ⟨_, m', h1, _⟩ := s.ok.rank (K := KK) (e := (⟨k0, k1⟩ : El)) s.k1
      show Value.int IntKind.i64 (Gv.rank O7 KK (Gv.see s.m s.r) (Gv.lk O7 s.m s.r) (⟨k0, k1⟩ : El) 0).1 = _
      rw [h1]
      rfl
  · cases hx
def tbetP : Prim Rt := fun args hh => match args, hh with
  | [.pointer (some ⟨0, 0, none⟩), .int .i64 x_, .int .i64 y_], [some (.inr (.inr (.inr (.tree s))))] => some ⟨s.Few, .agg ⟨[.int .i64 (S7 (Gv.sub s.l x_.toNat y_.toNat)).n, .int .i64 (S7 (Gv.sub s.l x_.toNat y_.toNat)).s, .int .i64 (S7 (Gv.sub s.l x_.toNat y_.toNat)).l]⟩, none, [oT (s.bet x_ y_)], [], [(0, 0)]⟩
  | _, _ => none
theorem tbet_ok : ConOk D2 Try.prog 24 (con1 tbetP) := by
  refine res_up (c := con1 (gbetP KK)) (gbet_ok KK) fun args hh x hx => ?_
  unfold tbetP at hx
  split at hx
  · rename_i x_ y_ s
    injection hx with hx
    subst hx
    refine ⟨Nat.le_refl _, noLit rfl, (fun hw => by cases hw), fun hv => ⟨⟨_, .inl ⟨rfl, rfl⟩, rfl, ?_, ?_, ?_⟩, rfl, rfl⟩⟩
    · exact ⟨s.pp hv, (s.ok.bet (f := x_) (u := y_) s.k1).1⟩
    · rfl
    · obtain ⟨_, m', h1, _⟩ := s.ok.bet (K := KK) (f := x_) (u := y_) s.k1
      show Value.agg ⟨[.int .i64 (Gv.between O7 KK (Gv.see s.m s.r) (Gv.lk O7 s.m s.r) x_ y_).1.sum.n, .int .i64 (Gv.between O7 KK (Gv.see s.m s.r) (Gv.lk O7 s.m s.r) x_ y_).1.sum.s, .int .i64 (Gv.between O7 KK (Gv.see s.m s.r) (Gv.lk O7 s.m s.r) x_ y_).1.sum.l]⟩ = _
      rw [h1]
      rfl
  · cases hx
def tfirstAP : Prim Rt := fun args hh => match args, hh with
  | [.pointer (some ⟨0, 0, none⟩), .int .i64 f_, .func (.func 38) ⟨[]⟩ ⟨[]⟩], [some (.inr (.inr (.inr (.tree s))))] => some ⟨s.Few, .int .i64 (TS.firstI mayA s f_), none, [oT (TS.first mayA s f_)], [], [(0, 0)]⟩
  | _, _ => none
theorem tfirstA_ok : ConOk D2 Try.prog 29 (con1 tfirstAP) := by
  refine res_up (c := con1 (gfirstAP KK)) (gfirstA_ok KK) fun args hh x hx => ?_
  unfold tfirstAP at hx
  split at hx
  · rename_i f_ s
    injection hx with hx
    subst hx
    refine ⟨Nat.le_refl _, noLit rfl, (fun hw => by cases hw), fun hv => ⟨⟨_, .inl ⟨rfl, rfl⟩, rfl, ?_, ?_, ?_⟩, rfl, rfl⟩⟩
    · exact ⟨s.pp hv, s.deepN⟩
    · rfl
    · rfl
  · cases hx
end Go.Proofs.Ytclagkjjgmeifaa.G7


/- grove: the law's awake. -/
namespace Go.Proofs.Ytclagkjjgmeifaa.G7
open Go.Proofs.Ytclagkjjgmeifaa.Rx Go.Proofs.Ytclagkjjgmeifaa.D7
set_option linter.unusedVariables false
set_option linter.unusedSimpArgs false
set_option maxRecDepth 100000
set_option maxHeartbeats 16000000
def TA7 : Tab Rt := [(11, liftC zN 2 (con1 tnewP)), (13, liftC zN 2 (con1 tputP)),
  (29, liftC zN 2 (con1 tfirstAP)), (18, liftC zN 2 (con1 trankP)), (24, liftC zN 2 (con1 tbetP))]
theorem TA7_ok : TabOk D2 Try.prog TA7 := ⟨liftC_ok _ _ tnew_ok, liftC_ok _ _ tput_ok, liftC_ok _ _ tfirstA_ok, liftC_ok _ _ trank_ok, liftC_ok _ _ tbet_ok, trivial⟩
theorem few_first {s : TS} {may : Ti.Td → Ti.Td → Bool} {f : Int} (h : s.Few) : (TS.first may s f).Few := h
theorem few_rank {s : TS} {e : El} (h : s.Few) : (s.rank e).Few := h
theorem aw1 : TS.PutOk (TS.new 9) ⟨5, 5⟩ := ⟨show 0 < 100000 by decide, show 0 < 1000 by decide, by decide, by decide⟩
theorem aw1l : (TS.put (TS.new 9) ⟨5, 5⟩).l = [⟨5, 5⟩] := (TS.put_l aw1).trans rfl
theorem aw1n : (TS.put (TS.new 9) ⟨5, 5⟩).n = 1 := TS.put_n aw1
theorem aw1c : (TS.put (TS.new 9) ⟨5, 5⟩).c = 9 := (TS.put_c aw1).trans rfl
theorem aw2 : TS.PutOk (TS.put (TS.new 9) ⟨5, 5⟩) ⟨2, 2⟩ := ⟨by rw [aw1n]; decide, by rw [aw1l]; decide, by decide, by decide⟩
theorem aw2l : (TS.put (TS.put (TS.new 9) ⟨5, 5⟩) ⟨2, 2⟩).l = [⟨2, 2⟩, ⟨5, 5⟩] := by
  rw [TS.put_l aw2]
  unfold TS.putL TS.putB
  rw [aw1l, aw1c]
  rfl
theorem aw2n : (TS.put (TS.put (TS.new 9) ⟨5, 5⟩) ⟨2, 2⟩).n = 2 := by rw [TS.put_n aw2, aw1n]
theorem aw3 : TS.PutOk (TS.put (TS.put (TS.new 9) ⟨5, 5⟩) ⟨2, 2⟩) ⟨9, 9⟩ := ⟨by rw [aw2n]; decide, by rw [aw2l]; decide, by decide, by decide⟩
theorem awf : TS.Few (TS.put (TS.put (TS.put (TS.new 9) ⟨5, 5⟩) ⟨2, 2⟩) ⟨9, 9⟩) := by unfold TS.Few; rw [TS.put_n aw3, aw2n]; decide
def awakeP : Prim Rt := fun args hh => match args, hh with
  | [], [] => some ⟨True, .bool true, none, hh, [], []⟩
  | _, _ => none
theorem awake_ok : ConOk D2 Try.prog 9 (con1 awakeP) := by
  refine con1_ok (prim_at (fn := Try.f9) (root := codeOf Try.f9) (by kernel_rfl) (by kernel_rfl) (by kernel_rfl) fun args hh x hx => ?_)
  unfold awakeP at hx
  split at hx
  · injection hx with hx
    subst hx
    refine ⟨Nat.le_refl _, noLit rfl, (fun _ => rfl), fun _ hv => ?_⟩
    generalize hG : Rx.Ends (R := Rt) _ _ = G
    refine rx_ok (T := TA7) TA7_ok mixed 200 ?_
    refine as_text (q := let zz1 := (TS.put (TS.new (9 : Int)) (El.mk (5 : Int) (5 : Int))); let zz2 := (TS.put zz1 (El.mk (2 : Int) (2 : Int))); let zz3 := (TS.put zz2 (El.mk (9 : Int) (9 : Int))); let zz4 := (TS.rank (TS.first mayA zz3 (0 : Int)) (El.mk (6 : Int) (0 : Int))); Vc True ∧ Vc (TS.PutOk (TS.new (9 : Int)) (El.mk (5 : Int) (5 : Int))) ∧ (false = false → Vc (TS.PutOk zz1 (El.mk (2 : Int) (2 : Int))) ∧ (false = false → Vc (TS.PutOk zz2 (El.mk (9 : Int) (9 : Int))) ∧ (false = true → Post (G (Value.bool false) [some (Sum.inr (Sum.inr (Sum.inr (Rt.tree zz3))))])) ∧ (false = false → Vc (TS.Few zz3) ∧ Vc (TS.Few (TS.first mayA zz3 (0 : Int))) ∧ (true = true → Vc (TS.Few zz4) ∧ (true = true → Post (G (Value.bool true) [some (Sum.inr (Sum.inr (Sum.inr (Rt.tree (TS.bet zz4 (1 : Int) (3 : Int))))))])) ∧ (true = false → Post (G (Value.bool false) [some (Sum.inr (Sum.inr (Sum.inr (Rt.tree (TS.bet zz4 (1 : Int) (3 : Int))))))]))) ∧ (true = false → Post (G (Value.bool false) [some (Sum.inr (Sum.inr (Sum.inr (Rt.tree zz4))))])))) ∧ (false = true → Post (G (Value.bool false) [some (Sum.inr (Sum.inr (Sum.inr (Rt.tree zz2))))]))) ∧ (false = true → Post (G (Value.bool false) [some (Sum.inr (Sum.inr (Sum.inr (Rt.tree zz1))))]))) ?_ (by kernel_rfl)
    intro zz1 zz2 zz3 zz4; subst zz4 zz3 zz2 zz1
    subst hG
    refine ⟨⟨trivial⟩, ⟨aw1⟩, fun _ => ⟨⟨aw2⟩, fun _ => ⟨⟨aw3⟩, (fun h => by cases h), fun _ => ⟨⟨awf⟩, ⟨few_first awf⟩, fun _ => ⟨⟨few_rank (few_first awf)⟩, fun _ => ⟨?_⟩, fun h => by cases h⟩, fun h => by cases h⟩⟩, fun h => by cases h⟩, fun h => by cases h⟩
    exact ⟨[], rfl, rfl, trivial, rfl, rfl, rfl, rfl⟩
  · cases hx
end Go.Proofs.Ytclagkjjgmeifaa.G7


/- grove: the law's made. -/
namespace Go.Proofs.Ytclagkjjgmeifaa.G7
open Go.Proofs.Ytclagkjjgmeifaa.Rx Go.Proofs.Ytclagkjjgmeifaa.D7
set_option linter.unusedVariables false
set_option linter.unusedSimpArgs false
set_option maxRecDepth 100000
set_option maxHeartbeats 16000000
theorem alike_T7 (s : TS) : T7 s.n (alikeM KK s.m s.r) s.r s.l s.c := (s.ok.alike (K := KK) s.k1 []).2.2
def TS.alike (s : TS) : TS := ⟨s.n, alikeM KK s.m s.r, s.r, s.l, s.c, alike_T7 s⟩
theorem alikeB_eq (s : TS) (xk xw : List Int) : alikeB KK s.m s.r xk xw = sameC (ks s.l) (wsL s.l) xk xw := by
  obtain ⟨d, m', e1, e2⟩ := s.ok.all (K := KK) s.k1
  have hg : gaM KK s.m s.r = (s.l, m') := e1
  unfold alikeB
  rw [hg]
  simp only
  rw [e2.nn]
  unfold sameC
  rw [← Bool.decide_and, decide_eq_decide]
  constructor
  · exact fun h => h.2
  · rintro ⟨h1, h2⟩
    refine ⟨?_, h1, h2⟩
    rw [← h1]
    simp
def talikeP : Prim Rt := fun args hh => match args, hh with
  | [.pointer (some ⟨0, 0, none⟩), .slice (some ⟨1, 0, some 2000⟩) n c], [some (.inr (.inr (.inr (.tree s)))), some (.inr (.inr (.inl ⟨[.int .i64 0, .int .i64 0], n', [⟨xk, [], []⟩, ⟨xw, [], []⟩]⟩)))] => some ⟨s.Few ∧ n = xk.length ∧ n' = xk.length ∧ xw.length = xk.length, .bool (sameC (ks s.l) (wsL s.l) xk xw), none, [oT s.alike, some (.inr (.inr (.inl ⟨[.int .i64 0, .int .i64 0], n', [⟨xk, [], []⟩, ⟨xw, [], []⟩]⟩)))], [], [(0, 0)]⟩
  | _, _ => none
theorem talike_ok : ConOk D2 Try.prog 21 (con1 talikeP) := by
  refine res_up (c := con1 (alikeP KK)) (alike_ok KK) fun args hh x hx => ?_
  unfold talikeP at hx
  split at hx
  · rename_i n c s n' xk xw
    injection hx with hx
    subst hx
    refine ⟨Nat.le_refl _, noLit rfl, (fun hw => by cases hw), fun hv => ⟨⟨_, .inl ⟨rfl, rfl⟩, rfl, ?_, ?_, ?_⟩, rfl, rfl⟩⟩
    · exact ⟨s.pp hv.1, (s.ok.alike (K := KK) s.k1 []).1, hv.2⟩
    · rfl
    · exact congrArg Value.bool (alikeB_eq s xk xw)
  · cases hx
def madeS (mo : Int) (xi xk xw : List Int) : Nat → TS
  | 0 => TS.new mo
  | i + 1 => if (xi.getD i 0).tmod 3 = 1 then (madeS mo xi xk xw i).drop ⟨xk.getD i 0, 0⟩ else (madeS mo xi xk xw i).put ⟨xk.getD i 0, xw.getD i 0⟩
/-- an act's tree -/
structure MadeOk (mo : Int) (i : Nat) (s : TS) : Prop where
  n : s.n = i
  c : s.c = min (max mo 0) 16777216
  len : s.l.length ≤ i
  fit : (s.l.length : Int) ≤ s.c
theorem TS.putL_len (s : TS) (e : El) (h : (s.l.length : Int) ≤ s.c) : (s.putL e).length ≤ s.l.length + 1 ∧ ((s.putL e).length : Int) ≤ s.c := by
  unfold TS.putL
  by_cases hb : s.putB e = true
  · rw [if_pos hb, Gv.put_len, hitE7_some]
    unfold TS.putB at hb
    cases hh : hitC (ks s.l) e.k with
    | true => simp; omega
    | false =>
      rw [hh] at hb
      simp at hb
      simp
      omega
  · rw [if_neg hb]
    omega
theorem dropE_le (e : El) (l : List El) : (Gv.dropE O7 e l).length ≤ l.length := by
  have := Gv.drop_len (O := O7) (e := e) (l := l)
  split at this <;> omega
theorem made_ok {mo : Int} {xi xk xw : List Int} (hk : xk.length = xi.length) (hw : xw.length = xi.length) (hl : xi.length ≤ 400) (hm : Mild xw) : ∀ i, i ≤ xi.length → MadeOk mo i (madeS mo xi xk xw i)
  | 0, _ => ⟨rfl, rfl, Nat.le_refl _, show ((0 : Nat) : Int) ≤ min (max mo 0) 16777216 by omega⟩
  | i + 1, hi => by
    obtain ⟨h1, h2, h3, h4⟩ := made_ok hk hw hl hm i (by omega)
    rw [madeS]
    split
    · refine ⟨congrArg (· + 1) h1, h2, ?_, ?_⟩
      · exact Nat.le_trans (dropE_le _ _) (by omega)
      · have := dropE_le ⟨xk.getD i 0, 0⟩ (madeS mo xi xk xw i).l
        exact Int.le_trans (Int.ofNat_le.2 this) h4
    · have hb := hm.b _ (getD_mem (d := 0) (show i < xw.length by omega))
      have hp : (madeS mo xi xk xw i).PutOk ⟨xk.getD i 0, xw.getD i 0⟩ := ⟨by omega, by omega, hb.1, hb.2⟩
      have hl := (madeS mo xi xk xw i).putL_len ⟨xk.getD i 0, xw.getD i 0⟩ h4
      refine ⟨by rw [TS.put_n hp, h1], by rw [TS.put_c hp, h2], ?_, ?_⟩
      · rw [TS.put_l hp]; omega
      · rw [TS.put_l hp, TS.put_c hp]; exact hl.2
def TM7 : Tab Rt := [(11, liftC zN 2 (con1 tnewP)), (13, liftC zN 2 (con1 tputP)), (15, liftC zN 2 (con1 tdropP)),
  (14, liftC zN 2 putsC), (16, liftC zN 2 dropsC), (21, liftV zY2 2 (con1 talikeP))]
theorem TM7_ok : TabOk D2 Try.prog TM7 := ⟨liftC_ok _ _ tnew_ok, liftC_ok _ _ tput_ok, liftC_ok _ _ tdrop_ok, liftC_ok _ _ D7.puts_ok, liftC_ok _ _ D7.drops_ok, liftV_ok _ _ talike_ok, trivial⟩
def madeP : Prim Rt := fun args hh => match args, hh with
  | [.slice (some ⟨0, 0, some 3000⟩) n c, .int .i64 mo], [some (.inr (.inr (.inl ⟨[.int .i64 0, .int .i64 0, .int .i64 0], n', [⟨xi, [], []⟩, ⟨xk, [], []⟩, ⟨xw, [], []⟩]⟩)))] => some ⟨n = xi.length ∧ n' = xi.length ∧ xk.length = xi.length ∧ xw.length = xi.length ∧ xi.length ≤ 400 ∧ Mild xw,
    .tuple ⟨[.pointer (some ⟨1, 0, none⟩), .slice (some ⟨2, 0, some 2000⟩) (madeS mo xi xk xw xi.length).l.length 0, .bool true]⟩, none, [vA xi xk xw, oT (madeS mo xi xk xw xi.length).alike, rE (ks (madeS mo xi xk xw xi.length).l) (wsL (madeS mo xi xk xw xi.length).l)], [], [(0, 0)]⟩
  | _, _ => none
theorem made_run_ok : ConOk D2 Try.prog 22 (con1 madeP) := by
  refine con1_ok (prim_at (fn := Try.f22) (root := codeOf Try.f22) (by kernel_rfl) (by kernel_rfl) (by kernel_rfl) fun args hh x hx => ?_)
  unfold madeP at hx
  split at hx
  · rename_i n c mo n' xi xk xw
    injection hx with hx
    subst hx
    refine ⟨Nat.le_add_left 1 2, noLit rfl, (fun hw => by cases hw), fun _ hv => ?_⟩
    obtain ⟨rfl, rfl, hk, hw, hl, hm⟩ := hv
    generalize hG : Rx.Ends (R := Rt) _ _ = G
    refine rx_okQ (T := TM7) TM7_ok mixed 200 (q := let zz1 := Value.int IntKind.i64; Vc True ∧ At D2 Try.prog (codeOf Try.f22) 1 (retK Try.prog (Array.toList (Func.results Try.f22)) G) [Sum.inl [1, 1, 1, 0, 1, 0], Sum.inr (Sum.inl 0), Sum.inl [1, 1, 1, 1]] (SS.mk [some (Value.slice (some (Addr.mk 0 0 (some 3000))) (List.length xi) c), some (zz1 mo), none, none, some (Value.pointer none), some (Value.slice (some (Addr.mk 1 0 (some 2000))) 0 0), some (Value.bool false), some (Value.pointer (some (Addr.mk 2 0 none))), some (Value.slice (some (Addr.mk 3 0 (some 2000))) 0 0), some (zz1 0), none, none, none, none, some (zz1 mo), some (Value.pointer (some (Addr.mk 2 0 none))), none, none, none, none, none, none, none, none, none, none, none, none, none, none, none, none, none, none, none, none, none, none, none, none, none, none, none, none, none, none, none, none, none, none, none, none, none, none, none, none, none, none, none, none, none, none, none, none, none, none, none, none, none, none, none, none] [(6, false)] [some (Sum.inr (Sum.inr (Sum.inl (Row.mk [zz1 0, zz1 0, zz1 0] (List.length xi) [Col.mk xi [] [], Col.mk xk [] [], Col.mk xw [] []])))), some (Sum.inr (Sum.inl (38, Row.mk [zz1 0, zz1 0] 0 [Col.mk [] [] [], Col.mk [] [] []]))), some (Sum.inr (Sum.inr (Sum.inr (Rt.tree (TS.new mo))))), some (Sum.inr (Sum.inl (38, Row.mk [zz1 0, zz1 0] 0 [Col.mk [] [] [], Col.mk [] [] []])))])) ?_ (by kernel_rfl)
    intro zz1; subst zz1
    refine ⟨⟨trivial⟩, ?_⟩
    refine loop_atM (by kernel_rfl) (ι := Nat) (fun i => i ≤ xi.length) [0, 1, 7, 8, 9] (fun i => [.slice (some ⟨0, 0, some 3000⟩) xi.length c, .int .i64 mo, .pointer (some ⟨1, 0, none⟩), .slice (some ⟨2, 0, some 2000⟩) (madeS mo xi xk xw i).l.length 0, .int .i64 i])
      (fun i => [vA xi xk xw, oT (madeS mo xi xk xw i), rE (ks (madeS mo xi xk xw i).l) (wsL (madeS mo xi xk xw i).l)]) (fun i => xi.length - i) 72 (fun i hi => ⟨rfl, rfl, by simp⟩) ⟨0, Nat.zero_le _, ⟨[0, 2, 3], rfl, ⟨rfl, rfl, ⟨_, rfl, .inl rfl⟩, trivial⟩, rfl, rfl, rfl, rfl⟩⟩ fun i hi => ?_
    refine rx_okQ (T := TM7) TM7_ok mixed 200 (q := let zz15 := Value.pointer (some (Addr.mk 1 0 none)); let zz16 := Value.int IntKind.i64; let zz1 := (List.length xi); let zz2 := (Int.tmod (List.getD xi (0 + Int.toNat (↑i : Int)) (0 : Int)) (3 : Int) == (1 : Int)); let zz3 := (madeS mo xi xk xw i); let zz4 := (ks (TS.l zz3)); let zz5 := (List.getD xk (0 + Int.toNat (↑i : Int)) (0 : Int)); let zz6 := (wsL (TS.l zz3)); let zz7 := (fits ((↑i : Int) + (1 : Int))); let zz8 := (Value.slice (some (Addr.mk 0 0 (some 3000))) zz1 c); let zz9 := (zz16 mo); let zz10 := (zz15); let zz11 := (zz16 ((↑i : Int) + (1 : Int))); let zz12 := (List.getD xw (0 + Int.toNat (↑i : Int)) (0 : Int)); let zz13 := (List.length (TS.l zz3)); let zz14 := (Value.tuple (Array.mk [zz15, Value.slice (some (Addr.mk 2 0 (some 2000))) zz13 0, Value.bool false])); (decide ((↑i : Int) < (↑zz1 : Int)) = true → Vc ((0 : Int) ≤ (↑i : Int) ∧ (↑i : Int) < (↑zz1 : Int) ∧ 0 + List.length xi ≤ List.length xi) ∧ Vc (0 + Int.toNat (↑i : Int) < List.length xi) ∧ Vc ((3 : Int) ≠ (0 : Int)) ∧ (zz2 = true → Vc (TS.Few zz3) ∧ (hitC zz4 zz5 = true → Vc (List.length (TS.l zz3) = List.length zz4 ∧ List.length zz4 = List.length zz4 ∧ List.length zz6 = List.length zz4 ∧ List.length zz4 ≤ 100000) ∧ Vc zz7 ∧ Post (∃ j, j ≤ List.length xi ∧ List.length xi - j < List.length xi - i ∧ FitsM Rt 1 72 [0, 1, 7, 8, 9] [Value.slice (some (Addr.mk 0 0 (some 3000))) zz1 c, zz16 mo, zz15, Value.slice (some (Addr.mk 2 0 (some 2000))) (List.length (TS.l (madeS mo xi xk xw j))) 0, zz16 (↑j : Int)] [vA xi xk xw, oT (madeS mo xi xk xw j), rE (ks (TS.l (madeS mo xi xk xw j))) (wsL (TS.l (madeS mo xi xk xw j)))] [some zz8, some zz9, some zz10, some (Value.slice (some (Addr.mk 4 0 (some 2000))) (List.length (dropC1 zz4 (rkC zz4 zz5))) 0), some zz11] [some (Sum.inr (Sum.inr (Sum.inl (Row.mk [zz16 0, zz16 0, zz16 0] zz1 [Col.mk xi [] [], Col.mk xk [] [], Col.mk xw [] []])))), some (Sum.inr (Sum.inr (Sum.inr (Rt.tree (TS.drop zz3 (El.mk zz5 (0 : Int))))))), some (Sum.inr (Sum.inl (38, Row.mk [zz16 0, zz16 0] (List.length zz4) [Col.mk zz4 [] [], Col.mk zz6 [] []]))), some (Sum.inl (33, [zz16 (List.getD xi (0 + Int.toNat (↑i : Int)) (0 : Int)), zz16 zz5, zz16 zz12])), some (Sum.inr (Sum.inl (38, Row.mk [zz16 0, zz16 0] (List.length (dropC1 zz4 (rkC zz4 zz5))) [Col.mk (dropC1 zz4 (rkC zz4 zz5)) [] [], Col.mk (dropC1 zz6 (rkC zz4 zz5)) [] []])))] 72)) ∧ (hitC zz4 zz5 = false → Vc (List.length (TS.l zz3) = List.length zz4 ∧ List.length zz4 = List.length zz4 ∧ List.length zz6 = List.length zz4 ∧ List.length zz4 ≤ 100000) ∧ Vc zz7 ∧ Post (∃ j, j ≤ List.length xi ∧ List.length xi - j < List.length xi - i ∧ FitsM Rt 1 72 [0, 1, 7, 8, 9] [Value.slice (some (Addr.mk 0 0 (some 3000))) zz1 c, zz16 mo, zz15, Value.slice (some (Addr.mk 2 0 (some 2000))) (List.length (TS.l (madeS mo xi xk xw j))) 0, zz16 (↑j : Int)] [vA xi xk xw, oT (madeS mo xi xk xw j), rE (ks (TS.l (madeS mo xi xk xw j))) (wsL (TS.l (madeS mo xi xk xw j)))] [some zz8, some zz9, some zz10, some (Value.slice (some (Addr.mk 2 0 (some 2000))) zz13 0), some zz11] [some (Sum.inr (Sum.inr (Sum.inl (Row.mk [zz16 0, zz16 0, zz16 0] zz1 [Col.mk xi [] [], Col.mk xk [] [], Col.mk xw [] []])))), some (Sum.inr (Sum.inr (Sum.inr (Rt.tree (TS.drop zz3 (El.mk zz5 (0 : Int))))))), some (Sum.inr (Sum.inl (38, Row.mk [zz16 0, zz16 0] (List.length zz4) [Col.mk zz4 [] [], Col.mk zz6 [] []]))), some (Sum.inl (33, [zz16 (List.getD xi (0 + Int.toNat (↑i : Int)) (0 : Int)), zz16 zz5, zz16 zz12]))] 72))) ∧ (zz2 = false → Vc (TS.PutOk zz3 (El.mk zz5 zz12)) ∧ ((hitC zz4 zz5 || decide ((↑(List.length zz4) : Int) < mo)) = true → Vc (List.length (TS.l zz3) = List.length zz4 ∧ List.length zz4 = List.length zz4 ∧ List.length zz6 = List.length zz4 ∧ List.length zz4 ≤ 100000) ∧ ((!TS.putB zz3 (El.mk zz5 zz12) == true) = true → Post (G zz14 [some (Sum.inr (Sum.inr (Sum.inl (Row.mk [zz16 0, zz16 0, zz16 0] zz1 [Col.mk xi [] [], Col.mk xk [] [], Col.mk xw [] []])))), some (Sum.inr (Sum.inr (Sum.inr (Rt.tree (TS.put zz3 (El.mk zz5 zz12)))))), some (Sum.inr (Sum.inl (38, Row.mk [zz16 0, zz16 0] (List.length zz4) [Col.mk zz4 [] [], Col.mk zz6 [] []]))), some (Sum.inl (33, [zz16 (List.getD xi (0 + Int.toNat (↑i : Int)) (0 : Int)), zz16 zz5, zz16 zz12])), some (Sum.inr (Sum.inl (38, Row.mk [zz16 0, zz16 0] (List.length (putC zz4 (rkC zz4 zz5) (hitC zz4 zz5) zz5)) [Col.mk (putC zz4 (rkC zz4 zz5) (hitC zz4 zz5) zz5) [] [], Col.mk (putC zz6 (rkC zz4 zz5) (hitC zz4 zz5) zz12) [] []])))])) ∧ ((!TS.putB zz3 (El.mk zz5 zz12) == true) = false → Vc zz7 ∧ Post (∃ j, j ≤ List.length xi ∧ List.length xi - j < List.length xi - i ∧ FitsM Rt 1 72 [0, 1, 7, 8, 9] [Value.slice (some (Addr.mk 0 0 (some 3000))) zz1 c, zz16 mo, zz15, Value.slice (some (Addr.mk 2 0 (some 2000))) (List.length (TS.l (madeS mo xi xk xw j))) 0, zz16 (↑j : Int)] [vA xi xk xw, oT (madeS mo xi xk xw j), rE (ks (TS.l (madeS mo xi xk xw j))) (wsL (TS.l (madeS mo xi xk xw j)))] [some zz8, some zz9, some zz10, some (Value.slice (some (Addr.mk 4 0 (some 2000))) (List.length (putC zz4 (rkC zz4 zz5) (hitC zz4 zz5) zz5)) 0), some zz11] [some (Sum.inr (Sum.inr (Sum.inl (Row.mk [zz16 0, zz16 0, zz16 0] zz1 [Col.mk xi [] [], Col.mk xk [] [], Col.mk xw [] []])))), some (Sum.inr (Sum.inr (Sum.inr (Rt.tree (TS.put zz3 (El.mk zz5 zz12)))))), some (Sum.inr (Sum.inl (38, Row.mk [zz16 0, zz16 0] (List.length zz4) [Col.mk zz4 [] [], Col.mk zz6 [] []]))), some (Sum.inl (33, [zz16 (List.getD xi (0 + Int.toNat (↑i : Int)) (0 : Int)), zz16 zz5, zz16 zz12])), some (Sum.inr (Sum.inl (38, Row.mk [zz16 0, zz16 0] (List.length (putC zz4 (rkC zz4 zz5) (hitC zz4 zz5) zz5)) [Col.mk (putC zz4 (rkC zz4 zz5) (hitC zz4 zz5) zz5) [] [], Col.mk (putC zz6 (rkC zz4 zz5) (hitC zz4 zz5) zz12) [] []])))] 72))) ∧ ((hitC zz4 zz5 || decide ((↑(List.length zz4) : Int) < mo)) = false → Vc (List.length (TS.l zz3) = List.length zz4 ∧ List.length zz4 = List.length zz4 ∧ List.length zz6 = List.length zz4 ∧ List.length zz4 ≤ 100000) ∧ ((!TS.putB zz3 (El.mk zz5 zz12) == false) = true → Post (G zz14 [some (Sum.inr (Sum.inr (Sum.inl (Row.mk [zz16 0, zz16 0, zz16 0] zz1 [Col.mk xi [] [], Col.mk xk [] [], Col.mk xw [] []])))), some (Sum.inr (Sum.inr (Sum.inr (Rt.tree (TS.put zz3 (El.mk zz5 zz12)))))), some (Sum.inr (Sum.inl (38, Row.mk [zz16 0, zz16 0] (List.length zz4) [Col.mk zz4 [] [], Col.mk zz6 [] []]))), some (Sum.inl (33, [zz16 (List.getD xi (0 + Int.toNat (↑i : Int)) (0 : Int)), zz16 zz5, zz16 zz12]))])) ∧ ((!TS.putB zz3 (El.mk zz5 zz12) == false) = false → Vc zz7 ∧ Post (∃ j, j ≤ List.length xi ∧ List.length xi - j < List.length xi - i ∧ FitsM Rt 1 72 [0, 1, 7, 8, 9] [Value.slice (some (Addr.mk 0 0 (some 3000))) zz1 c, zz16 mo, zz15, Value.slice (some (Addr.mk 2 0 (some 2000))) (List.length (TS.l (madeS mo xi xk xw j))) 0, zz16 (↑j : Int)] [vA xi xk xw, oT (madeS mo xi xk xw j), rE (ks (TS.l (madeS mo xi xk xw j))) (wsL (TS.l (madeS mo xi xk xw j)))] [some zz8, some zz9, some zz10, some (Value.slice (some (Addr.mk 2 0 (some 2000))) zz13 0), some zz11] [some (Sum.inr (Sum.inr (Sum.inl (Row.mk [zz16 0, zz16 0, zz16 0] zz1 [Col.mk xi [] [], Col.mk xk [] [], Col.mk xw [] []])))), some (Sum.inr (Sum.inr (Sum.inr (Rt.tree (TS.put zz3 (El.mk zz5 zz12)))))), some (Sum.inr (Sum.inl (38, Row.mk [zz16 0, zz16 0] (List.length zz4) [Col.mk zz4 [] [], Col.mk zz6 [] []]))), some (Sum.inl (33, [zz16 (List.getD xi (0 + Int.toNat (↑i : Int)) (0 : Int)), zz16 zz5, zz16 zz12]))] 72))))) ∧ (decide ((↑i : Int) < (↑zz1 : Int)) = false → Vc ((0 + List.length (TS.l zz3) ≤ List.length zz4 ∧ True) ∧ TS.Few zz3 ∧ List.length (TS.l zz3) = List.length (cut zz4 0 zz13) ∧ List.length (TS.l zz3) = List.length (cut zz4 0 zz13) ∧ List.length (cut zz6 0 zz13) = List.length (cut zz4 0 zz13)) ∧ Post (G (Value.tuple (Array.mk [zz15, Value.slice (some (Addr.mk 2 0 (some 2000))) zz13 0, Value.bool (sameC zz4 zz6 (cut zz4 0 zz13) (cut zz6 0 zz13))])) [some (Sum.inr (Sum.inr (Sum.inl (Row.mk [zz16 0, zz16 0, zz16 0] zz1 [Col.mk xi [] [], Col.mk xk [] [], Col.mk xw [] []])))), some (Sum.inr (Sum.inr (Sum.inr (Rt.tree (TS.alike zz3))))), some (Sum.inr (Sum.inl (38, Row.mk [zz16 0, zz16 0] (List.length zz4) [Col.mk zz4 [] [], Col.mk zz6 [] []]))), none]))) ?_ (by kernel_rfl)
    intro zz15 zz16 zz1 zz2 zz3 zz4 zz5 zz6 zz7 zz8 zz9 zz10 zz11 zz12 zz13 zz14; subst zz14 zz13 zz12 zz11 zz10 zz9 zz8 zz7 zz6 zz5 zz4 zz3 zz2 zz1 zz16 zz15
    have e0 : 0 + (i : Int).toNat = i := by omega
    have c0 : cut (ks (madeS mo xi xk xw i).l) 0 (madeS mo xi xk xw i).l.length = ks (madeS mo xi xk xw i).l := cut_eq (by simp)
    have c1 : cut (wsL (madeS mo xi xk xw i).l) 0 (madeS mo xi xk xw i).l.length = wsL (madeS mo xi xk xw i).l := cut_eq (by simp)
    have l0 : (ks (madeS mo xi xk xw i).l).length = (madeS mo xi xk xw i).l.length := List.length_map ..
    have l1 : (wsL (madeS mo xi xk xw i).l).length = (madeS mo xi xk xw i).l.length := List.length_map ..
    simp only [e0, c0, c1]
    have hS := made_ok (mo := mo) hk hw hl hm i hi
    have hS1 := hS.n
    have hS2 := hS.c
    have hS3 := hS.len
    have hS4 := hS.fit
    have few : (madeS mo xi xk xw i).Few := by unfold TS.Few; omega
    have hp : i < xi.length → (madeS mo xi xk xw i).PutOk ⟨xk.getD i 0, xw.getD i 0⟩ := fun h => by
      have hb := hm.b _ (getD_mem (d := 0) (show i < xw.length by omega))
      exact ⟨by omega, by omega, hb.1, hb.2⟩
    have hB : (madeS mo xi xk xw i).putB ⟨xk.getD i 0, xw.getD i 0⟩ = (hitC (ks (madeS mo xi xk xw i).l) (xk.getD i 0) || decide (((ks (madeS mo xi xk xw i).l).length : Int) < mo)) := by
      unfold TS.putB
      congr 1
      rw [decide_eq_decide, l0]
      omega
    have fin4 : ∀ (s' : TS) (a b : List Int) (N : Nat) (B2 B3 : Option (SB Rt)), i < xi.length → madeS mo xi xk xw (i + 1) = s' → ks s'.l = a → wsL s'.l = b → ∃ j, j ≤ xi.length ∧ xi.length - j < xi.length - i ∧ FitsM Rt 1 72 [0, 1, 7, 8, 9] [.slice (some ⟨0, 0, some 3000⟩) xi.length c, .int .i64 mo, .pointer (some ⟨1, 0, none⟩), .slice (some ⟨2, 0, some 2000⟩) (madeS mo xi xk xw j).l.length 0, .int .i64 j]
        [vA xi xk xw, oT (madeS mo xi xk xw j), rE (ks (madeS mo xi xk xw j).l) (wsL (madeS mo xi xk xw j).l)] [some (.slice (some ⟨0, 0, some 3000⟩) xi.length c), some (.int .i64 mo), some (.pointer (some ⟨1, 0, none⟩)), some (.slice (some ⟨4, 0, some 2000⟩) a.length 0), some (.int .i64 ((i : Int) + 1))] [vA xi xk xw, oT s', B2, B3, rE a b] 72 := by
      intro s' a b N B2 B3 hlt hs ha hb
      subst hs ha hb
      refine ⟨i + 1, hlt, by omega, ⟨[0, 1, 4], ?_, ⟨rfl, rfl, ⟨_, rfl, .inl rfl⟩, trivial⟩, rfl, rfl, rfl, rfl⟩⟩
      rw [show (ks (madeS mo xi xk xw (i + 1)).l).length = (madeS mo xi xk xw (i + 1)).l.length from List.length_map ..]
      rfl
    have fin2 : ∀ (s' : TS) (B3 : Option (SB Rt)), i < xi.length → madeS mo xi xk xw (i + 1) = s' → s'.l = (madeS mo xi xk xw i).l → ∃ j, j ≤ xi.length ∧ xi.length - j < xi.length - i ∧ FitsM Rt 1 72 [0, 1, 7, 8, 9] [.slice (some ⟨0, 0, some 3000⟩) xi.length c, .int .i64 mo, .pointer (some ⟨1, 0, none⟩), .slice (some ⟨2, 0, some 2000⟩) (madeS mo xi xk xw j).l.length 0, .int .i64 j]
        [vA xi xk xw, oT (madeS mo xi xk xw j), rE (ks (madeS mo xi xk xw j).l) (wsL (madeS mo xi xk xw j).l)] [some (.slice (some ⟨0, 0, some 3000⟩) xi.length c), some (.int .i64 mo), some (.pointer (some ⟨1, 0, none⟩)), some (.slice (some ⟨2, 0, some 2000⟩) (madeS mo xi xk xw i).l.length 0), some (.int .i64 ((i : Int) + 1))] [vA xi xk xw, oT s', rE (ks (madeS mo xi xk xw i).l) (wsL (madeS mo xi xk xw i).l), B3] 72 := by
      intro s' B3 hlt hs ha
      subst hs
      rw [← ha]
      exact ⟨i + 1, hlt, by omega, ⟨[0, 1, 2], rfl, ⟨rfl, rfl, ⟨_, rfl, .inl rfl⟩, trivial⟩, rfl, rfl, rfl, rfl⟩⟩
    have stD : (xi.getD i 0).tmod 3 = 1 → madeS mo xi xk xw (i + 1) = (madeS mo xi xk xw i).drop ⟨xk.getD i 0, 0⟩ := fun h => by rw [madeS, if_pos h]
    have stP : ¬ (xi.getD i 0).tmod 3 = 1 → madeS mo xi xk xw (i + 1) = (madeS mo xi xk xw i).put ⟨xk.getD i 0, xw.getD i 0⟩ := fun h => by rw [madeS, if_neg h]
    refine ⟨fun h => ?_, fun h => ?_⟩
    · have hlt : i < xi.length := by have := of_decide_eq_true h; omega
      clear h
      have hp := hp hlt
      refine ⟨⟨by omega⟩, ⟨by omega⟩, ⟨by omega⟩, fun h3 => ?_, fun h3 => ?_⟩
      · have h3 : (xi.getD i 0).tmod 3 = 1 := eq_of_beq h3
        refine ⟨⟨few⟩, fun hh => ⟨⟨l0.symm, trivial, l1.trans l0.symm, by omega⟩, ⟨⟨by omega, by omega⟩⟩, ⟨?_⟩⟩, fun hh => ⟨⟨l0.symm, trivial, l1.trans l0.symm, by omega⟩, ⟨⟨by omega, by omega⟩⟩, ⟨?_⟩⟩⟩
        · exact fin4 _ _ _ 0 _ _ hlt (stD h3) (dropE_ks (e := ⟨xk.getD i 0, 0⟩) hh) (dropE_ws (e := ⟨xk.getD i 0, 0⟩) hh)
        · exact fin2 _ _ hlt (stD h3) (dropE_no (e := ⟨xk.getD i 0, 0⟩) hh)
      · have h3 : ¬ (xi.getD i 0).tmod 3 = 1 := ne_of_beq_false h3
        refine ⟨⟨hp⟩, fun hh => ⟨⟨l0.symm, trivial, l1.trans l0.symm, by omega⟩, fun h4 => ?_, fun h4 => ⟨⟨⟨by omega, by omega⟩⟩, ⟨?_⟩⟩⟩, fun hh => ⟨⟨l0.symm, trivial, l1.trans l0.symm, by omega⟩, fun h4 => ?_, fun h4 => ⟨⟨⟨by omega, by omega⟩⟩, ⟨?_⟩⟩⟩⟩
        · rw [hB, hh] at h4; cases h4
        · have hl5 : ((madeS mo xi xk xw i).put ⟨xk.getD i 0, xw.getD i 0⟩).l = Gv.putE O7 ⟨xk.getD i 0, xw.getD i 0⟩ (madeS mo xi xk xw i).l := by rw [TS.put_l hp, TS.putL, hB, if_pos hh]
          exact fin4 _ _ _ 0 _ _ hlt (stP h3) (by rw [hl5]; exact putE_ks ..) (by rw [hl5]; exact putE_ws ..)
        · rw [hB, hh] at h4; cases h4
        · have hl5 : ((madeS mo xi xk xw i).put ⟨xk.getD i 0, xw.getD i 0⟩).l = (madeS mo xi xk xw i).l := by rw [TS.put_l hp, TS.putL, hB, hh, if_neg (by decide)]
          exact fin2 _ _ hlt (stP h3) hl5
    · obtain rfl : i = xi.length := by have := of_decide_eq_false h; omega
      subst hG
      refine ⟨⟨⟨by omega, trivial⟩, few, by simp, by simp, by simp⟩, ⟨?_⟩⟩
      rw [show sameC (ks (madeS mo xi xk xw xi.length).l) (wsL (madeS mo xi xk xw xi.length).l) (ks (madeS mo xi xk xw xi.length).l) (wsL (madeS mo xi xk xw xi.length).l) = true from decide_eq_true ⟨rfl, rfl⟩]
      exact ⟨[0, 1, 2], rfl, rfl, ⟨rfl, rfl, ⟨_, rfl, .inl rfl⟩, trivial⟩, rfl, rfl, rfl, rfl⟩
  · cases hx
end Go.Proofs.Ytclagkjjgmeifaa.G7


