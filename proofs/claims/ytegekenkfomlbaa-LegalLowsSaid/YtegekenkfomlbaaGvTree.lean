/- grove: pools of nodes, and the trees in them, as plain data. -/
import Derived.Test.YtegekenkfomlbaaRxP
namespace Go.Proofs.Ytegekenkfomlbaa.Gv
open Go.Proofs.Ytegekenkfomlbaa.Rx
set_option linter.unusedVariables false
set_option linter.unusedSimpArgs false
abbrev W (n : Int) : Int := IntKind.i64.wrap n
theorem W_of {n : Int} (h : -9223372036854775808 ≤ n ∧ n ≤ 9223372036854775807) : W n = n := fits_wrap ⟨h.1, h.2⟩
theorem W_W (a b : Int) : W (W a + b) = W (a + b) := by
  unfold W
  rw [IntKind.wrap_i64, IntKind.wrap_i64, IntKind.wrap_i64]
  omega
/-- a handle -/
structure Ref where
  i : Int
  g : Int
instance : DecidableEq Ref := fun a b => decidable_of_iff (a.i = b.i ∧ a.g = b.g) ⟨fun h => by cases a; cases b; cases h.1; cases h.2; rfl, fun h => by cases h; exact ⟨rfl, rfl⟩⟩
def r0 : Ref := ⟨0, 0⟩
/-- a pool: the cells' values, Gens, whether held; the free ones, the next one last -/
structure PM (N : Type) where
  vs : List N
  gens : List Int
  live : List Bool
  free : List Int
  held : Int
  cap : Int
  visits : Int
section
variable {N : Type}
def has (m : PM N) (r : Ref) : Bool := decide (0 ≤ r.i) && decide (r.i < m.vs.length) && m.live.getD r.i.toNat false && decide (m.gens.getD r.i.toNat 0 = r.g)
def look (z : N) (m : PM N) (r : Ref) : N := if has m r then m.vs.getD r.i.toNat z else z
def seen (m : PM N) : PM N := { m with visits := W (m.visits + 1) }
def see (m : PM N) (r : Ref) : PM N := if has m r then seen m else m
def put1 (m : PM N) (r : Ref) (n : N) : PM N := if has m r then { seen m with vs := m.vs.set r.i.toNat n } else m
def nextIdx (m : PM N) : Int := if m.free.length = 0 then (m.vs.length : Int) else m.free.getD (m.free.length - 1) 0
def nextPM (z : N) (m : PM N) : PM N := if m.free.length = 0 then { m with vs := m.vs ++ [z], gens := m.gens ++ [0], live := m.live ++ [false] } else { m with free := m.free.take (m.free.length - 1) }
def putG (z : N) (m : PM N) : Int := (nextPM z m).gens.getD (nextIdx m).toNat 0 + 1
def put (z : N) (m : PM N) (v : N) : PM N :=
  if m.held = m.cap then m else
    { nextPM z m with vs := (nextPM z m).vs.set (nextIdx m).toNat v, live := (nextPM z m).live.set (nextIdx m).toNat true, gens := (nextPM z m).gens.set (nextIdx m).toNat (putG z m), held := m.held + 1 }
def putR (z : N) (m : PM N) : Ref := if m.held = m.cap then r0 else ⟨nextIdx m, putG z m⟩
def drop (z : N) (m : PM N) (r : Ref) : PM N :=
  if has m r then { seen m with vs := m.vs.set r.i.toNat z, live := m.live.set r.i.toNat false, held := m.held - 1, free := if m.gens.getD r.i.toNat 0 < 4294967295 then m.free ++ [r.i] else m.free } else m
/-- a pool that is sound, all of whose numbers are at most n -/
structure POk (n : Nat) (m : PM N) : Prop where
  gens : m.gens.length = m.vs.length
  live : m.live.length = m.vs.length
  inn : ∀ f ∈ m.free, 0 ≤ f ∧ f < m.vs.length ∧ m.live.getD f.toNat false = false
  nod : m.free.Nodup
  cells : m.vs.length ≤ n
  frees : m.free.length ≤ n
  gen : ∀ g ∈ m.gens, 0 ≤ g ∧ g ≤ n
  pos : ∀ i, m.live.getD i false = true → 1 ≤ m.gens.getD i 0
  hld : -n ≤ m.held ∧ m.held ≤ n
theorem POk.mono {m : PM N} {n k : Nat} (h : POk n m) (hk : n ≤ k) : POk k m := by
  obtain ⟨h1, h2, h3, h3', h4, h5, h6, h6', h8⟩ := h
  exact ⟨h1, h2, h3, h3', by omega, by omega, fun g hg => by have := h6 g hg; omega, h6', by omega⟩
theorem has_spec {m : PM N} {r : Ref} (h : has m r = true) : 0 ≤ r.i ∧ r.i < m.vs.length ∧ m.live.getD r.i.toNat false = true ∧ m.gens.getD r.i.toNat 0 = r.g := by
  simp only [has, Bool.and_eq_true, decide_eq_true_eq] at h
  obtain ⟨⟨⟨w1, w2⟩, w3⟩, w4⟩ := h
  exact ⟨w1, w2, w3, w4⟩
theorem has_iff {m : PM N} {r : Ref} : has m r = true ↔ 0 ≤ r.i ∧ r.i < m.vs.length ∧ m.live.getD r.i.toNat false = true ∧ m.gens.getD r.i.toNat 0 = r.g := by
  simp only [has, Bool.and_eq_true, decide_eq_true_eq, and_assoc]
theorem POk.z0 {m : PM N} {n : Nat} (h : POk n m) : has m r0 = false := by
  cases hh : has m r0 with
  | false => rfl
  | true =>
    obtain ⟨_, _, w3, w4⟩ := has_spec hh
    have := h.pos _ w3
    rw [w4] at this
    simp [r0] at this
theorem gens_bound {l : List Int} {i n : Nat} (h : ∀ g ∈ l, 0 ≤ g ∧ g ≤ (n : Int)) : 0 ≤ l.getD i 0 ∧ l.getD i 0 ≤ n := by
  rcases Nat.lt_or_ge i l.length with hl | hl
  · exact h _ (getD_mem hl)
  · rw [List.getD_eq_getElem?_getD, List.getElem?_eq_none hl]
    simp
@[simp] theorem has_seen (m : PM N) (r : Ref) : has (seen m) r = has m r := rfl
@[simp] theorem look_seen (z : N) (m : PM N) (r : Ref) : look z (seen m) r = look z m r := rfl
@[simp] theorem has_see (m : PM N) (s r : Ref) : has (see m s) r = has m r := by unfold see; split <;> rfl
@[simp] theorem look_see (z : N) (m : PM N) (s r : Ref) : look z (see m s) r = look z m r := by unfold see; split <;> rfl
/-- what behind m is as m, but for the nodes in S; at most k handles found -/
structure Upd (S : List Ref) (k : Nat) (z : N) (m m' : PM N) : Prop where
  gens : m'.gens = m.gens
  live : m'.live = m.live
  free : m'.free = m.free
  held : m'.held = m.held
  cap : m'.cap = m.cap
  len : m'.vs.length = m.vs.length
  look : ∀ r, r ∉ S → look z m' r = look z m r
  vis : ∃ j : Nat, j ≤ k ∧ (m'.visits = m.visits ∧ j = 0 ∨ m'.visits = W (m.visits + j))
theorem Upd.has {S : List Ref} {k : Nat} {z : N} {m m' : PM N} (h : Upd S k z m m') (r : Ref) : has m' r = has m r := by
  unfold Gv.has
  rw [h.len, h.live, h.gens]
theorem Upd.refl (S : List Ref) (k : Nat) (z : N) (m : PM N) : Upd S k z m m := ⟨rfl, rfl, rfl, rfl, rfl, rfl, fun _ _ => rfl, 0, Nat.zero_le _, .inl ⟨rfl, rfl⟩⟩
theorem Upd.trans {S S' : List Ref} {k k' : Nat} {z : N} {a b c : PM N} (h : Upd S k z a b) (h' : Upd S' k' z b c) : Upd (S ++ S') (k + k') z a c := by
  refine ⟨h'.gens.trans h.gens, h'.live.trans h.live, h'.free.trans h.free, h'.held.trans h.held, h'.cap.trans h.cap, h'.len.trans h.len, fun r hr => ?_, ?_⟩
  · rw [List.mem_append, not_or] at hr
    rw [h'.look r hr.2, h.look r hr.1]
  · obtain ⟨j, hj, e⟩ := h.vis
    obtain ⟨j', hj', e'⟩ := h'.vis
    refine ⟨j + j', by omega, ?_⟩
    rcases e with ⟨e, rfl⟩ | e <;> rcases e' with ⟨e', rfl⟩ | e'
    · exact .inl ⟨e'.trans e, rfl⟩
    · right; rw [e', e]; congr 1; omega
    · right; rw [e', e]; congr 1
    · right; rw [e', e, W_W]; congr 1; omega
theorem Upd.mono {S S' : List Ref} {k k' : Nat} {z : N} {a b : PM N} (h : Upd S k z a b) (hS : ∀ r, r ∈ S → r ∈ S') (hk : k ≤ k') : Upd S' k' z a b := by
  obtain ⟨j, hj, e⟩ := h.vis
  exact ⟨h.gens, h.live, h.free, h.held, h.cap, h.len, fun r hr => h.look r (fun hr' => hr (hS r hr')), j, Nat.le_trans hj hk, e⟩
theorem Upd.to {S S1 S2 : List Ref} {k k1 k2 : Nat} {z : N} {a b c : PM N} (h : Upd S1 k1 z a b) (h' : Upd S2 k2 z b c) (hS : ∀ r, r ∈ S1 ∨ r ∈ S2 → r ∈ S) (hk : k1 + k2 ≤ k) : Upd S k z a c :=
  (h.trans h').mono (fun r hr => hS r (List.mem_append.1 hr)) hk
theorem Upd.ok {S : List Ref} {k n : Nat} {z : N} {m m' : PM N} (h : Upd S k z m m') (ho : POk n m) : POk n m' := by
  obtain ⟨h1, h2, h3, h3', h4, h5, h6, h6', h8⟩ := ho
  exact ⟨by rw [h.gens, h.len, h1], by rw [h.live, h.len, h2], by rw [h.free, h.len, h.live]; exact h3, by rw [h.free]; exact h3', by rw [h.len]; exact h4, by rw [h.free]; exact h5, by rw [h.gens]; exact h6, by rw [h.gens, h.live]; exact h6', by rw [h.held]; exact h8⟩
theorem see_upd (z : N) (m : PM N) (r : Ref) : Upd [] 1 z m (see m r) := by
  refine ⟨?_, ?_, ?_, ?_, ?_, ?_, fun s _ => look_see z m r s, ?_⟩
  all_goals unfold see; split
  all_goals first | rfl | exact ⟨1, Nat.le_refl _, .inr rfl⟩ | exact ⟨0, Nat.zero_le _, .inl ⟨rfl, rfl⟩⟩
theorem ref_of_idx {m : PM N} {r s : Ref} (hr : has m r = true) (hs : has m s = true) (h : r.i.toNat = s.i.toNat) : r = s := by
  obtain ⟨a1, a2, a3, a4⟩ := has_spec hr
  obtain ⟨b1, b2, b3, b4⟩ := has_spec hs
  cases r; cases s
  simp only [Ref.mk.injEq] at *
  refine ⟨by omega, ?_⟩
  rw [← a4, ← b4, h]
theorem put1_upd (z : N) (m : PM N) (r : Ref) (n : N) : Upd [r] 1 z m (put1 m r n) := by
  by_cases h : has m r = true
  · have e : put1 m r n = { seen m with vs := m.vs.set r.i.toNat n } := by unfold put1; rw [if_pos h]
    refine ⟨by rw [e]; rfl, by rw [e]; rfl, by rw [e]; rfl, by rw [e]; rfl, by rw [e]; rfl, by rw [e]; simp, fun s hs => ?_, 1, Nat.le_refl _, .inr (by rw [e]; rfl)⟩
    have hne : s ≠ r := by simpa using hs
    have hh : has (put1 m r n) s = has m s := by rw [e]; simp only [has, seen, List.length_set]; rfl
    unfold look
    rw [hh]
    split
    · rename_i h2
      rw [e]
      simp only
      rw [getD_set, if_neg]
      intro ⟨h3, _⟩
      exact hne (ref_of_idx h2 h h3.symm)
    · rfl
  · have e : put1 m r n = m := by unfold put1; rw [if_neg h]
    rw [e]
    exact Upd.refl _ _ _ _
theorem look_put1 (z : N) {m : PM N} {r : Ref} (n : N) (h : has m r = true) : look z (put1 m r n) r = n := by
  have hh := (put1_upd z m r n).has r
  unfold look
  rw [hh, if_pos h]
  unfold put1
  rw [if_pos h]
  simp only
  obtain ⟨a1, a2, _, _⟩ := has_spec h
  rw [getD_set, if_pos ⟨rfl, by omega⟩]
theorem nextIdx_ok {m : PM N} {n : Nat} (z : N) (h : POk n m) : 0 ≤ nextIdx m ∧ nextIdx m < (nextPM z m).vs.length ∧ m.live.getD (nextIdx m).toNat false = false ∧ (nextPM z m).live.getD (nextIdx m).toNat false = false ∧ (nextPM z m).live.length = (nextPM z m).vs.length ∧ (nextPM z m).gens.length = (nextPM z m).vs.length := by
  unfold nextIdx nextPM
  by_cases h0 : m.free.length = 0
  · rw [if_pos h0, if_pos h0]
    simp only [List.length_append, List.length_singleton]
    have h1 := h.live
    have h2 := h.gens
    refine ⟨by omega, by omega, ?_, ?_, by omega, by omega⟩
    · rw [List.getD_eq_getElem?_getD, List.getElem?_eq_none (by omega)]; rfl
    · rw [getD_append1, if_pos (by omega)]
  · rw [if_neg h0, if_neg h0]
    obtain ⟨a, b, c⟩ := h.inn _ (getD_mem (d := 0) (i := m.free.length - 1) (by omega))
    exact ⟨a, b, c, c, h.live, h.gens⟩
theorem next_look (z : N) {m : PM N} {n : Nat} (h : POk n m) (r : Ref) (hr : has m r = true) : (nextPM z m).vs.getD r.i.toNat z = m.vs.getD r.i.toNat z ∧ (nextPM z m).live.getD r.i.toNat false = true ∧ (nextPM z m).gens.getD r.i.toNat 0 = r.g ∧ r.i < (nextPM z m).vs.length := by
  obtain ⟨a1, a2, a3, a4⟩ := has_spec hr
  have h1 := h.live
  have h2 := h.gens
  unfold nextPM
  split
  · simp only [getD_append1, List.length_append, List.length_singleton]
    rw [if_neg (by omega), if_neg (by omega), if_neg (by omega)]
    exact ⟨rfl, a3, a4, by omega⟩
  · exact ⟨rfl, a3, a4, a2⟩
/-- a node more: its handle is new, all others are as they were -/
structure Put1 (z : N) (m m' : PM N) (r : Ref) (v : N) : Prop where
  new : has m r = false
  has : has m' r = true
  look : look z m' r = v
  old : ∀ s, Gv.has m s = true → Gv.has m' s = true ∧ Gv.look z m' s = Gv.look z m s
  held : m'.held = m.held + 1
  cap : m'.cap = m.cap
  vis : m'.visits = m.visits
theorem put_ok {m : PM N} {n : Nat} (z : N) (h : POk n m) (hc : m.held ≠ m.cap) (v : N) : Put1 z m (put z m v) (putR z m) v ∧ POk (n + 1) (put z m v) := by
  obtain ⟨a, b, c, c', d, e⟩ := nextIdx_ok z h
  have ep : put z m v = { nextPM z m with vs := (nextPM z m).vs.set (nextIdx m).toNat v, live := (nextPM z m).live.set (nextIdx m).toNat true, gens := (nextPM z m).gens.set (nextIdx m).toNat (putG z m), held := m.held + 1 } := by unfold put; rw [if_neg hc]
  have er : putR z m = ⟨nextIdx m, putG z m⟩ := by unfold putR; rw [if_neg hc]
  have hnew : has (put z m v) (putR z m) = true := by
    rw [has_iff, er, ep]
    simp only [List.length_set, getD_set]
    refine ⟨a, b, ?_, ?_⟩
    · rw [if_pos (by first | exact ⟨rfl, by omega⟩ | exact ⟨trivial, by omega⟩)]
    · rw [if_pos (by first | exact ⟨rfl, by omega⟩ | exact ⟨trivial, by omega⟩)]
  have hold : ∀ s, has m s = true → has (put z m v) s = true ∧ look z (put z m v) s = look z m s := by
    intro s hs
    obtain ⟨q1, q2, q3, q4⟩ := next_look z h s hs
    obtain ⟨s1, s2, s3, s4⟩ := has_spec hs
    have hne : ¬ (nextIdx m).toNat = s.i.toNat := by intro e2; rw [e2, s3] at c; cases c
    have hh : has (put z m v) s = true := by
      rw [has_iff, ep]
      simp only [List.length_set, getD_set]
      rw [if_neg (fun x => hne x.1), if_neg (fun x => hne x.1)]
      exact ⟨s1, q4, q2, q3⟩
    refine ⟨hh, ?_⟩
    unfold look
    rw [if_pos hh, if_pos hs, ep]
    simp only [getD_set]
    rw [if_neg (fun x => hne x.1), q1]
  refine ⟨⟨?_, hnew, ?_, hold, ?_, ?_, ?_⟩, ?_⟩
  · cases hh : has m (putR z m) with
    | false => rfl
    | true =>
      obtain ⟨_, _, s3, _⟩ := has_spec hh
      rw [er] at s3
      rw [s3] at c
      cases c
  · unfold look
    rw [if_pos hnew, er, ep]
    simp only [getD_set]
    rw [if_pos (by first | exact ⟨rfl, by omega⟩ | exact ⟨trivial, by omega⟩)]
  · rw [ep]
  · rw [ep]; simp only [nextPM]; split <;> rfl
  · rw [ep]; simp only [nextPM]; split <;> rfl
  · obtain ⟨h1, h2, h3, h3', h4, h5, h6, h6', h8⟩ := h
    have hgb := gens_bound (i := (nextIdx m).toNat) h6
    have hpg : 1 ≤ putG z m ∧ putG z m ≤ n + 1 := by
      unfold putG nextPM
      split
      · simp only [getD_append1]
        split
        · omega
        · omega
      · simp only; omega
    rw [ep]
    refine ⟨by simp only [List.length_set]; exact e, by simp only [List.length_set]; exact d, ?_, ?_, ?_, ?_, ?_, ?_, by simp only; omega⟩
    · intro f hf
      have hff : f ∈ m.free ∧ f ≠ nextIdx m ∧ ¬ m.free.length = 0 := by
        simp only at hf
        unfold nextPM at hf
        split at hf
        · rename_i h0
          simp only at hf
          rw [List.eq_nil_of_length_eq_zero h0] at hf
          cases hf
        · rename_i h0
          simp only at hf
          refine ⟨List.mem_of_mem_take hf, ?_, h0⟩
          intro e2
          unfold nextIdx at e2
          rw [if_neg h0] at e2
          subst e2
          have hsplit : m.free = m.free.take (m.free.length - 1) ++ [m.free.getD (m.free.length - 1) 0] := by
            have := take_succ_getD (l := m.free) (i := m.free.length - 1) 0 (by omega)
            rw [← this, List.take_of_length_le (by omega)]
          rw [hsplit, List.nodup_append] at h3'
          exact h3'.2.2 _ hf _ (List.mem_singleton_self _) rfl
      obtain ⟨k1, k2, k3⟩ := h3 f hff.1
      simp only [List.length_set, getD_set]
      have hne : ¬ (nextIdx m).toNat = f.toNat := fun e2 => hff.2.1 (by omega)
      rw [if_neg (fun x => hne x.1)]
      have e3 : (nextPM z m).live = m.live ∧ (nextPM z m).vs = m.vs := by unfold nextPM; rw [if_neg hff.2.2]; exact ⟨rfl, rfl⟩
      rw [e3.1, e3.2]
      exact ⟨k1, k2, k3⟩
    · simp only
      unfold nextPM
      split
      · exact h3'
      · exact (List.take_sublist _ _).nodup h3'
    · simp only [List.length_set]
      unfold nextPM
      split
      · simp only [List.length_append, List.length_singleton]; omega
      · simp only; omega
    · simp only
      unfold nextPM
      split
      · simp only; omega
      · simp only [List.length_take]; omega
    · intro g hg
      simp only at hg
      rcases List.mem_or_eq_of_mem_set hg with hg | hg
      · unfold nextPM at hg
        split at hg
        · simp only at hg
          rcases List.mem_append.1 hg with hg | hg
          · have := h6 g hg; omega
          · simp at hg; omega
        · have := h6 g hg; omega
      · omega
    · intro i hi
      simp only [getD_set] at hi ⊢
      by_cases hx : (nextIdx m).toNat = i
      · rw [if_pos ⟨hx, by omega⟩]; omega
      · rw [if_neg (fun x => hx x.1)] at hi ⊢
        unfold nextPM at hi ⊢
        split at hi
        · rename_i h0
          rw [if_pos h0]
          simp only [getD_append1] at hi ⊢
          split at hi
          · cases hi
          · rename_i h00
            have := h6' i hi
            rw [if_neg (by omega)]
            exact this
        · rename_i h0
          rw [if_neg h0]
          exact h6' i hi
/-- a node less -/
theorem drop_ok {m : PM N} {n : Nat} (z : N) (h : POk n m) {r : Ref} (hr : has m r = true) : POk (n + 1) (drop z m r) ∧ (∀ s, s ≠ r → has (drop z m r) s = has m s ∧ look z (drop z m r) s = look z m s) ∧ has (drop z m r) r = false ∧ (drop z m r).held = m.held - 1 ∧ (drop z m r).cap = m.cap ∧ (drop z m r).visits = W (m.visits + 1) := by
  obtain ⟨r1, r2, r3, r4⟩ := has_spec hr
  obtain ⟨h1, h2, h3, h3', h4, h5, h6, h6', h8⟩ := h
  have e : drop z m r = { seen m with vs := m.vs.set r.i.toNat z, live := m.live.set r.i.toNat false, held := m.held - 1, free := if m.gens.getD r.i.toNat 0 < 4294967295 then m.free ++ [r.i] else m.free } := by unfold drop; rw [if_pos hr]
  have hrn : r.i ∉ m.free := fun hf => by
    obtain ⟨_, _, k⟩ := h3 _ hf
    rw [r3] at k; cases k
  refine ⟨⟨?_, ?_, ?_, ?_, ?_, ?_, ?_, ?_, ?_⟩, ?_, ?_, by rw [e], by rw [e]; rfl, by rw [e]; rfl⟩
  · rw [e]; simp only [List.length_set]; exact h1
  · rw [e]; simp only [List.length_set]; exact h2
  · rw [e]
    simp only [List.length_set, getD_set]
    intro f hf
    have hh : f = r.i ∨ f ∈ m.free := by
      split at hf
      · rcases List.mem_append.1 hf with hf | hf
        · exact .inr hf
        · exact .inl (by simpa using hf)
      · exact .inr hf
    rcases hh with rfl | hf
    · exact ⟨r1, r2, by rw [if_pos (by first | exact ⟨rfl, by omega⟩ | exact ⟨trivial, by omega⟩)]⟩
    · obtain ⟨k1, k2, k3⟩ := h3 f hf
      refine ⟨k1, k2, ?_⟩
      split
      · rfl
      · exact k3
  · rw [e]
    simp only
    split
    · rw [List.nodup_append]
      refine ⟨h3', List.nodup_cons.2 ⟨by simp, List.nodup_nil⟩, fun a ha b hb => ?_⟩
      have : b = r.i := by simpa using hb
      subst this
      exact fun e2 => hrn (e2 ▸ ha)
    · exact h3'
  · rw [e]; simp only [List.length_set]; omega
  · rw [e]
    simp only
    split
    · simp only [List.length_append, List.length_singleton]; omega
    · omega
  · rw [e]; simp only [seen]; intro g hg; have := h6 g hg; omega
  · rw [e]
    simp only [seen, getD_set]
    intro i hi
    split at hi
    · cases hi
    · exact h6' i hi
  · rw [e]; simp only; omega
  · intro s hs
    have hh : has (drop z m r) s = has m s := by
      rw [e]
      unfold has
      simp only [List.length_set, seen, getD_set]
      by_cases hx : r.i.toNat = s.i.toNat ∧ r.i.toNat < m.live.length
      · rw [if_pos hx]
        by_cases hs2 : has m s = true
        · exact absurd (ref_of_idx hs2 hr hx.1.symm) hs
        · have hs3 : has m s = false := by simpa using hs2
          unfold has at hs3
          rw [hs3]; simp
      · rw [if_neg hx]; rfl
    refine ⟨hh, ?_⟩
    unfold look
    rw [hh]
    split
    · rename_i h2
      rw [e]
      simp only [getD_set]
      rw [if_neg]
      intro ⟨h3, _⟩
      exact hs (ref_of_idx h2 hr h3.symm)
    · rfl
  · cases hh : has (drop z m r) r with
    | false => rfl
    | true =>
      obtain ⟨_, _, k, _⟩ := has_spec hh
      rw [e] at k
      simp only [getD_set] at k
      rw [if_pos (by first | exact ⟨rfl, by omega⟩ | exact ⟨trivial, by omega⟩)] at k
      cases k
end
end Go.Proofs.Ytegekenkfomlbaa.Gv
