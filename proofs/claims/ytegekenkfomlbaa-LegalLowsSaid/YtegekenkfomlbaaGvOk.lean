/- grove: its functions leave the pool sound. -/
import Derived.Test.YtegekenkfomlbaaGvFn
namespace Go.Proofs.Ytegekenkfomlbaa.Gv
open Go.Proofs.Ytegekenkfomlbaa.Rx
set_option linter.unusedVariables false
set_option linter.unusedSimpArgs false
set_option linter.unusedSectionVars false
section
variable {N : Type}
structure Sam (m m' : PM N) : Prop where
  gens : m'.gens = m.gens
  live : m'.live = m.live
  free : m'.free = m.free
  held : m'.held = m.held
  cap : m'.cap = m.cap
  len : m'.vs.length = m.vs.length
theorem Sam.refl (m : PM N) : Sam m m := ⟨rfl, rfl, rfl, rfl, rfl, rfl⟩
theorem Sam.trans {a b c : PM N} (h : Sam a b) (k : Sam b c) : Sam a c := ⟨k.gens.trans h.gens, k.live.trans h.live, k.free.trans h.free, k.held.trans h.held, k.cap.trans h.cap, k.len.trans h.len⟩
theorem Sam.ok {n : Nat} {m m' : PM N} (h : Sam m m') : POk n m' ↔ POk n m := by
  constructor
  · intro ⟨h1, h2, h3, h3', h4, h5, h6, h6', h8⟩
    exact ⟨by rw [← h.gens, ← h.len, h1], by rw [← h.live, ← h.len, h2], by rw [← h.free, ← h.len, ← h.live]; exact h3, by rw [← h.free]; exact h3', by rw [← h.len]; exact h4, by rw [← h.free]; exact h5, by rw [← h.gens]; exact h6, by rw [← h.gens, ← h.live]; exact h6', by rw [← h.held]; exact h8⟩
  · intro ⟨h1, h2, h3, h3', h4, h5, h6, h6', h8⟩
    exact ⟨by rw [h.gens, h.len, h1], by rw [h.live, h.len, h2], by rw [h.free, h.len, h.live]; exact h3, by rw [h.free]; exact h3', by rw [h.len]; exact h4, by rw [h.free]; exact h5, by rw [h.gens]; exact h6, by rw [h.gens, h.live]; exact h6', by rw [h.held]; exact h8⟩
theorem Sam.see (m : PM N) (r : Ref) : Sam m (see m r) := by unfold Gv.see; split <;> exact ⟨rfl, rfl, rfl, rfl, rfl, rfl⟩
theorem Sam.put1 (m : PM N) (r : Ref) (n : N) : Sam m (put1 m r n) := by
  unfold Gv.put1
  split
  · exact ⟨rfl, rfl, rfl, rfl, rfl, by simp⟩
  · exact Sam.refl m
end
section
variable {E A : Type} (O : Ops E A)
theorem Sam.setN (m : Po E A) (r : Ref) (n l q : Node E A) : Sam m (setN O m r n l q) := Sam.put1 _ _ _
theorem Sam.tie (m : Po E A) (r : Ref) (n : Node E A) : Sam m (tie O m r n) := ((Sam.see _ _).trans (Sam.see _ _)).trans (Sam.setN O _ _ _ _ _)
theorem Sam.turnL (m : Po E A) (r : Ref) (n : Node E A) : Sam m (turnL O m r n) := ((Sam.see _ _).trans (Sam.tie O _ _ _)).trans (Sam.tie O _ _ _)
theorem Sam.turnR (m : Po E A) (r : Ref) (n : Node E A) : Sam m (turnR O m r n) := ((Sam.see _ _).trans (Sam.tie O _ _ _)).trans (Sam.tie O _ _ _)
theorem Sam.see4 (m : PM (Node E A)) (a b c d : Ref) : Sam m (Gv.see (Gv.see (Gv.see (Gv.see m a) b) c) d) := (((Sam.see _ _).trans (Sam.see _ _)).trans (Sam.see _ _)).trans (Sam.see _ _)
theorem Sam.level (m : Po E A) (r : Ref) (n : Node E A) : Sam m (level O m r n).2 := by
  unfold Gv.level
  split
  · split
    · exact ((Sam.see4 _ _ _ _ _).trans (Sam.turnL O _ _ _)).trans (Sam.turnR O _ _ _)
    · exact (Sam.see4 _ _ _ _ _).trans (Sam.turnR O _ _ _)
  · split
    · split
      · exact ((Sam.see4 _ _ _ _ _).trans (Sam.turnR O _ _ _)).trans (Sam.turnL O _ _ _)
      · exact (Sam.see4 _ _ _ _ _).trans (Sam.turnL O _ _ _)
    · exact ((Sam.see _ _).trans (Sam.see _ _)).trans (Sam.setN O _ _ _ _ _)
theorem Sam.replace : ∀ (k : Nat) (m : Po E A) (r : Ref) (e : E), Sam m (replace O k m r e).2
  | 0, m, _, _ => Sam.refl m
  | k + 1, m, r, e => by
    unfold Gv.replace
    split
    · exact Sam.see _ _
    · split
      · split
        · exact ((Sam.see _ _).trans (Sam.replace k _ _ _)).trans (Sam.tie O _ _ _)
        · exact (Sam.see _ _).trans (Sam.replace k _ _ _)
      · split
        · split
          · exact ((Sam.see _ _).trans (Sam.replace k _ _ _)).trans (Sam.tie O _ _ _)
          · exact (Sam.see _ _).trans (Sam.replace k _ _ _)
        · exact (Sam.see _ _).trans (Sam.tie O _ _ _)
theorem Sam.hang : ∀ (k : Nat) (m : Po E A) (r f : Ref) (e : E), Sam m (hang O k m r f e).2
  | 0, m, _, _, _ => Sam.refl m
  | k + 1, m, r, f, e => by
    unfold Gv.hang
    split
    · exact Sam.see _ _
    · split
      · exact ((Sam.see _ _).trans (Sam.hang k _ _ _ _)).trans (Sam.level O _ _ _)
      · exact ((Sam.see _ _).trans (Sam.hang k _ _ _ _)).trans (Sam.level O _ _ _)
theorem Sam.link : ∀ (k : Nat) (m : Po E A) (a b c : Ref), Sam m (link O k m a b c).2
  | 0, m, _, _, _ => Sam.refl m
  | k + 1, m, a, b, c => by
    unfold Gv.link
    split
    · exact (((Sam.see _ _).trans (Sam.see _ _)).trans (Sam.link k _ _ _ _)).trans (Sam.level O _ _ _)
    · split
      · exact (((Sam.see _ _).trans (Sam.see _ _)).trans (Sam.link k _ _ _ _)).trans (Sam.level O _ _ _)
      · exact (((Sam.see _ _).trans (Sam.see _ _)).trans (Sam.see _ _)).trans (Sam.setN O _ _ _ _ _)
theorem Sam.pickF : ∀ (k : Nat) (m : Po E A) (r : Ref), Sam m (pickF O k m r).2.2
  | 0, m, _ => Sam.refl m
  | k + 1, m, r => by
    unfold Gv.pickF
    split
    · exact Sam.see _ _
    · exact ((Sam.see _ _).trans (Sam.pickF k _ _)).trans (Sam.level O _ _ _)
theorem Sam.glue (k : Nat) (m : Po E A) (a c : Ref) : Sam m (glue O k m a c).2 := by
  unfold Gv.glue
  split
  · exact Sam.refl m
  · exact (Sam.pickF O _ _ _).trans (Sam.link O _ _ _ _ _)
theorem Sam.pick (K : Nat) : ∀ (k : Nat) (m : Po E A) (r : Ref) (e : E), Sam m (pick O K k m r e).2.2
  | 0, m, _, _ => Sam.refl m
  | k + 1, m, r, e => by
    unfold Gv.pick
    split
    · exact Sam.see _ _
    · split
      · split
        · exact (Sam.see _ _).trans (Sam.pick K k _ _ _)
        · exact ((Sam.see _ _).trans (Sam.pick K k _ _ _)).trans (Sam.level O _ _ _)
      · split
        · split
          · exact (Sam.see _ _).trans (Sam.pick K k _ _ _)
          · exact ((Sam.see _ _).trans (Sam.pick K k _ _ _)).trans (Sam.level O _ _ _)
        · exact (Sam.see _ _).trans (Sam.glue O _ _ _ _)
theorem Sam.cutF (K : Nat) : ∀ (k : Nat) (m : Po E A) (r : Ref) (e : E), Sam m (cutF O K k m r e).2.2
  | 0, m, _, _ => Sam.refl m
  | k + 1, m, r, e => by
    unfold Gv.cutF
    split
    · exact Sam.see _ _
    · split
      · exact ((Sam.see _ _).trans (Sam.cutF K k _ _ _)).trans (Sam.link O _ _ _ _ _)
      · exact ((Sam.see _ _).trans (Sam.cutF K k _ _ _)).trans (Sam.link O _ _ _ _ _)
theorem Sam.gather : ∀ (k : Nat) (m : Po E A) (r : Ref), Sam m (gather O k m r).2
  | 0, m, _ => Sam.refl m
  | k + 1, m, r => by
    unfold Gv.gather
    split
    · exact Sam.see _ _
    · exact ((Sam.see _ _).trans (Sam.gather k _ _)).trans (Sam.gather k _ _)
theorem Sam.between : ∀ (k : Nat) (m : Po E A) (n : Node E A) (a b : Int), Sam m (between O k m n a b).2
  | 0, m, _, _, _ => Sam.refl m
  | k + 1, m, n, a, b => by
    unfold Gv.between
    split
    · exact Sam.refl m
    · split
      · exact Sam.refl m
      · dsimp only
        split
        · exact (Sam.see _ _).trans (Sam.between k _ _ _ _)
        · exact (((Sam.see _ _).trans (Sam.between k _ _ _ _)).trans (Sam.see _ _)).trans (Sam.between k _ _ _ _)
theorem Sam.first (may : A → A → Bool) : ∀ (k : Nat) (m : Po E A) (n : Node E A) (a : Part A) (f : Int), Sam m (first O may k m n a f).2
  | 0, m, _, _, _ => Sam.refl m
  | k + 1, m, n, a, f => by
    unfold Gv.first
    split
    · exact Sam.refl m
    · split
      · exact Sam.refl m
      · split
        · exact (Sam.see _ _).trans (Sam.first may k _ _ _ _)
        · split
          · exact (Sam.see _ _).trans (Sam.first may k _ _ _ _)
          · exact (((Sam.see _ _).trans (Sam.first may k _ _ _ _)).trans (Sam.see _ _)).trans (Sam.first may k _ _ _ _)
theorem Sam.last (may : A → A → Bool) : ∀ (k : Nat) (m : Po E A) (n : Node E A) (a : Part A) (f : Int), Sam m (last O may k m n a f).2
  | 0, m, _, _, _ => Sam.refl m
  | k + 1, m, n, a, f => by
    unfold Gv.last
    split
    · exact Sam.refl m
    · split
      · exact Sam.refl m
      · dsimp only
        split
        · exact ((Sam.see _ _).trans (Sam.see _ _)).trans (Sam.last may k _ _ _ _)
        · split
          · exact ((Sam.see _ _).trans (Sam.see _ _)).trans (Sam.last may k _ _ _ _)
          · exact (((Sam.see _ _).trans (Sam.see _ _)).trans (Sam.last may k _ _ _ _)).trans (Sam.last may k _ _ _ _)
end
section
variable {N E A : Type} {O : Ops E A} {n : Nat}
theorem see_ok {m : PM N} {r : Ref} : POk n (see m r) ↔ POk n m := (Sam.see _ _).ok
theorem put1_ok {m : PM N} {r : Ref} {v : N} : POk n (put1 m r v) ↔ POk n m := (Sam.put1 _ _ _).ok
theorem setN_ok {m : Po E A} {r : Ref} {v l q : Node E A} : POk n (setN O m r v l q) ↔ POk n m := (Sam.setN O _ _ _ _ _).ok
theorem tie_ok {m : Po E A} {r : Ref} {v : Node E A} : POk n (tie O m r v) ↔ POk n m := (Sam.tie O _ _ _).ok
theorem turnL_ok {m : Po E A} {r : Ref} {v : Node E A} : POk n (turnL O m r v) ↔ POk n m := (Sam.turnL O _ _ _).ok
theorem turnR_ok {m : Po E A} {r : Ref} {v : Node E A} : POk n (turnR O m r v) ↔ POk n m := (Sam.turnR O _ _ _).ok
theorem level_ok {m : Po E A} {r : Ref} {v : Node E A} : POk n (level O m r v).2 ↔ POk n m := (Sam.level O _ _ _).ok
theorem replace_ok {k : Nat} {m : Po E A} {r : Ref} {e : E} : POk n (replace O k m r e).2 ↔ POk n m := (Sam.replace O _ _ _ _).ok
theorem hang_ok {k : Nat} {m : Po E A} {r f : Ref} {e : E} : POk n (hang O k m r f e).2 ↔ POk n m := (Sam.hang O _ _ _ _ _).ok
theorem link_ok {k : Nat} {m : Po E A} {a b c : Ref} : POk n (link O k m a b c).2 ↔ POk n m := (Sam.link O _ _ _ _ _).ok
theorem pickF_ok {k : Nat} {m : Po E A} {r : Ref} : POk n (pickF O k m r).2.2 ↔ POk n m := (Sam.pickF O _ _ _).ok
theorem glue_ok {k : Nat} {m : Po E A} {a c : Ref} : POk n (glue O k m a c).2 ↔ POk n m := (Sam.glue O _ _ _ _).ok
theorem pick_ok {K k : Nat} {m : Po E A} {r : Ref} {e : E} : POk n (pick O K k m r e).2.2 ↔ POk n m := (Sam.pick O K _ _ _ _).ok
theorem cutF_ok {K k : Nat} {m : Po E A} {r : Ref} {e : E} : POk n (cutF O K k m r e).2.2 ↔ POk n m := (Sam.cutF O K _ _ _ _).ok
theorem gather_ok {k : Nat} {m : Po E A} {r : Ref} : POk n (gather O k m r).2 ↔ POk n m := (Sam.gather O _ _ _).ok
theorem between_ok {k : Nat} {m : Po E A} {v : Node E A} {a b : Int} : POk n (between O k m v a b).2 ↔ POk n m := (Sam.between O _ _ _ _ _).ok
theorem first_ok {may : A → A → Bool} {k : Nat} {m : Po E A} {v : Node E A} {a : Part A} {f : Int} : POk n (first O may k m v a f).2 ↔ POk n m := (Sam.first O may _ _ _ _ _).ok
theorem last_ok {may : A → A → Bool} {k : Nat} {m : Po E A} {v : Node E A} {a : Part A} {f : Int} : POk n (last O may k m v a f).2 ↔ POk n m := (Sam.last O may _ _ _ _ _).ok
@[simp] theorem lk_see (m : Po E A) (s r : Ref) : lk O (see m s) r = lk O m r := look_see _ _ _ _
theorem ref_eta (r : Ref) : (⟨r.i, r.g⟩ : Ref) = r := rfl
theorem eq0 (i g : Int) : (if false = true then !(i == 0 && (g == 0 && true)) else i == 0 && (g == 0 && true)) = decide ((⟨i, g⟩ : Ref) = r0) := by
  rw [if_neg (by simp)]
  by_cases h : (⟨i, g⟩ : Ref) = r0
  · rw [decide_eq_true h]
    cases h
    rfl
  · rw [decide_eq_false h]
    cases hb : (i == 0 && (g == 0 && true)) with
    | false => rfl
    | true =>
      simp only [Bool.and_eq_true, beq_iff_eq, and_true] at hb
      obtain ⟨rfl, rfl⟩ := hb
      exact absurd rfl h
theorem Deep_see : ∀ {k : Nat} {m : Po E A} {s r : Ref}, Deep O k (see m s) r ↔ Deep O k m r
  | 0, _, _, _ => Iff.rfl
  | k + 1, m, s, r => by simp only [Deep, lk_see, Deep_see]
theorem PickFD_see : ∀ {k : Nat} {m : Po E A} {s r : Ref}, PickFD O k (see m s) r ↔ PickFD O k m r
  | 0, _, _, _ => Iff.rfl
  | k + 1, m, s, r => by simp only [PickFD, lk_see, PickFD_see]
theorem lk_gather : ∀ (k : Nat) (m : Po E A) (r s : Ref), lk O (gather O k m r).2 s = lk O m s
  | 0, m, _, _ => rfl
  | k + 1, m, r, s => by
    unfold Gv.gather
    split
    · exact lk_see _ _ _
    · dsimp only
      rw [lk_gather k, lk_gather k, lk_see]
theorem lk_between : ∀ (k : Nat) (m : Po E A) (n : Node E A) (a b : Int) (s : Ref), lk O (between O k m n a b).2 s = lk O m s
  | 0, m, _, _, _, _ => rfl
  | k + 1, m, n, a, b, s => by
    rw [Gv.between]
    split
    · rfl
    · split
      · rfl
      · dsimp only
        split
        · dsimp only
          rw [lk_between k, lk_see]
        · dsimp only
          rw [lk_between k, lk_see, lk_between k, lk_see]
theorem lk_first (may : A → A → Bool) : ∀ (k : Nat) (m : Po E A) (n : Node E A) (a : Part A) (f : Int) (s : Ref), lk O (first O may k m n a f).2 s = lk O m s
  | 0, m, _, _, _, _ => rfl
  | k + 1, m, n, a, f, s => by
    rw [Gv.first]
    split
    · rfl
    · split
      · rfl
      · split
        · rw [lk_first may k, lk_see]
        · split
          · dsimp only
            rw [lk_first may k, lk_see]
          · rw [lk_first may k, lk_see, lk_first may k, lk_see]
theorem lk_last (may : A → A → Bool) : ∀ (k : Nat) (m : Po E A) (n : Node E A) (a : Part A) (f : Int) (s : Ref), lk O (last O may k m n a f).2 s = lk O m s
  | 0, m, _, _, _, _ => rfl
  | k + 1, m, n, a, f, s => by
    rw [Gv.last]
    split
    · rfl
    · split
      · rfl
      · dsimp only
        split
        · rw [lk_last may k, lk_see, lk_see]
        · split
          · dsimp only
            rw [lk_last may k, lk_see, lk_see]
          · rw [lk_last may k, lk_last may k, lk_see, lk_see]
theorem Deep_of : ∀ {k : Nat} {m m' : Po E A} {r : Ref}, (∀ s, lk O m' s = lk O m s) → (Deep O k m' r ↔ Deep O k m r)
  | 0, _, _, _, _ => Iff.rfl
  | k + 1, m, m', r, h => by simp only [Deep, h, Deep_of h]
theorem Deep_gather {k j : Nat} {m : Po E A} {q r : Ref} : Deep O k (gather O j m q).2 r ↔ Deep O k m r := Deep_of (lk_gather j m q)
theorem Deep_first {may : A → A → Bool} {k j : Nat} {m : Po E A} {n : Node E A} {a : Part A} {f : Int} {r : Ref} : Deep O k (first O may j m n a f).2 r ↔ Deep O k m r := Deep_of (lk_first may j m n a f)
theorem Deep_last {may : A → A → Bool} {k j : Nat} {m : Po E A} {n : Node E A} {a : Part A} {f : Int} {r : Ref} : Deep O k (last O may j m n a f).2 r ↔ Deep O k m r := Deep_of (lk_last may j m n a f)
end
end Go.Proofs.Ytegekenkfomlbaa.Gv
