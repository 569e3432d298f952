/- tag: tables as lists: what they hold, and what the maps and the words of their memory are then. Nothing of the program. -/
import Derived.Test.YtobdpddamdkabaaDoorTgRes
namespace Go.Proofs.YtobdpddamdkabaaDoor.Tg
set_option linter.unusedVariables false
structure Md where
  cap : Int
  ser : Int
  la : List Int
  l : List Ls
def maxG : Int := 4294967295
/-- the place of a time, of a handle; one more, in its place; is there one in a slot, of an ID -/
def atI (l : List Ls) (t : Int) : Nat := l.findIdx (fun x => x.tm == t)
def ofI (l : List Ls) (ix gn : Int) : Nat := l.findIdx (fun x => x.ix == ix && x.gn == gn)
def addL (l : List Ls) (x : Ls) : List Ls := l.takeWhile (fun y => decide (y.tm < x.tm)) ++ x :: l.dropWhile (fun y => decide (y.tm < x.tm))
def slotB (l : List Ls) (i : Int) : Bool := l.any (fun x => x.ix == i)
def idB (l : List Ls) (i : Int) : Bool := l.any (fun x => x.id == i)
def tmB (l : List Ls) (t : Int) : Bool := l.any (fun x => x.tm == t)
/-- the least slot that may be had -/
def frS (l : List Ls) : List Int → Nat → Nat
  | [], i => i
  | g :: r, i => if slotB l i = true ∨ maxG ≤ g then frS l r (i + 1) else i
/-- by a key: how many, and what is there -/
def byKey {α : Type} (key : Ls → Int) (val : Ls → α) (l : List Ls) : Mp α := ⟨l.length, fun k => (l.find? (fun x => key x == k)).map val⟩
theorem byKey_nil {α : Type} (key : Ls → Int) (val : Ls → α) : byKey key val [] = m0 := rfl
section
variable {α : Type} {key : Ls → Int} {val : Ls → α} {l : List Ls} {x : Ls}
theorem find_in (a b : List Ls) (k : Int) (hx : ∀ y ∈ a ++ b, key y ≠ key x) : (a ++ x :: b).find? (fun y => key y == k) = if k = key x then some x else (a ++ b).find? (fun y => key y == k) := by
  rw [List.find?_append, List.find?_append, List.find?_cons]
  by_cases hk : k = key x
  · subst hk
    have ha : a.find? (fun y => key y == key x) = none := List.find?_eq_none.2 fun y hy => by
      have := hx y (List.mem_append_left _ hy); simp [this]
    simp [ha]
  · have : (key x == k) = false := beq_eq_false_iff_ne.2 fun e => hk e.symm
    simp [this, hk]
theorem add_parts (l : List Ls) (x : Ls) : ∃ a b, l = a ++ b ∧ addL l x = a ++ x :: b := ⟨_, _, (List.takeWhile_append_dropWhile).symm, rfl⟩
theorem byKey_add (hx : ∀ y ∈ l, key y ≠ key x) : mput (byKey key val l) (key x) (val x) = byKey key val (addL l x) := by
  obtain ⟨a, b, rfl, e⟩ := add_parts l x
  rw [e]
  have hn : (a ++ b).find? (fun y => key y == key x) = none := List.find?_eq_none.2 fun y hy => by have := hx y hy; simp [this]
  unfold mput byKey
  simp only [hn, Option.map_none, Mp.mk.injEq]
  refine ⟨by simp; omega, funext fun k => ?_⟩
  rw [find_in a b k hx]
  split <;> rfl
theorem erase_parts {i : Nat} (h : l[i]? = some x) : ∃ a b, l = a ++ x :: b ∧ l.eraseIdx i = a ++ b ∧ a.length = i := by
  obtain ⟨hi, rfl⟩ := List.getElem?_eq_some_iff.1 h
  exact ⟨l.take i, l.drop (i + 1), by rw [← List.drop_eq_getElem_cons hi, List.take_append_drop], List.eraseIdx_eq_take_drop_succ _ _, by rw [List.length_take]; omega⟩
theorem pw_mid {a b : List Ls} (hd : (a ++ x :: b).Pairwise (fun a b => key a ≠ key b)) : ∀ y ∈ a ++ b, key y ≠ key x := by
  intro y hy
  obtain ⟨h1, h2, h3⟩ := List.pairwise_append.1 hd
  rcases List.mem_append.1 hy with h | h
  · exact h3 y h _ (List.mem_cons_self ..)
  · exact fun e => (List.pairwise_cons.1 h2).1 y h e.symm
theorem byKey_del {i : Nat} (hi : l[i]? = some x) (hd : l.Pairwise (fun a b => key a ≠ key b)) : mdel (byKey key val l) (key x) = byKey key val (l.eraseIdx i) := by
  obtain ⟨a, b, rfl, e2, _⟩ := erase_parts hi
  have hx := pw_mid hd
  rw [e2]
  have hf : (a ++ x :: b).find? (fun y => key y == key x) = some x := by rw [find_in _ _ _ hx, if_pos rfl]
  unfold mdel byKey
  simp only [hf, Option.map_some, Mp.mk.injEq]
  refine ⟨by simp, funext fun k => ?_⟩
  rw [find_in _ _ _ hx]
  by_cases hk : k = key x
  · rw [if_pos hk, hk]
    have : (a ++ b).find? (fun y => key y == key x) = none := List.find?_eq_none.2 fun y hy => by have := hx y hy; simp [this]
    rw [this]; rfl
  · rw [if_neg hk, if_neg hk]
theorem put_del (m : Mp α) (k : Int) (a : α) (h : (m.f k).isSome = true) (hn : 0 < m.n) : mput m k a = mput (mdel m k) k a := by
  unfold mput mdel
  cases hf : m.f k with
  | none => rw [hf] at h; cases h
  | some b =>
    simp only [if_true, Mp.mk.injEq]
    refine ⟨by omega, funext fun j => ?_⟩
    by_cases hj : j = k <;> simp [hj]
theorem byKey_some (hd : l.Pairwise (fun a b => key a ≠ key b)) (hx : x ∈ l) : (byKey key val l).f (key x) = some (val x) := by
  obtain ⟨a, b, rfl⟩ := List.append_of_mem hx
  have hx' : ∀ y ∈ a ++ b, key y ≠ key x := by
    intro y hy
    obtain ⟨h1, h2, h3⟩ := List.pairwise_append.1 hd
    rcases List.mem_append.1 hy with h | h
    · exact h3 y h _ (List.mem_cons_self ..)
    · exact fun e => (List.pairwise_cons.1 h2).1 y h e.symm
  show ((a ++ x :: b).find? (fun y => key y == key x)).map val = _
  rw [find_in _ _ _ hx', if_pos rfl]; rfl
theorem byKey_none {k : Int} : (byKey key val l).f k = none ↔ ∀ y ∈ l, key y ≠ k := by
  show (l.find? (fun y => key y == k)).map val = none ↔ _
  rw [Option.map_eq_none_iff, List.find?_eq_none]
  simp
theorem byKey_isSome {k : Int} : ((byKey key val l).f k).isSome = l.any (fun x => key x == k) := by
  show ((l.find? (fun y => key y == k)).map val).isSome = _
  rw [Option.isSome_map]
  induction l with
  | nil => rfl
  | cons y r ih =>
    rw [List.find?_cons, List.any_cons]
    cases hy : (key y == k)
    · simpa using ih
    · rfl
theorem byKey_get {k : Int} {v : α} (h : (byKey key val l).f k = some v) : ∃ y ∈ l, key y = k ∧ val y = v := by
  have h' : (l.find? (fun y => key y == k)).map val = some v := h
  cases hf : l.find? (fun y => key y == k) with
  | none => rw [hf] at h'; cases h'
  | some y =>
    rw [hf] at h'
    injection h' with h'
    exact ⟨y, List.mem_of_find?_eq_some hf, by simpa using List.find?_some hf, h'⟩
end
/-- what must hold of a table -/
structure MOk (m : Md) : Prop where
  cap0 : 0 ≤ m.cap
  cap1 : m.cap ≤ 65536
  ser0 : 0 ≤ m.ser
  len : (m.l.length : Int) ≤ m.cap
  srt : m.l.Pairwise (fun a b => a.tm < b.tm)
  ix : m.l.Pairwise (fun a b => a.ix ≠ b.ix)
  id : m.l.Pairwise (fun a b => a.id ≠ b.id)
  each : ∀ x ∈ m.l, 0 ≤ x.ix ∧ x.ix < m.la.length ∧ 1 ≤ x.gn ∧ x.gn ≤ m.la.getD x.ix.toNat 0 ∧ 0 ≤ x.id ∧ x.id < m.ser ∧ Rx.fits x.tm
  las : ∀ g ∈ m.la, 0 ≤ g ∧ g ≤ maxG
/-- what must hold of its words -/
structure WOk (m : Md) (wo : List Int) (fr : Int) : Prop where
  ok : okW wo
  bits : ∀ i : Nat, bitW wo i = (decide (i < m.la.length) && decide (m.la.getD i 0 < maxG) && !slotB m.l i)
  fr0 : 0 ≤ fr
  fr1 : fr ≤ 1
  frz : ∀ j, j < fr.toNat → wo.getD j 0 = 0
  len : wo.length ≤ 1
def tsOf (m : Md) (wo : List Int) (fr : Int) : TS := ⟨m.cap, m.ser, m.la, wo, fr, byKey (·.ix) (fun x => x) m.l, byKey (·.tm) (·.ix) m.l, byKey (·.id) (·.ix) m.l⟩
/-- a table in memory: what it holds; its words; all is right; few slots -/
structure TT where
  m : Md
  wo : List Int
  fr : Int
  ok : MOk m
  wok : WOk m wo fr
  few : m.la.length ≤ 64
/-- who comes first -/
theorem frS_is (l : List Ls) : ∀ (la : List Int) (i : Nat), i ≤ frS l la i ∧ frS l la i ≤ i + la.length ∧ (∀ j, i ≤ j → j < frS l la i → slotB l j = true ∨ maxG ≤ la.getD (j - i) 0) ∧ (frS l la i < i + la.length → slotB l (frS l la i : Nat) = false ∧ la.getD (frS l la i - i) 0 < maxG)
  | [], i => ⟨Nat.le_refl _, Nat.le_refl _, fun j h1 h2 => (by simp only [frS] at h2; omega), fun h => (by simp only [frS] at h; simp at h)⟩
  | g :: r, i => by
    unfold frS
    by_cases h : slotB l i = true ∨ maxG ≤ g
    · rw [if_pos h]
      obtain ⟨h1, h2, h3, h4⟩ := frS_is l r (i + 1)
      refine ⟨by omega, by simp only [List.length_cons]; omega, fun j hj1 hj2 => ?_, fun hl => ?_⟩
      · by_cases hj : j = i
        · subst hj; rw [Nat.sub_self]; exact h
        · have := h3 j (by omega) hj2
          rwa [show j - i = (j - (i + 1)) + 1 by omega]
      · obtain ⟨q1, q2⟩ := h4 (by simp only [List.length_cons] at hl; omega)
        refine ⟨q1, ?_⟩
        rw [show frS l r (i + 1) - i = (frS l r (i + 1) - (i + 1)) + 1 by omega]
        exact q2
    · rw [if_neg h]
      refine ⟨Nat.le_refl _, by omega, fun j h1 h2 => by omega, fun _ => ⟨?_, ?_⟩⟩
      · cases hs : slotB l i with
        | true => exact absurd (.inl hs) h
        | false => rfl
      · rw [Nat.sub_self]
        exact Int.not_le.1 fun hg => h (.inr hg)
def slotN (m : Md) : Nat := frS m.l m.la 0
theorem slotN_le (m : Md) : slotN m ≤ m.la.length := by have := (frS_is m.l m.la 0).2.1; unfold slotN; omega
/-- the next slot, by the words -/
theorem next_is {m : Md} {wo : List Int} {fr : Int} (h : WOk m wo fr) :
    (anyW wo fr.toNat = true → leastW wo fr.toNat = (slotN m : Nat) ∧ slotN m < m.la.length ∧ bitW wo (slotN m) = true) ∧ (anyW wo fr.toNat = false → slotN m = m.la.length) := by
  obtain ⟨h1, h2, h3, h4⟩ := frS_is m.l m.la 0
  simp only [Nat.sub_zero, Nat.zero_add] at h2 h3 h4
  refine ⟨fun ha => ?_, fun ha => ?_⟩
  · obtain ⟨s, e, _, hb, hn⟩ := least_is h.ok h.frz ha
    have hb' := h.bits s
    rw [hb] at hb'
    have hb2 : (s < m.la.length ∧ m.la.getD s 0 < maxG) ∧ slotB m.l s = false := by
      have := hb'.symm
      simpa only [Bool.and_eq_true, decide_eq_true_eq, Bool.not_eq_true'] using this
    have hs : slotN m = s := by
      rcases Nat.lt_trichotomy (slotN m) s with hlt | heq | hgt
      · exfalso
        have hq := h4 (by unfold slotN at hlt; omega)
        have hz := hn _ hlt
        rw [h.bits] at hz
        have : (decide (slotN m < m.la.length) && decide (m.la.getD (slotN m) 0 < maxG) && !slotB m.l (slotN m : Nat)) = true := by
          simp only [Bool.and_eq_true, decide_eq_true_eq, Bool.not_eq_true']
          exact ⟨⟨by omega, hq.2⟩, hq.1⟩
        rw [this] at hz; cases hz
      · exact heq
      · exfalso
        rcases h3 s (Nat.zero_le _) hgt with hq | hq
        · rw [hq] at hb2; exact absurd hb2.2 (by simp)
        · have := hb2.1.2; omega
    rw [hs]
    exact ⟨e, hb2.1.1, hb⟩
  · have hz := none_is h.frz ha
    have hle := slotN_le m
    rcases Nat.lt_or_ge (slotN m) m.la.length with hlt | hge
    · exfalso
      have hq := h4 (by unfold slotN at hlt; omega)
      have hz' := hz (slotN m)
      rw [h.bits] at hz'
      have : (decide (slotN m < m.la.length) && decide (m.la.getD (slotN m) 0 < maxG) && !slotB m.l (slotN m : Nat)) = true := by
        simp only [Bool.and_eq_true, decide_eq_true_eq, Bool.not_eq_true']
        exact ⟨⟨hlt, hq.2⟩, hq.1⟩
      rw [this] at hz'; cases hz'
    · omega
end Go.Proofs.YtobdpddamdkabaaDoor.Tg
