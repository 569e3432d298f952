/- Symbolic runs: what the blocks of a run hold, and how that is kept. Nothing of the program. -/
import Derived.Test.YtloibbakklenbaaRxVal
import Derived.Test.YtloibbakklenbaaState
namespace Go.Proofs.Ytloibbakklenbaa.Rx
open Go.RowKit Go.Proofs.Ytloibbakklenbaa.State
set_option linter.unusedVariables false

/-- a column of a row of elements: the numbers, truths or texts of one cell of each element -/
structure Col where
  i : List Int
  b : List Bool
  s : List ByteArray
def colI (l : List Int) : Col := ⟨l, [], []⟩
def colB (l : List Bool) : Col := ⟨[], l, []⟩
def colS (l : List ByteArray) : Col := ⟨[], [], l⟩
def noCol : Col := ⟨[], [], []⟩
/-- the value in a cell like t -/
def cellVal : Value → Col → Nat → Value
  | .int k _, c, e => .int k (c.i.getD e 0)
  | .bool _, c, e => .bool (c.b.getD e false)
  | .string _, c, e => .string (c.s.getD e ⟨#[]⟩)
  | v, _, _ => v
def colOk : Value → Col → Nat → Prop
  | .int _ _, c, n => c.i.length = n
  | .bool _, c, n => c.b.length = n
  | .string _, c, n => c.s.length = n
  | v, _, _ => flat v = true ∧ v.oneCell' = true
/-- n elements, each of the cells tm -/
structure Row where
  tm : List Value
  n : Nat
  cols : List Col
structure RowIn (r : Row) (arr : Array Value) (o : Nat) : Prop where
  len : r.cols.length = r.tm.length
  col : ∀ (f : Nat) (t : Value) (c : Col), r.tm[f]? = some t → r.cols[f]? = some c → colOk t c r.n
  cell : ∀ (f : Nat) (t : Value) (c : Col) (e : Nat), r.tm[f]? = some t → r.cols[f]? = some c → e < r.n → arr[o + (e * r.tm.length + f)]? = some (cellVal t c e)
/-- what a block of the run is: cells known one by one; a row of elements of its own; a row that is only read; a thing of the proof's -/
abbrev SB (R : Type) := (TypeId × List Value) ⊕ (TypeId × Row) ⊕ Row ⊕ R
abbrev Hp (R : Type) := List (Option (SB R))
/-- things of the proof's: what they say of the world, by a set of blocks -/
structure Res (R : Type) where
  H : R → Place → (Nat → Prop) → World → Prop
  keep : ∀ x p F w w', H x p F w → (∀ k, F k → w'.heap[k]? = w.heap[k]?) → H x p F w'
  lt : ∀ x p F w k, H x p F w → F k → k < w.heap.size
/-- the world at the start, and the blocks that may be written -/
structure Ctx where
  w0 : World
  U : Nat → Prop
  e0 : Env
  n0 : Nat
section
variable {R : Type} {D : Res R} {C : Ctx} {ρ ρ' : Env} {i n : Nat} {F : Nat → Prop} {w w' : World} {B : SB R}
def hold (D : Res R) (C : Ctx) (ρ : Env) (i : Nat) (F : Nat → Prop) (w : World) : SB R → Prop
  | .inl (t, cs) => (ρ i).off = 0 ∧ (∀ k, F k ↔ k = (ρ i).blk) ∧ w.heap[(ρ i).blk]? = some (.cells (cs.map (ren ρ)).toArray t (0, 0))
  | .inr (.inl (t, r)) => (∀ k, F k ↔ ((ρ i).nil = false ∧ k = (ρ i).blk)) ∧ 0 < r.tm.length ∧ r.n ≤ (ρ i).cap ∧ (ρ i).cap ≤ maxLen ∧ ((ρ i).nil = true → (ρ i).cap = 0) ∧
      ∃ arr, ((ρ i).nil = false → w.heap[(ρ i).blk]? = some (.cells arr t (0, 0)) ∧ arr.size = (ρ i).off + (ρ i).cap * r.tm.length) ∧ RowIn r arr (ρ i).off
  | .inr (.inr (.inl r)) => (∀ k, ¬ F k) ∧ 0 < r.tm.length ∧ r.n ≤ (ρ i).cap ∧ (ρ i).cap ≤ maxLen ∧ ((ρ i).nil = true → (ρ i).cap = 0) ∧
      ∃ arr, ((ρ i).nil = false → 0 < r.n → (ρ i).blk < C.w0.heap.size ∧ ¬ C.U (ρ i).blk ∧ ∃ t fz, C.w0.heap[(ρ i).blk]? = some (.cells arr t fz)) ∧ RowIn r arr (ρ i).off
  | .inr (.inr (.inr x)) => D.H x (ρ i) F w
def inside (n : Nat) : SB R → Prop
  | .inl (_, cs) => inbL n cs = true
  | _ => True
theorem inside_mono {m : Nat} (hm : n ≤ m) (h : inside n B) : inside m B := by
  rcases B with ⟨t, cs⟩ | ⟨t, r⟩ | r | x <;> first | exact trivial | skip
  exact inbL_mono hm _ h
theorem hold_keep (h : hold D C ρ i F w B) (hk : ∀ k, F k → w'.heap[k]? = w.heap[k]?) : hold D C ρ i F w' B := by
  rcases B with ⟨t, cs⟩ | ⟨t, r⟩ | r | x
  · obtain ⟨h1, h2, h3⟩ := h
    exact ⟨h1, h2, by rw [hk _ ((h2 _).2 rfl)]; exact h3⟩
  · obtain ⟨h1, h2, h3, h4, h4', arr, h5, h6⟩ := h
    exact ⟨h1, h2, h3, h4, h4', arr, fun hn => by rw [hk _ ((h1 _).2 ⟨hn, rfl⟩)]; exact h5 hn, h6⟩
  · exact h
  · exact D.keep _ _ _ _ _ h hk
theorem hold_env (h : hold D C ρ i F w B) (hρ : ∀ j, j < n → ρ' j = ρ j) (hi : i < n) (hs : inside n B) : hold D C ρ' i F w B := by
  have e := hρ i hi
  rcases B with ⟨t, cs⟩ | ⟨t, r⟩ | r | x
  · simp only [hold, e] at *
    have : cs.map (ren ρ') = cs.map (ren ρ) := List.map_congr_left fun v hv => (ren_congr (fun j hj => (hρ j hj)) v (inbL_iff.1 hs v hv))
    rw [this]
    exact h
  · simp only [hold, e] at *; exact h
  · simp only [hold, e] at *; exact h
  · simp only [hold, e] at *; exact h
/-- the heap of a run, and the world -/
structure HM (D : Res R) (C : Ctx) (ρ : Env) (ft : Nat → Nat → Prop) (h : Hp R) (w : World) : Prop where
  at_ : ∀ i B, h[i]? = some (some B) → hold D C ρ i (ft i) w B ∧ inside h.length B
  lt : ∀ i k, ft i k → k < w.heap.size
  fresh : ∀ i k, ft i k → C.U k ∨ C.w0.heap.size ≤ k
  apart : ∀ i j k, ft i k → ft j k → i = j
  some_ : ∀ i k, ft i k → ∃ B, h[i]? = some (some B)
  kept : Kept C.U C.w0 w
variable {ft ft' : Nat → Nat → Prop} {h h' : Hp R}
theorem HM.same (hm : HM D C ρ ft h w) (hh : w'.heap = w.heap) (ho : w'.os = w.os) (ht : w'.tape = w.tape) (hu : w'.output = w.output) : HM D C ρ ft h w' where
  at_ i B hi := ⟨hold_keep (hm.at_ i B hi).1 (fun k _ => by rw [hh]), (hm.at_ i B hi).2⟩
  lt i k hk := by rw [hh]; exact hm.lt i k hk
  fresh := hm.fresh
  apart := hm.apart
  some_ := hm.some_
  kept := ⟨ho.trans hm.kept.os, ht.trans hm.kept.tape, hu.trans hm.kept.output, by rw [hh]; exact hm.kept.size, fun k hk hn => by rw [hh]; exact hm.kept.block k hk hn⟩
theorem HM.drew (hm : HM D C ρ ft h w) : HM D C ρ ft h w.drew := hm.same rfl rfl rfl rfl
/-- a step: the blocks of the things in S may be written, new ones are made -/
theorem HM.step (hm : HM D C ρ ft h w) (S : Nat → Prop) (hk : Kept (fun k => ∃ i, S i ∧ ft i k) w w') (hρ : ∀ i, i < h.length → ρ' i = ρ i) (hlen : h.length ≤ h'.length)
    (hnew : ∀ i B, (i < h.length → S i) → h'[i]? = some (some B) → hold D C ρ' i (ft' i) w' B ∧ inside h'.length B)
    (hsame : ∀ i, i < h.length → ¬ S i → h'[i]? = h[i]? ∧ ∀ k, ft' i k ↔ ft i k)
    (hin : ∀ i k, (i < h.length → S i) → ft' i k → ((∃ j, S j ∧ ft j k) ∨ w.heap.size ≤ k) ∧ k < w'.heap.size ∧ ∃ B, h'[i]? = some (some B))
    (hap : ∀ i j k, (i < h.length → S i) → (j < h.length → S j) → ft' i k → ft' j k → i = j) : HM D C ρ' ft' h' w' where
  at_ i B hi := by
    by_cases hs : i < h.length ∧ ¬ S i
    · obtain ⟨hl, hn⟩ := hs
      obtain ⟨e, hf⟩ := hsame i hl hn
      rw [e] at hi
      obtain ⟨h1, h2⟩ := hm.at_ i B hi
      refine ⟨?_, inside_mono hlen h2⟩
      have h3 := hold_env h1 hρ hl h2
      have h4 : hold D C ρ' i (ft i) w' B := hold_keep h3 fun k hk' => hk.block k (hm.lt i k hk') (fun ⟨j, hj, hjk⟩ => hn (by rw [hm.apart i j k hk' hjk]; exact hj))
      have : ft' i = ft i := funext fun k => propext (hf k)
      rw [this]
      exact h4
    · exact hnew i B (fun hl => Classical.byContradiction fun hn => hs ⟨hl, hn⟩) hi
  lt i k hi := by
    by_cases hs : i < h.length ∧ ¬ S i
    · exact Nat.lt_of_lt_of_le (hm.lt i k (((hsame i hs.1 hs.2).2 k).1 hi)) hk.size
    · exact (hin i k (fun hl => Classical.byContradiction fun hn => hs ⟨hl, hn⟩) hi).2.1
  fresh i k hi := by
    by_cases hs : i < h.length ∧ ¬ S i
    · exact hm.fresh i k (((hsame i hs.1 hs.2).2 k).1 hi)
    · rcases (hin i k (fun hl => Classical.byContradiction fun hn => hs ⟨hl, hn⟩) hi).1 with ⟨j, _, hj⟩ | hge
      · exact hm.fresh j k hj
      · exact Or.inr (Nat.le_trans hm.kept.size hge)
  apart i j k hi hj := by
    by_cases hs : i < h.length ∧ ¬ S i <;> by_cases hs' : j < h.length ∧ ¬ S j
    · exact hm.apart i j k (((hsame i hs.1 hs.2).2 k).1 hi) (((hsame j hs'.1 hs'.2).2 k).1 hj)
    · have hi' := ((hsame i hs.1 hs.2).2 k).1 hi
      rcases (hin j k (fun hl => Classical.byContradiction fun hn => hs' ⟨hl, hn⟩) hj).1 with ⟨l, hl, hlk⟩ | hge
      · exact absurd hl (by rw [← hm.apart i l k hi' hlk]; exact hs.2)
      · have := hm.lt i k hi'; omega
    · have hj' := ((hsame j hs'.1 hs'.2).2 k).1 hj
      rcases (hin i k (fun hl => Classical.byContradiction fun hn => hs ⟨hl, hn⟩) hi).1 with ⟨l, hl, hlk⟩ | hge
      · exact absurd hl (by rw [← hm.apart j l k hj' hlk]; exact hs'.2)
      · have := hm.lt j k hj'; omega
    · exact hap i j k (fun hl => Classical.byContradiction fun hn => hs ⟨hl, hn⟩) (fun hl => Classical.byContradiction fun hn => hs' ⟨hl, hn⟩) hi hj
  some_ i k hi := by
    by_cases hs : i < h.length ∧ ¬ S i
    · obtain ⟨e, hf⟩ := hsame i hs.1 hs.2
      rw [e]
      exact hm.some_ i k ((hf k).1 hi)
    · exact (hin i k (fun hl => Classical.byContradiction fun hn => hs ⟨hl, hn⟩) hi).2.2
  kept := hm.kept.trans hk fun k hk' ⟨j, _, hj⟩ => by
    rcases hm.fresh j k hj with hu | hge
    · exact hu
    · omega
def upd {α : Type} (f : Nat → α) (n : Nat) (a : α) : Nat → α := fun i => if i = n then a else f i
theorem upd_same {α : Type} (f : Nat → α) (n : Nat) (a : α) : upd f n a n = a := by simp [upd]
theorem upd_lt {α : Type} (f : Nat → α) (n : Nat) (a : α) {i : Nat} (hi : i < n) : upd f n a i = f i := by simp [upd, Nat.ne_of_lt hi]
theorem upd_ne {α : Type} (f : Nat → α) (n : Nat) (a : α) {i : Nat} (hi : i ≠ n) : upd f n a i = f i := by simp [upd, hi]
/-- a new block -/
theorem HM.push (hm : HM D C ρ ft h w) (p : Place) (o : Obj) (hp : p.blk = w.heap.size) (B : SB R) (hB : hold D C (upd ρ h.length p) h.length (fun k => k = w.heap.size) (w.alloc o) B) (hs : inside (h.length + 1) B) :
    HM D C (upd ρ h.length p) (upd ft h.length (fun k => k = w.heap.size)) (h ++ [some B]) (w.alloc o) := by
  refine hm.step (fun _ => False) ((Kept.refl _ _).alloc _) (fun i hi => upd_lt _ _ _ hi) (by simp) ?_ ?_ ?_ ?_
  · intro i B' hi hB'
    have hge : h.length ≤ i := Nat.le_of_not_lt hi
    rw [List.getElem?_append_right hge] at hB'
    have : i = h.length := by
      rcases Nat.lt_or_ge h.length i with hlt | hle
      · rw [List.getElem?_eq_none (by simp; omega)] at hB'; cases hB'
      · omega
    subst this
    simp at hB'
    subst hB'
    rw [upd_same]
    simpa using ⟨hB, hs⟩
  · intro i hi _
    exact ⟨List.getElem?_append_left hi, fun k => by rw [upd_lt _ _ _ hi]⟩
  · intro i k hi hk
    have hge : h.length ≤ i := Nat.le_of_not_lt hi
    by_cases he : i = h.length
    · subst he
      rw [upd_same] at hk
      subst hk
      exact ⟨Or.inr (Nat.le_refl _), by simp, B, by simp⟩
    · rw [upd_ne _ _ _ he] at hk
      obtain ⟨B', hB'⟩ := hm.some_ i k hk
      rw [List.getElem?_eq_none hge] at hB'
      cases hB'
  · intro i j k hi hj hki hkj
    have hgi : h.length ≤ i := Nat.le_of_not_lt hi
    have hgj : h.length ≤ j := Nat.le_of_not_lt hj
    have key : ∀ l, h.length ≤ l → upd ft h.length (fun k => k = w.heap.size) l k → l = h.length := fun l hl hlk => by
      refine Classical.byContradiction fun he => ?_
      rw [upd_ne _ _ _ he] at hlk
      obtain ⟨B', hB'⟩ := hm.some_ l k hlk
      rw [List.getElem?_eq_none hl] at hB'
      cases hB'
    rw [key i hgi hki, key j hgj hkj]
/-- a number that no block has -/
theorem HM.pushNone (hm : HM D C ρ ft h w) (p : Place) : HM D C (upd ρ h.length p) ft (h ++ [none]) w := by
  refine hm.step (fun _ => False) (Kept.refl _ _) (fun i hi => upd_lt _ _ _ hi) (by simp) ?_ ?_ ?_ ?_
  · intro i B' hi hB'
    have hge : h.length ≤ i := Nat.le_of_not_lt hi
    rw [List.getElem?_append_right hge] at hB'
    rcases Nat.lt_or_ge h.length i with hlt | hle
    · rw [List.getElem?_eq_none (by simp; omega)] at hB'; cases hB'
    · rw [show i - h.length = 0 by omega] at hB'; simp at hB'
  · intro i hi _
    exact ⟨List.getElem?_append_left hi, fun k => Iff.rfl⟩
  · intro i k hi hk
    obtain ⟨B', hB'⟩ := hm.some_ i k hk
    have hlt := (List.getElem?_eq_some_iff.1 hB').1
    exact absurd hlt hi
  · intro i j k hi hj hki hkj
    exact hm.apart i j k hki hkj
/-- one block is written -/
theorem HM.put (hm : HM D C ρ ft h w) {i : Nat} {B0 : SB R} (hi : h[i]? = some (some B0)) (hk : Kept (ft i) w w') (B : SB R) (F : Nat → Prop) (hB : hold D C ρ i F w' B) (hs : inside h.length B)
    (hF : ∀ k, F k → (ft i k ∨ w.heap.size ≤ k) ∧ k < w'.heap.size) : HM D C ρ (upd ft i F) (h.set i (some B)) w' := by
  have hl : i < h.length := (List.getElem?_eq_some_iff.1 hi).1
  refine hm.step (fun j => j = i) (hk.mono fun k hk => ⟨i, rfl, hk⟩) (fun _ _ => rfl) (by simp) ?_ ?_ ?_ ?_
  · intro j B' hj hB'
    by_cases he : j = i
    · subst he
      rw [List.getElem?_set_self hl] at hB'
      injection hB' with hB'; injection hB' with hB'
      subst hB'
      rw [upd_same]
      exact ⟨hB, by rw [List.length_set]; exact hs⟩
    · have hlt : ¬ j < h.length := fun hlt => he (hj hlt)
      rw [List.getElem?_eq_none (by rw [List.length_set]; omega)] at hB'
      cases hB'
  · intro j hj hn
    refine ⟨List.getElem?_set_ne (fun e => hn e.symm), fun k => by rw [upd_ne _ _ _ hn]⟩
  · intro j k hj hk'
    by_cases he : j = i
    · subst he
      rw [upd_same] at hk'
      obtain ⟨h1, h2⟩ := hF k hk'
      exact ⟨h1.imp (fun h => ⟨j, rfl, h⟩) id, h2, B, List.getElem?_set_self hl⟩
    · rw [upd_ne _ _ _ he] at hk'
      obtain ⟨B', hB'⟩ := hm.some_ j k hk'
      have hlt := (List.getElem?_eq_some_iff.1 hB').1
      exact absurd (hj hlt) he
  · intro a b k ha hb hka hkb
    have key : ∀ l, (l < h.length → l = i) → upd ft i F l k → l = i := fun l hl' hlk => by
      refine Classical.byContradiction fun he => ?_
      rw [upd_ne _ _ _ he] at hlk
      obtain ⟨B', hB'⟩ := hm.some_ l k hlk
      exact he (hl' (List.getElem?_eq_some_iff.1 hB').1)
    rw [key a ha hka, key b hb hkb]
/-- one block is given up -/
theorem HM.drop (hm : HM D C ρ ft h w) (i : Nat) : HM D C ρ (upd ft i (fun _ => False)) (h.set i none) w := by
  refine hm.step (fun j => j = i) (Kept.refl _ _) (fun _ _ => rfl) (by simp) ?_ ?_ ?_ ?_
  · intro j B' hj hB'
    by_cases he : j = i
    · subst he
      by_cases hl : j < h.length
      · rw [List.getElem?_set_self hl] at hB'
        injection hB' with hB'
        cases hB'
      · rw [List.getElem?_eq_none (by rw [List.length_set]; omega)] at hB'
        cases hB'
    · have hlt : ¬ j < h.length := fun hlt => he (hj hlt)
      rw [List.getElem?_eq_none (by rw [List.length_set]; omega)] at hB'
      cases hB'
  · intro j hj hn
    refine ⟨List.getElem?_set_ne (fun e => hn e.symm), fun k => by rw [upd_ne _ _ _ hn]⟩
  · intro j k hj hk'
    by_cases he : j = i
    · subst he
      rw [upd_same] at hk'
      exact hk'.elim
    · rw [upd_ne _ _ _ he] at hk'
      obtain ⟨B', hB'⟩ := hm.some_ j k hk'
      have hlt := (List.getElem?_eq_some_iff.1 hB').1
      exact absurd (hj hlt) he
  · intro a b k ha hb hka hkb
    have key : ∀ l, upd ft i (fun _ => False) l k → ft l k := fun l hlk => by
      by_cases he : l = i
      · subst he; rw [upd_same] at hlk; exact hlk.elim
      · rw [upd_ne _ _ _ he] at hlk; exact hlk
    exact hm.apart a b k (key a hka) (key b hkb)
end
end Go.Proofs.Ytloibbakklenbaa.Rx
