/- tag: lists of operations as rows; the first one of a kind. Nothing of the program. -/
import Derived.Test.YtobdpddamdkabaaDoorTgTT
namespace Go.Proofs.YtobdpddamdkabaaDoor.Tg
open Go.Proofs.YtobdpddamdkabaaDoor.Rx
set_option linter.unusedVariables false
def z0 : Nat → Bool := fun j => Nat.beq j 0
def z01 : Nat → Bool := fun j => Nat.ble j 1
def uL (r : Row) : List Ls := match r.cols with
  | [a, b, c, d, e, f] => (List.range r.n).map fun i => ⟨a.i.getD i 0, b.i.getD i 0, c.i.getD i 0, d.b.getD i false, e.i.getD i 0, f.i.getD i 0⟩
  | _ => []
theorem gL {β : Type} {l : List Ls} {i : Nat} (f : Ls → β) (d : β) (h : f ls0 = d) : (l.map f).getD i d = f (l.getD i ls0) := by
  subst h
  rw [List.getD_eq_getElem?_getD, List.getD_eq_getElem?_getD, List.getElem?_map]
  cases l[i]? <;> rfl
theorem range_getL {l : List Ls} {f : Nat → Ls} (h : ∀ i, i < l.length → f i = l.getD i ls0) : (List.range l.length).map f = l := by
  refine List.ext_getElem (by simp) fun i h1 h2 => ?_
  rw [List.getElem_map, List.getElem_range, h i h2, List.getD_eq_getElem?_getD, List.getElem?_eq_getElem h2]; rfl
theorem uL_rowL (l : List Ls) : uL (rowL l) = l := by
  show (List.range l.length).map _ = l
  refine range_getL fun i hi => ?_
  show (⟨(l.map _).getD i 0, (l.map _).getD i 0, (l.map _).getD i 0, (l.map _).getD i false, (l.map _).getD i 0, (l.map _).getD i 0⟩ : Ls) = _
  rw [gL (·.ix) 0 rfl, gL (·.gn) 0 rfl, gL (·.tm) 0 rfl, gL (·.ins) false rfl, gL (·.key) 0 rfl, gL (·.id) 0 rfl]
theorem rowL_ok (l : List Ls) : rowL l = rowL (uL (rowL l)) := by rw [uL_rowL]
/-- the place of the first one of a kind; -1: none is -/
def plI (l : List Ls) (p : Ls → Bool) : Int := if l.findIdx p < l.length then (l.findIdx p : Nat) else -1
theorem fi_step {p : Ls → Bool} : ∀ {l : List Ls} {i : Nat}, i ≤ l.findIdx p → i < l.length → p (l.getD i ls0) = false → i + 1 ≤ l.findIdx p
  | [], i, _, hi, _ => by simp at hi
  | y :: r, i, h, hi, hp => by
    rw [List.findIdx_cons] at h ⊢
    cases hy : p y
    · rw [hy] at h
      simp only [cond_false] at h ⊢
      cases i with
      | zero => omega
      | succ i =>
        have := fi_step (l := r) (i := i) (by omega) (by simpa using hi) hp
        omega
    · rw [hy] at h
      simp only [cond_true] at h
      have : i = 0 := by omega
      subst this
      have : p y = false := hp
      rw [this] at hy; cases hy
theorem fi_hit {p : Ls → Bool} : ∀ {l : List Ls} {i : Nat}, i ≤ l.findIdx p → i < l.length → p (l.getD i ls0) = true → l.findIdx p = i
  | [], i, _, hi, _ => by simp at hi
  | y :: r, i, h, hi, hp => by
    rw [List.findIdx_cons] at h ⊢
    cases hy : p y
    · rw [hy] at h
      simp only [cond_false] at h ⊢
      cases i with
      | zero =>
        have : p y = true := hp
        rw [this] at hy; cases hy
      | succ i =>
        have := fi_hit (l := r) (i := i) (by omega) (by simpa using hi) hp
        omega
    · rw [hy] at h
      simp only [cond_true] at h ⊢
      omega
theorem any_fi (l : List Ls) (p : Ls → Bool) : l.any p = decide (l.findIdx p < l.length) := by
  induction l with
  | nil => rfl
  | cons y r ih =>
    rw [List.any_cons, List.findIdx_cons, ih]
    cases p y
    · simp
    · simp
theorem fi_le (l : List Ls) (p : Ls → Bool) : l.findIdx p ≤ l.length := List.findIdx_le_length
def pTm (t : Int) : Ls → Bool := fun x => x.tm == t
def pOf (ix gn : Int) : Ls → Bool := fun x => x.ix == ix && x.gn == gn
def pIx (k : Int) : Ls → Bool := fun x => x.ix == k
def pId (k : Int) : Ls → Bool := fun x => x.id == k
theorem slotB_fi (l : List Ls) (k : Int) : slotB l k = decide (l.findIdx (pIx k) < l.length) := any_fi l _
theorem idB_fi (l : List Ls) (k : Int) : idB l k = decide (l.findIdx (pId k) < l.length) := any_fi l _
theorem plI_hit {l : List Ls} {p : Ls → Bool} {i : Nat} (h : l.findIdx p = i) (hi : i < l.length) : plI l p = i := by unfold plI; rw [h, if_pos hi]
theorem plI_end {l : List Ls} {p : Ls → Bool} {i : Nat} (h : i ≤ l.findIdx p) (hi : l.length ≤ i) : plI l p = -1 := by unfold plI; rw [if_neg (by omega)]
theorem slot_hit {l : List Ls} {k : Int} {i : Nat} (h : l.findIdx (pIx k) = i) (hi : i < l.length) : slotB l k = true := by rw [slotB_fi, h]; exact decide_eq_true hi
theorem slot_end {l : List Ls} {k : Int} {i : Nat} (h : i ≤ l.findIdx (pIx k)) (hi : l.length ≤ i) : slotB l k = false := by rw [slotB_fi]; exact decide_eq_false (by omega)
theorem id_hit {l : List Ls} {k : Int} {i : Nat} (h : l.findIdx (pId k) = i) (hi : i < l.length) : idB l k = true := by rw [idB_fi, h]; exact decide_eq_true hi
theorem id_end {l : List Ls} {k : Int} {i : Nat} (h : i ≤ l.findIdx (pId k)) (hi : l.length ≤ i) : idB l k = false := by rw [idB_fi]; exact decide_eq_false (by omega)
theorem tmB_fi (l : List Ls) (t : Int) : tmB l t = decide (l.findIdx (pTm t) < l.length) := any_fi l _
theorem plI_ge {l : List Ls} {p : Ls → Bool} : 0 ≤ plI l p ↔ l.findIdx p < l.length := by
  unfold plI
  split <;> omega
theorem plI_tm (l : List Ls) (t : Int) : (0 ≤ plI l (pTm t)) ↔ tmB l t = true := by rw [plI_ge, tmB_fi, decide_eq_true_eq]
/-- the error of one more, as the document has it -/
theorem err_ref {m : Md} (h : MOk m) (tm : Int) : errE m tm = if (m.l.length : Int) = m.cap then 10 else if 0 ≤ plI m.l (pTm tm) then 11 else 0 := by
  have h1 := h.len
  unfold errE
  by_cases hc : m.cap ≤ (m.l.length : Int)
  · have hq : (m.l.length : Int) = m.cap := by omega
    rw [if_pos hc, if_pos hq]
  · have hq : ¬ (m.l.length : Int) = m.cap := by omega
    rw [if_neg hc, if_neg hq]
    by_cases ht : tmB m.l tm = true
    · rw [if_pos ht, if_pos ((plI_tm _ _).2 ht)]
    · rw [if_neg ht, if_neg (fun e => ht ((plI_tm _ _).1 e))]
def rLx (l : List Ls) (a n : Nat) : Row := ⟨[.int .i64 0, .int .i64 0, .int .i64 0, .bool false, .int .i64 0, .int .i64 0], n, [⟨cut (l.map fun x => x.ix) a n, [], []⟩, ⟨cut (l.map fun x => x.gn) a n, [], []⟩, ⟨cut (l.map fun x => x.tm) a n, [], []⟩, ⟨[], cut (l.map fun x => x.ins) a n, []⟩, ⟨cut (l.map fun x => x.key) a n, [], []⟩, ⟨cut (l.map fun x => x.id) a n, [], []⟩]⟩
theorem cmL {β : Type} (l : List Ls) (f : Ls → β) : cut (l.map f) 0 l.length = l.map f := by
  unfold cut
  rw [List.drop_zero, List.take_of_length_le (by rw [List.length_map]; exact Nat.le_refl _)]
theorem rLx_all (l : List Ls) : rLx l 0 l.length = rowL l := by
  unfold rLx
  simp only [cmL]
  rfl
theorem euL (l : List Ls) : uL ⟨[.int .i64 0, .int .i64 0, .int .i64 0, .bool false, .int .i64 0, .int .i64 0], l.length, [⟨l.map fun x => x.ix, [], []⟩, ⟨l.map fun x => x.gn, [], []⟩, ⟨l.map fun x => x.tm, [], []⟩, ⟨[], l.map fun x => x.ins, []⟩, ⟨l.map fun x => x.key, [], []⟩, ⟨l.map fun x => x.id, [], []⟩]⟩ = l := uL_rowL l
end Go.Proofs.YtobdpddamdkabaaDoor.Tg
