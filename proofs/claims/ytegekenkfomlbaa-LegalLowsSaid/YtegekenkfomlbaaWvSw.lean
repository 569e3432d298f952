/- wave: what marks come to. -/
import Derived.Test.YtegekenkfomlbaaWvMk
import Derived.Test.YtegekenkfomlbaaTiPool
import Derived.Test.YtegekenkfomlbaaGvAvl
namespace Go.Proofs.Ytegekenkfomlbaa.Wv
open Go.Proofs.Ytegekenkfomlbaa.Rx
set_option linter.unusedVariables false
set_option linter.unusedSimpArgs false
/-- a mark -/
structure Mk where
  t : Int
  ins : Bool
  it : It
  here : Bool
  tf : Bool
  tk : It
/-- what marks come to -/
structure Sw where
  c : Ti.Td
  w : Ti.Td
  d : Int
  f : Int
  m : It
  gf : Bool
  g : It
  lf : Bool
  l : It
def mz : Mk := ⟨0, false, ⟨0, 0⟩, false, false, ⟨0, 0⟩⟩
def sz : Sw := ⟨⟨0, 0, 0⟩, ⟨0, 0, 0⟩, 0, 0, ⟨0, 0⟩, false, ⟨0, 0⟩, false, ⟨0, 0⟩⟩
def insS (x : It) (here : Bool) : Sw := if here = true then ⟨⟨1, 1, 1⟩, ⟨1, 0, 0⟩, 0, 0, ⟨0, 0⟩, false, ⟨0, 0⟩, true, x⟩ else ⟨⟨1, 1, 1⟩, ⟨1, 1, 1⟩, 0, 0, ⟨0, 0⟩, true, x, false, ⟨0, 0⟩⟩
def delS (tf : Bool) (tk : It) : Sw := if tf = true then ⟨⟨1, -1, -1⟩, ⟨1, -1, -1⟩, 1, 0, tk, false, ⟨0, 0⟩, false, ⟨0, 0⟩⟩ else ⟨⟨1, -1, -1⟩, ⟨1, -1, -1⟩, 1, 1, ⟨0, 0⟩, false, ⟨0, 0⟩, false, ⟨0, 0⟩⟩
def Mk.sum (m : Mk) : Sw := if m.ins = true then insS m.it m.here else delS m.tf m.tk
def bigS (s o : Sw) : It := if o.d = o.f then s.m else if s.d = s.f ∨ ah s.m o.m then o.m else s.m
/-- the outer one of two: behind (1), ahead (-1) -/
def outI (side : Int) (af : Bool) (a : It) (bf : Bool) (b : It) : Bool × It := if bf = true ∧ (¬ af = true ∨ icmp b a = side) then (bf, b) else if ¬ af = true then (false, ⟨0, 0⟩) else (af, a)
def Sw.plus (s o : Sw) : Sw := ⟨s.c.plus o.c, s.w.plus o.w, Ti.w64 (s.d + o.d), Ti.w64 (s.f + o.f), bigS s o, (outI 1 s.gf s.g o.gf o.g).1, (outI 1 s.gf s.g o.gf o.g).2, (outI (-1) s.lf s.l o.lf o.l).1, (outI (-1) s.lf s.l o.lf o.l).2⟩
def O8 : Gv.Ops Mk Sw := ⟨mz, sz, fun a b => c64 a.t b.t, Mk.sum, Sw.plus⟩
def cnt (m : Mk) : Int := if m.ins = true then 1 else -1
def wgt (m : Mk) : Int := if m.ins = true ∧ m.here = true then 0 else cnt m
def dels (l : List Mk) : List Mk := l.filter fun m => !m.ins
def frees (l : List Mk) : List Mk := l.filter fun m => !m.ins && !m.tf
def took (l : List Mk) : List It := (l.filter fun m => !m.ins && m.tf).map Mk.tk
/-- the items of insertions that are there, or aren't -/
def itms (h : Bool) (l : List Mk) : List It := (l.filter fun m => m.ins && (m.here == h)).map Mk.it
def S8 (l : List Mk) : Sw := ⟨Ti.tideOf (l.map cnt), Ti.tideOf (l.map wgt), (dels l).length, (frees l).length, (hi (took l)).getD iz, (hi (itms false l)).isSome, (hi (itms false l)).getD iz, (lo (itms true l)).isSome, (lo (itms true l)).getD iz⟩
def good8 (l : List Mk) : Prop := l.length ≤ 60
theorem cnt_b (m : Mk) : -1 ≤ cnt m ∧ cnt m ≤ 1 := by unfold cnt; split <;> omega
theorem wgt_b (m : Mk) : -1 ≤ wgt m ∧ wgt m ≤ 1 := by unfold wgt; split; omega; exact cnt_b m
theorem small_map {l : List Mk} {f : Mk → Int} (hf : ∀ m, -1 ≤ f m ∧ f m ≤ 1) (h : l.length ≤ 60) : Ti.Small (l.map f) := by
  have hb : ∀ i, i < (l.map f).length → -1 ≤ (l.map f).getD i 0 ∧ (l.map f).getD i 0 ≤ 1 := fun i hi => by
    have hi' : i < l.length := by simpa using hi
    rw [List.getD_eq_getElem?_getD, List.getElem?_map, List.getElem?_eq_getElem hi']
    exact hf _
  refine ⟨by simpa using h, fun i hi => ?_, fun i hi => ?_⟩
  · have := hb i hi; omega
  · have := hb i hi; omega
theorem out_up (a b : Option It) : outI 1 a.isSome (a.getD iz) b.isSome (b.getD iz) = ((up a b).isSome, (up a b).getD iz) := by
  unfold outI
  simp only [icmp_one]
  cases a with
  | none => cases b <;> simp [up]
  | some a =>
    cases b with
    | none => simp [up]
    | some b => simp only [Option.isSome_some, Option.getD_some, up]; by_cases h : ah a b <;> simp [h]
theorem out_dn (a b : Option It) : outI (-1) a.isSome (a.getD iz) b.isSome (b.getD iz) = ((dn a b).isSome, (dn a b).getD iz) := by
  unfold outI
  simp only [icmp_neg]
  cases a with
  | none => cases b <;> simp [dn]
  | some a =>
    cases b with
    | none => simp [dn]
    | some b => simp only [Option.isSome_some, Option.getD_some, dn]; by_cases h : ah b a <;> simp [h]
theorem dels_len (l : List Mk) : (dels l).length = (frees l).length + (took l).length := by
  unfold dels frees took
  rw [List.length_map]
  induction l with
  | nil => rfl
  | cons m l ih =>
    simp only [List.filter_cons]
    cases m.ins <;> cases m.tf <;> simp at * <;> omega
theorem took_none (l : List Mk) : ((dels l).length : Int) = (frees l).length ↔ hi (took l) = none := by
  rw [dels_len]
  have h := hi_none (took l)
  constructor
  · intro h1
    have : took l = [] := List.eq_nil_of_length_eq_zero (by omega)
    rw [this]; rfl
  · intro h1
    rw [h1] at h
    have : took l = [] := by
      by_cases c : took l = []
      · exact c
      · have := h.2 c; cases this
    rw [this]; simp
theorem big_up {x y : List Mk} : bigS (S8 x) (S8 y) = (up (hi (took x)) (hi (took y))).getD iz := by
  have hx := took_none x
  have hy := took_none y
  unfold bigS S8
  simp only [hx, hy]
  cases hi (took x) with
  | none => cases hi (took y) <;> simp [up]
  | some a =>
    cases hi (took y) with
    | none => simp [up]
    | some b => by_cases h : ah a b <;> simp [up, h]
theorem S8_one (m : Mk) : S8 [m] = m.sum := by
  unfold S8 Mk.sum insS delS dels frees took itms
  obtain ⟨t, ins, it, here, tf, tk⟩ := m
  cases ins <;> cases here <;> cases tf <;> rfl
theorem S8_plus (x y : List Mk) (h : good8 (x ++ y)) : (S8 x).plus (S8 y) = S8 (x ++ y) := by
  have hl := h
  unfold good8 at hl
  have h1 : (Ti.tideOf (x.map cnt)).plus (Ti.tideOf (y.map cnt)) = Ti.tideOf ((x ++ y).map cnt) := by
    rw [List.map_append]; exact Ti.plus_tide (by rw [← List.map_append]; exact small_map cnt_b hl)
  have h2 : (Ti.tideOf (x.map wgt)).plus (Ti.tideOf (y.map wgt)) = Ti.tideOf ((x ++ y).map wgt) := by
    rw [List.map_append]; exact Ti.plus_tide (by rw [← List.map_append]; exact small_map wgt_b hl)
  have e1 : dels (x ++ y) = dels x ++ dels y := List.filter_append ..
  have e2 : frees (x ++ y) = frees x ++ frees y := List.filter_append ..
  have e3 : took (x ++ y) = took x ++ took y := by unfold took; rw [List.filter_append, List.map_append]
  have e4 : ∀ b, itms b (x ++ y) = itms b x ++ itms b y := fun b => by unfold itms; rw [List.filter_append, List.map_append]
  have l1 : (dels x).length + (dels y).length ≤ 60 := by
    have := List.length_filter_le (fun m : Mk => !m.ins) (x ++ y)
    rw [← List.length_append, ← e1]
    exact Nat.le_trans this hl
  have l2 : (frees x).length + (frees y).length ≤ 60 := by
    have := List.length_filter_le (fun m : Mk => !m.ins && !m.tf) (x ++ y)
    rw [← List.length_append, ← e2]
    exact Nat.le_trans this hl
  have h3 : Ti.w64 (((dels x).length : Int) + ((dels y).length : Int)) = ((dels (x ++ y)).length : Int) := by
    rw [e1, List.length_append, Ti.w64_of (by omega)]; push_cast; rfl
  have h4 : Ti.w64 (((frees x).length : Int) + ((frees y).length : Int)) = ((frees (x ++ y)).length : Int) := by
    rw [e2, List.length_append, Ti.w64_of (by omega)]; push_cast; rfl
  have h5 : bigS (S8 x) (S8 y) = (hi (took (x ++ y))).getD iz := by rw [big_up, e3, hi_append]
  have h6 := out_up (hi (itms false x)) (hi (itms false y))
  have h7 := out_dn (lo (itms true x)) (lo (itms true y))
  rw [← hi_append, ← e4] at h6
  rw [← lo_append, ← e4] at h7
  unfold Sw.plus
  rw [h5]
  unfold S8
  simp only
  rw [h1, h2, h3, h4, h6, h7]
theorem cmp_neg (e x : Mk) : O8.cmp e x < 0 ↔ e.t < x.t := by simp only [O8, c64]; split <;> (try split) <;> omega
theorem cmp_zero (e x : Mk) : O8.cmp e x = 0 ↔ e.t = x.t := by simp only [O8, c64]; split <;> (try split) <;> omega
theorem cmp_pos (e x : Mk) : (0 < O8.cmp e x) ↔ x.t < e.t := by simp only [O8, c64]; split <;> (try split) <;> omega
theorem laws8 : Gv.Laws O8 S8 good8 where
  nil := rfl
  one e := S8_one e
  plus x y h _ _ := S8_plus x y h
  left x y h := by unfold good8 at *; rw [List.length_append] at h; omega
  right x y h := by unfold good8 at *; rw [List.length_append] at h; omega
  len x h := by unfold good8 at h; omega
  swap a b := by rw [cmp_neg, cmp_pos]
  trans a b c := by simp only [cmp_neg]; omega
  eqv a b c := by simp only [cmp_neg, cmp_zero]; omega
  eqv' a b c := by simp only [cmp_neg, cmp_zero]; omega
/-- did a deletion take nothing, or something behind an item? -/
def Sw.above (s : Sw) (x : It) : Bool := decide (s.f > 0) || (decide (s.d ≠ s.f) && decide (ah x s.m))
def wantA (l : List Mk) (x : It) : Bool := l.any fun m => !m.ins && (!m.tf || decide (ah x m.tk))
theorem above_want (l : List Mk) (x : It) : (S8 l).above x = wantA l x := by
  have h1 : decide ((S8 l).f > 0) = l.any fun m => !m.ins && !m.tf := by
    show decide (((frees l).length : Int) > 0) = _
    rw [Bool.eq_iff_iff, decide_eq_true_eq, List.any_eq_true]
    unfold frees
    constructor
    · intro h
      obtain ⟨m, hm⟩ := List.exists_mem_of_length_pos (l := l.filter fun m => !m.ins && !m.tf) (by omega)
      exact ⟨m, (List.mem_filter.1 hm).1, (List.mem_filter.1 hm).2⟩
    · rintro ⟨m, hm, h⟩
      have := List.length_pos_of_mem (List.mem_filter.2 ⟨hm, h⟩ : m ∈ l.filter fun m => !m.ins && !m.tf)
      omega
  have h2 : (decide ((S8 l).d ≠ (S8 l).f) && decide (ah x (S8 l).m)) = (took l).any fun e => decide (ah x e) := by
    rw [hi_any]
    have := took_none l
    show (decide (((dels l).length : Int) ≠ ((frees l).length : Int)) && decide (ah x ((hi (took l)).getD iz))) = _
    cases hh : hi (took l) with
    | none => simp [this.2 hh]
    | some a =>
      have hn : ¬ ((dels l).length : Int) = ((frees l).length : Int) := fun h => by have := this.1 h; rw [hh] at this; cases this
      simp [hn]
  unfold Sw.above wantA
  rw [h1, h2]
  unfold took
  rw [List.any_map, List.any_filter]
  induction l with
  | nil => rfl
  | cons m l ih =>
    simp only [List.any_cons] at *
    cases m.ins <;> cases m.tf <;> simp at * <;> grind
end Go.Proofs.Ytegekenkfomlbaa.Wv
