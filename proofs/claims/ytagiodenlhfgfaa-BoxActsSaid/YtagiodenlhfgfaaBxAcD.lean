/- box: the law BoxActs: its state. -/
import Derived.Test.YtagiodenlhfgfaaBxAwake
namespace Go.Proofs.Ytagiodenlhfgfaa.Bx
open Go.Proofs.Ytagiodenlhfgfaa.Rx
set_option linter.unusedVariables false
set_option linter.unusedSimpArgs false
set_option maxRecDepth 100000
set_option maxHeartbeats 16000000
structure Acts where
  k : List Int
  p : List Int
  v : List Int
structure Acts.Ok (a : Acts) : Prop where
  p : a.p.length = a.k.length
  v : a.v.length = a.k.length
def actsRow (a : Acts) : Row := ⟨[.int .i64 0, .int .i64 0, .int .i64 0], a.k.length, [colI a.k, colI a.p, colI a.v]⟩
/-- a box of the document's goes with a box -/
structure Is (m : BI) (q : RB) : Prop where
  mo : m.Ok
  qo : q.Ok
  cap : q.cap = m.cap
  cl : q.cl = m.closed
  n : q.n = m.xs.length
  xs : cut q.row q.o q.n = m.xs
theorem BI.offer_no {m : BI} {v : Int} (h : m.takes = false) : m.offer v = m := by simp [BI.offer, h]
theorem BI.offer_yes {m : BI} {v : Int} (h : m.takes = true) : m.offer v = ⟨m.cap, m.xs ++ [v], m.closed⟩ := by simp [BI.offer, h]
theorem Is.takes {m : BI} {q : RB} (h : Is m q) : takesR q.cl q.n q.cap = m.takes := by
  obtain ⟨⟨m1, m2, m3⟩, ⟨q1, q2, q3⟩, hc, hl, hn, hx⟩ := h
  rw [hl, hn, hc]
  unfold takesR BI.takes
  congr 1
  rw [Bool.eq_iff_iff]
  simp only [decide_eq_true_eq, Nat.blt_eq]
  omega
theorem Is.offer {m : BI} {q : RB} (h : Is m q) (v : Int) (ht : m.takes = true) : Is (m.offer v) ⟨q.cap, 0, q.n + 1, q.cl, q.n + 1, cut q.row q.o q.n ++ [v]⟩ := by
  rw [BI.offer_yes ht]
  obtain ⟨⟨m1, m2, m3⟩, ⟨q1, q2, q3⟩, hc, hl, hn, hx⟩ := h
  have ht' : m.xs.length < m.cap := by
    simp only [BI.takes, Bool.and_eq_true, Nat.blt_eq] at ht
    exact ht.2
  refine ⟨⟨m1, m2, ?_⟩, ⟨by simp, ?_, by simp only; omega⟩, hc, hl, ?_, ?_⟩
  · simp only [List.length_append, List.length_cons, List.length_nil]; omega
  · simp only [List.length_append, List.length_cons, List.length_nil]; rw [cut_len (by omega)]
  · simp only [List.length_append, List.length_cons, List.length_nil]; omega
  · simp only [hx]
    exact cut_eq (by simp only [List.length_append, List.length_cons, List.length_nil]; omega)
theorem Is.has {m : BI} {q : RB} (h : Is m q) : q.has = m.has := by
  unfold RB.has BI.has
  rw [h.n]
theorem Is.hd {m : BI} {q : RB} (h : Is m q) : q.hd = m.xs.getD 0 0 := by
  obtain ⟨_, ⟨q1, q2, q3⟩, hc, hl, hn, hx⟩ := h
  unfold RB.hd
  split
  · rename_i h0
    have : m.xs = [] := List.eq_nil_of_length_eq_zero (by omega)
    rw [this]; rfl
  · rename_i h0
    rw [← hx]
    have := cut_getD (l := q.row) (e := q.o) (n := q.n) (i := 0) (d := 0) (by omega)
    rw [this, Nat.add_zero]
theorem cut_tail {l : List Int} {o n : Nat} (h : o + n ≤ l.length) : cut l (o + min n 1) (n - 1) = (cut l o n).tail := by
  unfold cut
  cases n with
  | zero => simp
  | succ n =>
    have : min (n + 1) 1 = 1 := by omega
    rw [this, ← List.drop_drop]
    cases l.drop o with
    | nil => simp
    | cons x xs => simp
theorem Is.take {m : BI} {q : RB} (h : Is m q) : Is m.take (q.take true) := by
  obtain ⟨⟨m1, m2, m3⟩, ⟨q1, q2, q3⟩, hc, hl, hn, hx⟩ := h
  refine ⟨⟨m1, m2, ?_⟩, ⟨?_, q2, q3⟩, hc, hl, ?_, ?_⟩
  · simp only [BI.take, List.length_tail]; omega
  · simp only [RB.take, cond_true]; omega
  · simp only [RB.take, BI.take, List.length_tail, cond_true]; omega
  · simp only [RB.take, BI.take, cond_true]
    rw [cut_tail (by omega), hx]
theorem Is.takeIf {m : BI} {q : RB} (h : Is m q) (b : Bool) : Is (m.takeIf b) (q.take b) := by
  cases b with
  | true => exact h.take
  | false => exact h
theorem Is.close {m : BI} {q : RB} (h : Is m q) : Is m.close ⟨q.cap, q.o, q.n, true, q.N, q.row⟩ := by
  obtain ⟨⟨m1, m2, m3⟩, ⟨q1, q2, q3⟩, hc, hl, hn, hx⟩ := h
  exact ⟨⟨m1, m2, m3⟩, ⟨q1, q2, q3⟩, hc, rfl, hn, hx⟩
theorem Is.pourK {m m' : BI} {q q' : RB} (h : Is m q) (h' : Is m' q') : pourK q'.cl q.n q'.n q'.cap = pourN m m' := by
  have e1 := h.n
  have e2 := h'.n
  have e3 := h'.cap
  have e4 := h'.mo.len
  unfold Bx.pourK pourN
  rw [h'.cl]
  cases m'.closed with
  | true => rfl
  | false => simp only [cond_false]; omega
theorem pourN_le {m m' : BI} (h' : m'.Ok) : pourN m m' ≤ m.xs.length ∧ m'.xs.length + pourN m m' ≤ m'.cap := by
  have := h'.len
  unfold pourN
  cases m'.closed with
  | true => simp only [cond_true]; omega
  | false => simp only [cond_false]; omega
theorem Is.drop {m : BI} {q : RB} (h : Is m q) {k : Nat} (hk : k ≤ m.xs.length) : Is (m.drop k) ⟨q.cap, q.o + k, q.n - k, q.cl, q.N, q.row⟩ := by
  obtain ⟨⟨m1, m2, m3⟩, ⟨q1, q2, q3⟩, hc, hl, hn, hx⟩ := h
  refine ⟨⟨m1, m2, ?_⟩, ⟨by simp only; omega, q2, q3⟩, hc, hl, ?_, ?_⟩
  · simp only [BI.drop, List.length_drop]; omega
  · simp only [BI.drop, List.length_drop]; omega
  · simp only [BI.drop, ← hx, cut, List.drop_take, List.drop_drop]
theorem Is.more {m m' : BI} {q q' : RB} (h : Is m q) (h' : Is m' q') {k : Nat} (hk : k ≤ m.xs.length) (hr : m'.xs.length + k ≤ m'.cap) : Is (m'.more m k) ⟨q'.cap, 0, q'.n + k, q'.cl, q'.n + k, cut q'.row q'.o q'.n ++ cut q.row q.o k⟩ := by
  obtain ⟨⟨m1, m2, m3⟩, ⟨q1, q2, q3⟩, hc, hl, hn, hx⟩ := h
  obtain ⟨⟨m1', m2', m3'⟩, ⟨q1', q2', q3'⟩, hc', hl', hn', hx'⟩ := h'
  have e : cut q.row q.o k = m.xs.take k := by
    rw [← hx]
    simp only [cut, List.take_take]
    rw [Nat.min_eq_left (by omega)]
  have e2 : (cut q'.row q'.o q'.n ++ cut q.row q.o k).length = q'.n + k := by rw [List.length_append, cut_len (by omega), cut_len (by omega)]
  refine ⟨⟨m1', m2', ?_⟩, ⟨by simp, e2.symm, by simp only; omega⟩, hc', hl', ?_, ?_⟩
  · simp only [BI.more, List.length_append, List.length_take]; omega
  · simp only [BI.more, List.length_append, List.length_take]; omega
  · simp only
    rw [cut_eq e2, hx', e]
    rfl
/-- three boxes, three of the document's -/
structure Sa where
  i : Nat
  m0 : BI
  m1 : BI
  m2 : BI
  q0 : RB
  q1 : RB
  q2 : RB
structure Sa.Mid (s : Sa) : Prop where
  h0 : Is s.m0 s.q0
  h1 : Is s.m1 s.q1
  h2 : Is s.m2 s.q2
structure Sa.Ok (a : Acts) (s : Sa) : Prop where
  i : s.i ≤ a.k.length
  h : s.Mid
def vA (a : Acts) : Option (SB Rs) := some (.inr (.inr (.inl (actsRow a))))
def arrB : Option (SB Rs) := some (.inl (26, [.pointer (some ⟨3, 0, none⟩), .pointer (some ⟨4, 0, none⟩), .pointer (some ⟨5, 0, none⟩)]))
def arrM : Option (SB Rs) := some (.inl (28, [.pointer (some ⟨6, 0, none⟩), .pointer (some ⟨7, 0, none⟩), .pointer (some ⟨8, 0, none⟩)]))
abbrev slA : List Nat := [1, 5, 6, 8]
def Sa.vals (a : Acts) (s : Sa) : List Value := [.slice (some ⟨0, 0, some 3000⟩) a.k.length 0, .pointer (some ⟨1, 0, none⟩), .pointer (some ⟨2, 0, none⟩), .int .i64 s.i]
def Sa.heap (a : Acts) (s : Sa) : Hp Rs := [vA a, arrB, arrM, bI s.m0, bI s.m1, bI s.m2, s.q0.b 9 13001000, s.q1.b 10 14001000, s.q2.b 11 15001000, s.q0.r, s.q1.r, s.q2.r, none, none, none]
theorem inA (a : Acts) (s : Sa) : inbL (s.heap a).length (s.vals a) = true ∧ hpIn (s.heap a).length (s.heap a) = true ∧ 1 ≤ (s.heap a).length := ⟨rfl, rfl, by simp [Sa.heap]⟩
theorem pick_eq {m0 m1 m2 : BI} {q0 q1 q2 : RB} (h0 : Is m0 q0) (h1 : Is m1 q1) (h2 : Is m2 q2) : pickV m0 m1 m2 = pkV q0 q1 q2 ∧ pickK m0 m1 m2 = pkK q0 q1 q2 ∧ pickB m0 m1 m2 = pkB q0 q1 q2 := by
  simp only [pickV, pkV, pickK, pkK, pickB, pkB, h0.has, h1.has, h2.has, h0.hd, h1.hd, h2.hd, and_self]
theorem BI.drop_zero (m : BI) : m.drop 0 = m := by simp [BI.drop]
theorem BI.more_zero (m n : BI) : m.more n 0 = m := by simp [BI.more]
theorem inA9 (a : Acts) (s : Sa) {l : List Value} (h : inbL 15 l = true) : inbL (s.heap a).length (s.vals a ++ l) = true ∧ hpIn (s.heap a).length (s.heap a) = true ∧ 1 ≤ (s.heap a).length := ⟨by rw [show (s.heap a).length = 15 from rfl]; exact (inbL_append rfl h), rfl, by simp [Sa.heap]⟩
end Go.Proofs.Ytagiodenlhfgfaa.Bx
