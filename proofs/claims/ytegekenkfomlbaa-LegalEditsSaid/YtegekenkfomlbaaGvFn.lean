/- grove: what its functions do to a pool, as plain functions; the trees that are there behind them. -/
import Derived.Test.YtegekenkfomlbaaGvTree
namespace Go.Proofs.Ytegekenkfomlbaa.Gv
open Go.Proofs.Ytegekenkfomlbaa.Rx
set_option linter.unusedVariables false
set_option linter.unusedSimpArgs false
set_option linter.unusedSectionVars false
/-- elements and sums -/
structure Ops (E A : Type) where
  e0 : E
  a0 : A
  cmp : E → E → Int
  sum : E → A
  plus : A → A → A
structure Part (A : Type) where
  n : Int
  sum : A
structure Node (E A : Type) where
  e : E
  l : Ref
  r : Ref
  all : Part A
  h : Int
abbrev Po (E A : Type) := PM (Node E A)
def mx (a b : Int) : Int := if b > a then b else a
def mn (a b : Int) : Int := if b < a then b else a
section
variable {E A : Type} (O : Ops E A)
def zn : Node E A := ⟨O.e0, r0, r0, ⟨0, O.a0⟩, 0⟩
def lk (m : Po E A) (r : Ref) : Node E A := look (zn O) m r
def one (e : E) : Part A := ⟨1, O.sum e⟩
def plusP (p q : Part A) : Part A := if p.n = 0 then q else if q.n = 0 then p else ⟨W (p.n + q.n), O.plus p.sum q.sum⟩
def setN (m : Po E A) (r : Ref) (n l q : Node E A) : Po E A := put1 m r ⟨n.e, n.l, n.r, plusP O (plusP O l.all (one O n.e)) q.all, W (1 + mx l.h q.h)⟩
def tie (m : Po E A) (r : Ref) (n : Node E A) : Po E A := setN O (see (see m n.l) n.r) r n (lk O m n.l) (lk O (see m n.l) n.r)
def turnL (m : Po E A) (r : Ref) (n : Node E A) : Po E A :=
  tie O (tie O (see m n.r) r ⟨n.e, n.l, (lk O m n.r).l, n.all, n.h⟩) n.r ⟨(lk O m n.r).e, r, (lk O m n.r).r, (lk O m n.r).all, (lk O m n.r).h⟩
def turnR (m : Po E A) (r : Ref) (n : Node E A) : Po E A :=
  tie O (tie O (see m n.l) r ⟨n.e, (lk O m n.l).r, n.r, n.all, n.h⟩) n.l ⟨(lk O m n.l).e, (lk O m n.l).l, r, (lk O m n.l).all, (lk O m n.l).h⟩
def level (m : Po E A) (r : Ref) (n : Node E A) : Ref × Po E A :=
  if (lk O m n.l).h > W ((lk O (see m n.l) n.r).h + 1) then
    if (lk O (see (see m n.l) n.r) (lk O m n.l).r).h > (lk O (see (see (see m n.l) n.r) (lk O m n.l).r) (lk O m n.l).l).h then
      ((lk O m n.l).r, turnR O (turnL O (see (see (see (see m n.l) n.r) (lk O m n.l).r) (lk O m n.l).l) n.l (lk O m n.l)) r ⟨n.e, (lk O m n.l).r, n.r, n.all, n.h⟩)
    else (n.l, turnR O (see (see (see (see m n.l) n.r) (lk O m n.l).r) (lk O m n.l).l) r n)
  else if (lk O (see m n.l) n.r).h > W ((lk O m n.l).h + 1) then
    if (lk O (see (see m n.l) n.r) (lk O (see m n.l) n.r).l).h > (lk O (see (see (see m n.l) n.r) (lk O (see m n.l) n.r).l) (lk O (see m n.l) n.r).r).h then
      ((lk O (see m n.l) n.r).l, turnL O (turnR O (see (see (see (see m n.l) n.r) (lk O (see m n.l) n.r).l) (lk O (see m n.l) n.r).r) n.r (lk O (see m n.l) n.r)) r ⟨n.e, n.l, (lk O (see m n.l) n.r).l, n.all, n.h⟩)
    else (n.r, turnL O (see (see (see (see m n.l) n.r) (lk O (see m n.l) n.r).l) (lk O (see m n.l) n.r).r) r n)
  else (r, setN O (see (see m n.l) n.r) r n (lk O m n.l) (lk O (see m n.l) n.r))
/-- below a handle there are fewer than k nodes one under the other -/
def Deep : Nat → Po E A → Ref → Prop
  | 0, _, _ => False
  | k + 1, m, r => (lk O m r).h = 0 ∨ (Deep k m (lk O m r).l ∧ Deep k m (lk O m r).r)
def replace : Nat → Po E A → Ref → E → Bool × Po E A
  | 0, m, _, _ => (false, m)
  | k + 1, m, r, e =>
    if (lk O m r).h = 0 then (false, see m r)
    else if O.cmp e (lk O m r).e < 0 then
      if (replace k (see m r) (lk O m r).l e).1 = true then (true, tie O (replace k (see m r) (lk O m r).l e).2 r (lk O m r)) else replace k (see m r) (lk O m r).l e
    else if O.cmp e (lk O m r).e > 0 then
      if (replace k (see m r) (lk O m r).r e).1 = true then (true, tie O (replace k (see m r) (lk O m r).r e).2 r (lk O m r)) else replace k (see m r) (lk O m r).r e
    else (true, tie O (see m r) r ⟨e, (lk O m r).l, (lk O m r).r, (lk O m r).all, (lk O m r).h⟩)
def hang : Nat → Po E A → Ref → Ref → E → Ref × Po E A
  | 0, m, _, f, _ => (f, m)
  | k + 1, m, r, f, e =>
    if (lk O m r).h = 0 then (f, see m r)
    else if O.cmp e (lk O m r).e < 0 then
      level O (hang k (see m r) (lk O m r).l f e).2 r ⟨(lk O m r).e, (hang k (see m r) (lk O m r).l f e).1, (lk O m r).r, (lk O m r).all, (lk O m r).h⟩
    else
      level O (hang k (see m r) (lk O m r).r f e).2 r ⟨(lk O m r).e, (lk O m r).l, (hang k (see m r) (lk O m r).r f e).1, (lk O m r).all, (lk O m r).h⟩
def link : Nat → Po E A → Ref → Ref → Ref → Ref × Po E A
  | 0, m, _, b, _ => (b, m)
  | k + 1, m, a, b, c =>
    if (lk O m a).h > W ((lk O (see m a) c).h + 1) then
      level O (link k (see (see m a) c) (lk O m a).r b c).2 a ⟨(lk O m a).e, (lk O m a).l, (link k (see (see m a) c) (lk O m a).r b c).1, (lk O m a).all, (lk O m a).h⟩
    else if (lk O (see m a) c).h > W ((lk O m a).h + 1) then
      level O (link k (see (see m a) c) a b (lk O (see m a) c).l).2 c ⟨(lk O (see m a) c).e, (link k (see (see m a) c) a b (lk O (see m a) c).l).1, (lk O (see m a) c).r, (lk O (see m a) c).all, (lk O (see m a) c).h⟩
    else (b, setN O (see (see (see m a) c) b) b ⟨(lk O (see (see m a) c) b).e, a, c, (lk O (see (see m a) c) b).all, (lk O (see (see m a) c) b).h⟩ (lk O m a) (lk O (see m a) c))
def LinkD : Nat → Po E A → Ref → Ref → Ref → Prop
  | 0, _, _, _, _ => False
  | k + 1, m, a, b, c =>
    if (lk O m a).h > W ((lk O (see m a) c).h + 1) then LinkD k (see (see m a) c) (lk O m a).r b c
    else if (lk O (see m a) c).h > W ((lk O m a).h + 1) then LinkD k (see (see m a) c) a b (lk O (see m a) c).l
    else True
/-- what is left, the first node, the pool -/
def pickF : Nat → Po E A → Ref → Ref × Ref × Po E A
  | 0, m, r => (r, r, m)
  | k + 1, m, r =>
    if (lk O m r).l = r0 then ((lk O m r).r, r, see m r)
    else
      ((level O (pickF k (see m r) (lk O m r).l).2.2 r ⟨(lk O m r).e, (pickF k (see m r) (lk O m r).l).1, (lk O m r).r, (lk O m r).all, (lk O m r).h⟩).1, (pickF k (see m r) (lk O m r).l).2.1,
        (level O (pickF k (see m r) (lk O m r).l).2.2 r ⟨(lk O m r).e, (pickF k (see m r) (lk O m r).l).1, (lk O m r).r, (lk O m r).all, (lk O m r).h⟩).2)
def PickFD : Nat → Po E A → Ref → Prop
  | 0, _, _ => False
  | k + 1, m, r => if (lk O m r).l = r0 then True else PickFD k (see m r) (lk O m r).l
def glue (k : Nat) (m : Po E A) (a c : Ref) : Ref × Po E A :=
  if c = r0 then (a, m) else link O k (pickF O k m c).2.2 a (pickF O k m c).2.1 (pickF O k m c).1
def GlueD (k : Nat) (m : Po E A) (a c : Ref) : Prop :=
  if c = r0 then True else PickFD O k m c ∧ LinkD O k (pickF O k m c).2.2 a (pickF O k m c).2.1 (pickF O k m c).1
/-- what is left, the node, the pool -/
def pick (K : Nat) : Nat → Po E A → Ref → E → Ref × Ref × Po E A
  | 0, m, r, _ => (r, r0, m)
  | k + 1, m, r, e =>
    if (lk O m r).h = 0 then (r, r0, see m r)
    else if O.cmp e (lk O m r).e < 0 then
      if (pick K k (see m r) (lk O m r).l e).2.1 = r0 then (r, (pick K k (see m r) (lk O m r).l e).2.1, (pick K k (see m r) (lk O m r).l e).2.2)
      else ((level O (pick K k (see m r) (lk O m r).l e).2.2 r ⟨(lk O m r).e, (pick K k (see m r) (lk O m r).l e).1, (lk O m r).r, (lk O m r).all, (lk O m r).h⟩).1, (pick K k (see m r) (lk O m r).l e).2.1,
        (level O (pick K k (see m r) (lk O m r).l e).2.2 r ⟨(lk O m r).e, (pick K k (see m r) (lk O m r).l e).1, (lk O m r).r, (lk O m r).all, (lk O m r).h⟩).2)
    else if O.cmp e (lk O m r).e > 0 then
      if (pick K k (see m r) (lk O m r).r e).2.1 = r0 then (r, (pick K k (see m r) (lk O m r).r e).2.1, (pick K k (see m r) (lk O m r).r e).2.2)
      else ((level O (pick K k (see m r) (lk O m r).r e).2.2 r ⟨(lk O m r).e, (lk O m r).l, (pick K k (see m r) (lk O m r).r e).1, (lk O m r).all, (lk O m r).h⟩).1, (pick K k (see m r) (lk O m r).r e).2.1,
        (level O (pick K k (see m r) (lk O m r).r e).2.2 r ⟨(lk O m r).e, (lk O m r).l, (pick K k (see m r) (lk O m r).r e).1, (lk O m r).all, (lk O m r).h⟩).2)
    else ((glue O K (see m r) (lk O m r).l (lk O m r).r).1, r, (glue O K (see m r) (lk O m r).l (lk O m r).r).2)
def PickD (K : Nat) : Nat → Po E A → Ref → E → Prop
  | 0, _, _, _ => False
  | k + 1, m, r, e =>
    if (lk O m r).h = 0 then True
    else if O.cmp e (lk O m r).e < 0 then PickD K k (see m r) (lk O m r).l e
    else if O.cmp e (lk O m r).e > 0 then PickD K k (see m r) (lk O m r).r e
    else GlueD O K (see m r) (lk O m r).l (lk O m r).r
/-- what is ahead, what is not, the pool -/
def cutF (K : Nat) : Nat → Po E A → Ref → E → Ref × Ref × Po E A
  | 0, m, _, _ => (r0, r0, m)
  | k + 1, m, r, e =>
    if (lk O m r).h = 0 then (r0, r0, see m r)
    else if O.cmp (lk O m r).e e < 0 then
      ((link O K (cutF K k (see m r) (lk O m r).r e).2.2 (lk O m r).l r (cutF K k (see m r) (lk O m r).r e).1).1, (cutF K k (see m r) (lk O m r).r e).2.1,
        (link O K (cutF K k (see m r) (lk O m r).r e).2.2 (lk O m r).l r (cutF K k (see m r) (lk O m r).r e).1).2)
    else
      ((cutF K k (see m r) (lk O m r).l e).1, (link O K (cutF K k (see m r) (lk O m r).l e).2.2 (cutF K k (see m r) (lk O m r).l e).2.1 r (lk O m r).r).1,
        (link O K (cutF K k (see m r) (lk O m r).l e).2.2 (cutF K k (see m r) (lk O m r).l e).2.1 r (lk O m r).r).2)
def CutD (K : Nat) : Nat → Po E A → Ref → E → Prop
  | 0, _, _, _ => False
  | k + 1, m, r, e =>
    if (lk O m r).h = 0 then True
    else if O.cmp (lk O m r).e e < 0 then CutD K k (see m r) (lk O m r).r e ∧ LinkD O K (cutF O K k (see m r) (lk O m r).r e).2.2 (lk O m r).l r (cutF O K k (see m r) (lk O m r).r e).1
    else CutD K k (see m r) (lk O m r).l e ∧ LinkD O K (cutF O K k (see m r) (lk O m r).l e).2.2 (cutF O K k (see m r) (lk O m r).l e).2.1 r (lk O m r).r
def gather : Nat → Po E A → Ref → List E × Po E A
  | 0, m, _ => ([], m)
  | k + 1, m, r =>
    if (lk O m r).h = 0 then ([], see m r)
    else ((gather k (see m r) (lk O m r).l).1 ++ (lk O m r).e :: (gather k (gather k (see m r) (lk O m r).l).2 (lk O m r).r).1, (gather k (gather k (see m r) (lk O m r).l).2 (lk O m r).r).2)
def between : Nat → Po E A → Node E A → Int → Int → Part A × Po E A
  | 0, m, _, _, _ => (⟨0, O.a0⟩, m)
  | k + 1, m, n, from_, to =>
    if mx from_ 0 ≥ mn to n.all.n then (⟨0, O.a0⟩, m)
    else if mx from_ 0 = 0 ∧ mn to n.all.n = n.all.n then (n.all, m)
    else
      let x := between k (see m n.l) (lk O m n.l) (mx from_ 0) (mn to n.all.n)
      let s := if mx from_ 0 ≤ (lk O m n.l).all.n ∧ (lk O m n.l).all.n < mn to n.all.n then plusP O x.1 (one O n.e) else x.1
      if mn to n.all.n ≤ W ((lk O m n.l).all.n + 1) then (s, x.2)
      else
        let y := between k (see x.2 n.r) (lk O x.2 n.r) (W (W (mx from_ 0 - (lk O m n.l).all.n) - 1)) (W (W (mn to n.all.n - (lk O m n.l).all.n) - 1))
        (plusP O s y.1, y.2)
/-- a node's two sides have fewer than k nodes one under the other -/
def DeepN : Nat → Po E A → Node E A → Prop
  | 0, _, _ => False
  | k + 1, m, n => n.h = 0 ∨ (Deep O k m n.l ∧ Deep O k m n.r)
def BetD : Nat → Po E A → Node E A → Int → Int → Prop
  | 0, _, _, _, _ => False
  | k + 1, m, n, from_, to =>
    if mx from_ 0 ≥ mn to n.all.n then True
    else if mx from_ 0 = 0 ∧ mn to n.all.n = n.all.n then True
    else BetD k (see m n.l) (lk O m n.l) (mx from_ 0) (mn to n.all.n) ∧
      (mn to n.all.n ≤ W ((lk O m n.l).all.n + 1) ∨
        BetD k (see (between O k (see m n.l) (lk O m n.l) (mx from_ 0) (mn to n.all.n)).2 n.r) (lk O (between O k (see m n.l) (lk O m n.l) (mx from_ 0) (mn to n.all.n)).2 n.r)
          (W (W (mx from_ 0 - (lk O m n.l).all.n) - 1)) (W (W (mn to n.all.n - (lk O m n.l).all.n) - 1)))
def first (may : A → A → Bool) : Nat → Po E A → Node E A → Part A → Int → Int × Po E A
  | 0, m, _, _, _ => (-1, m)
  | k + 1, m, n, a, from_ =>
    if n.h = 0 ∨ W (a.n + n.all.n) ≤ from_ then (-1, m)
    else if a.n ≥ from_ ∧ may a.sum n.all.sum = false then (-1, m)
    else if (first may k (see m n.l) (lk O m n.l) a from_).1 ≥ 0 then first may k (see m n.l) (lk O m n.l) a from_
    else if (plusP O a (lk O m n.l).all).n ≥ from_ ∧ may (plusP O a (lk O m n.l).all).sum (O.sum n.e) = true then ((plusP O a (lk O m n.l).all).n, (first may k (see m n.l) (lk O m n.l) a from_).2)
    else first may k (see (first may k (see m n.l) (lk O m n.l) a from_).2 n.r) (lk O (first may k (see m n.l) (lk O m n.l) a from_).2 n.r) (plusP O (plusP O a (lk O m n.l).all) (one O n.e)) from_
def last (may : A → A → Bool) : Nat → Po E A → Node E A → Part A → Int → Int × Po E A
  | 0, m, _, _, _ => (-1, m)
  | k + 1, m, n, a, to =>
    if n.h = 0 ∨ a.n ≥ to then (-1, m)
    else if W (a.n + n.all.n) ≤ to ∧ may a.sum n.all.sum = false then (-1, m)
    else
      let b := plusP O a (lk O m n.l).all
      let x := last may k (see (see m n.l) n.r) (lk O (see m n.l) n.r) (plusP O b (one O n.e)) to
      if x.1 ≥ 0 then x
      else if b.n < to ∧ may b.sum (O.sum n.e) = true then (b.n, x.2)
      else last may k x.2 (lk O m n.l) a to
def find : Nat → Po E A → Node E A → E → (E × Bool) × Po E A
  | 0, m, _, _ => ((O.e0, false), m)
  | k + 1, m, n, e =>
    if n.h > 0 then
      if O.cmp e n.e = 0 then ((n.e, true), m)
      else if O.cmp e n.e < 0 then find k (see m n.l) (lk O m n.l) e
      else find k (see m n.r) (lk O m n.r) e
    else ((O.e0, false), m)
def rank : Nat → Po E A → Node E A → E → Int → Int × Po E A
  | 0, m, _, _, c => (c, m)
  | k + 1, m, n, e, c =>
    if n.h > 0 then
      if O.cmp e n.e ≤ 0 then rank k (see m n.l) (lk O m n.l) e c
      else rank k (see m n.r) (lk O m n.r) e (W (c + W (n.all.n - (lk O m n.r).all.n)))
    else (c, m)
def nthF : Nat → Po E A → Node E A → Int → E × Po E A
  | 0, m, _, _ => (O.e0, m)
  | k + 1, m, n, i =>
    if i = (lk O m n.l).all.n then (n.e, see m n.l)
    else if i < (lk O m n.l).all.n then nthF k (see m n.l) (lk O m n.l) i
    else nthF k (see (see m n.l) n.r) (lk O (see m n.l) n.r) (W (i - W ((lk O m n.l).all.n + 1)))
end
end Go.Proofs.Ytegekenkfomlbaa.Gv
