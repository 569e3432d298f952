/- Symbolic runs: regions whose order is open: each operation is run on what it sees. Nothing of the program. -/
import Derived.Test.YtloibbakklenbaaRxFrame
import Derived.Still
namespace Go.Proofs.Ytloibbakklenbaa.Rx
open Go.RowKit Go.Proofs.Ytloibbakklenbaa.State
set_option linter.unusedVariables false
set_option linter.unusedSimpArgs false
mutual
def blks : Value → List Nat
  | .pointer (some a) => [a.block]
  | .slice (some a) _ _ => [a.block]
  | .map (some r) | .chan (some r) => [r]
  | .agg ⟨l⟩ => blksL l
  | .tuple ⟨l⟩ => blksL l
  | .func _ ⟨f⟩ ⟨c⟩ => blksL f ++ blksL c
  | .iface _ v => blks v
  | _ => []
def blksL : List Value → List Nat
  | [] => []
  | v :: l => blks v ++ blksL l
end
def mem (l : List Nat) (i : Nat) : Bool :=
  match l with
  | [] => false
  | j :: l => Nat.beq j i || mem l i
theorem mem_iff {l : List Nat} {i : Nat} : mem l i = true ↔ i ∈ l := by
  induction l with
  | nil => simp [mem]
  | cons j l ih => simp only [mem, Bool.or_eq_true, ih, Nat.beq_eq, List.mem_cons]; exact ⟨fun h => h.imp Eq.symm id, fun h => h.imp Eq.symm id⟩
def tmpsOf : List Operand → List Nat
  | [] => []
  | .tmp t :: l => t :: tmpsOf l
  | _ :: l => tmpsOf l
/-- what one operation of a region saw and did -/
structure Rec (R : Type) where
  o : Oper
  pre : List Nat
  run : Bool
  v : Value
  lit : Option Bool
  hr : Hp R
  hx : Hp R
  w : Bool
section
variable {R : Type} {D : Res R} {P : Program} {T : Tab R}
def ownAt (h : Hp R) (b : Nat) : Bool :=
  match h[b]? with
  | some (some X) => !isView X
  | _ => false
def newAt (r : Rec R) (b : Nat) : Bool := Nat.ble r.hr.length b && Nat.blt b r.hx.length
def touches (r : Rec R) (b : Nat) : Bool := r.w && (ownAt r.hr b || newAt r b)
def sees (r : Rec R) (b : Nat) : Bool := ownAt r.hr b || newAt r b
def allocs (r : Rec R) : Bool := Nat.blt r.hr.length r.hx.length
def at2 {α : Type} (h : List (Option α)) (b : Nat) : Option α :=
  match h[b]? with
  | some x => x
  | none => none
/-- what a block holds behind the operations that p names -/
def content (p : Nat → Bool) (b : Nat) : List (Rec R) → Nat → Option (SB R) → Option (SB R)
  | [], _, acc => acc
  | r :: l, j, acc => content p b l (j + 1) (if p j && touches r b then at2 r.hx b else acc)
/-- how many blocks there are behind them -/
def lenOf (p : Nat → Bool) : List (Rec R) → Nat → Nat → Nat
  | [], _, acc => acc
  | r :: l, j, acc => lenOf p l (j + 1) (if p j && allocs r then r.hx.length else acc)
def dstIdx : List Oper → Nat → Nat → Option Nat
  | [], _, _ => none
  | o :: l, t, i => match o.dst with
    | some u => if Nat.beq u t then some i else dstIdx l t (i + 1)
    | none => dstIdx l t (i + 1)
def mkTm (ops : List Oper) (recs : List (Rec R)) (pre tms : List Nat) : Nat → List (Option Value) → List (Option Value)
  | _, [] => []
  | t, x :: l => (if mem tms t then
      match dstIdx ops t 0 with
      | some j => if mem pre j then (match recs[j]? with
        | some r => some r.v
        | none => none) else none
      | none => x
    else none) :: mkTm ops recs pre tms (t + 1) l
def mkLi (ops : List Oper) (li : List (Nat × Bool)) (recs : List (Rec R)) (pre : List Nat) : List Nat → List (Nat × Bool)
  | [] => []
  | t :: l => (match dstIdx ops t 0 with
    | some j => if mem pre j then (match recs[j]? with
      | some r => (match r.lit with
        | some b => [(t, b)]
        | none => [])
      | none => []) else []
    | none => match look li t with
      | some b => [(t, b)]
      | none => []) ++ mkLi ops li recs pre l
def someV : List (Option Value) → List Value
  | [] => []
  | some v :: l => v :: someV l
  | none :: l => someV l
def heapOf (h0 : Hp R) (recs : List (Rec R)) (p : Nat → Bool) (sel : Nat → Bool) : Nat → Nat → Hp R
  | _, 0 => []
  | b, n + 1 => (if sel b then content p b recs 0 (at2 h0 b) else none) :: heapOf h0 recs p sel (b + 1) n
def ins (j : Nat) (l : List Nat) : List Nat := if mem l j then l else j :: l
def insL : List Nat → List Nat → List Nat
  | [], l => l
  | j :: m, l => insL m (ins j l)
theorem ins_mem {i j : Nat} {l : List Nat} : i ∈ ins j l ↔ i = j ∨ i ∈ l := by
  unfold ins
  split
  · rename_i h
    have := mem_iff.1 h
    exact ⟨Or.inr, fun h => h.elim (fun e => by rw [e]; exact this) id⟩
  · simp
theorem insL_mem {i : Nat} : ∀ {m l : List Nat}, i ∈ insL m l ↔ i ∈ m ∨ i ∈ l
  | [], l => by simp [insL]
  | j :: m, l => by
    simp only [insL, insL_mem, ins_mem, List.mem_cons]
    constructor
    · rintro (h | h | h)
      · exact Or.inl (Or.inr h)
      · exact Or.inl (Or.inl h)
      · exact Or.inr h
    · rintro ((h | h) | h)
      · exact Or.inr (Or.inl h)
      · exact Or.inl h
      · exact Or.inr (Or.inr h)
/-- the operations ahead of one -/
def preOf (recs : List (Rec R)) : List Edge → Option (List Nat)
  | [] => some []
  | e :: l =>
    match preOf recs l with
    | none => none
    | some r => if Region.binds .any e then (match recs[e.on]? with
      | some q => some (ins e.on (insL q.pre r))
      | none => none) else some r
/-- how an operation's guard stands: 0 run, 1 skip, 2 open, 3 not known -/
def guardSt (recs : List (Rec R)) (pre : List Nat) (g : Option (Nat × Bool)) : Nat :=
  match g with
  | none => 0
  | some (j, want) =>
    if mem pre j then
      match recs[j]? with
      | some r => match r.o.dst with
        | some _ => match r.lit with
          | some b => if b == want then 0 else 1
          | none => 2
        | none => 3
      | none => 3
    else 3
/-- nothing but what was seen is there behind it, and what is new -/
def backOk : Hp R → Hp R → Bool
  | [], [] => true
  | [], none :: hx => backOk [] hx
  | [], some X :: hx => !isView X && backOk [] hx
  | _ :: _, [] => false
  | none :: hr, none :: hx => backOk hr hx
  | none :: _, some _ :: _ => false
  | some Y :: hr, none :: hx => backOk hr hx
  | some Y :: hr, some X :: hx => (!isView X || isView Y) && backOk hr hx
/-- the blocks that the cells of some blocks lead to -/
def reach (h : Hp R) : Nat → List Nat → List Nat
  | 0, l => l
  | n + 1, l => reach h n (l ++ blksL (l.flatMap fun b => match at2 h b with
    | some (.inl (_, cs)) => cs
    | _ => []))
/-- the blocks that an operation sees -/
def selOf (o : Oper) (B : List Nat) (h : Hp R) : List Nat :=
  match o.op with
  | .call ⟨.value _, _, _⟩ => reach h 2 B
  | _ => B
def seenTm (ops : List Oper) (σ0 : SS R) (recs : List (Rec R)) (pre : List Nat) (o : Oper) : List (Option Value) := mkTm ops recs pre (tmpsOf o.op.operands.toList) 0 σ0.tm
def seenSel (ops : List Oper) (σ0 : SS R) (recs : List (Rec R)) (pre : List Nat) (o : Oper) : Nat → Bool :=
  mem (selOf o (blksL (someV (seenTm ops σ0 recs pre o))) (heapOf σ0.hp recs (mem pre) (fun _ => true) 0 (lenOf (mem pre) recs 0 σ0.hp.length)))
def seenSt (ops : List Oper) (σ0 : SS R) (recs : List (Rec R)) (pre : List Nat) (o : Oper) : SS R :=
  ⟨seenTm ops σ0 recs pre o, mkLi ops σ0.li recs pre (tmpsOf o.op.operands.toList),
    heapOf σ0.hp recs (mem pre) (seenSel ops σ0 recs pre o) 0 (lenOf (mem pre) recs 0 σ0.hp.length)⟩
def dstOk (n : Nat) (d : Option Tmp) : Bool :=
  match d with
  | some t => Nat.blt t n
  | none => true
def seenOk (σ0 : SS R) (st : SS R) (o : Oper) (x : Out R) : Bool :=
  tidy st o.dst x && dstOk σ0.tm.length o.dst && hpIn st.hp.length st.hp && inbL st.hp.length (someV st.tm) && backOk st.hp x.hp
def asmOf (asm : List (Nat × Bool)) (d : Option Tmp) : Option Bool :=
  match d with
  | some t => look asm t
  | none => none
def addRec (recs : List (Rec R)) (r : Rec R) : List (Rec R) := recs ++ [r]
/-- one operation of a region -/
def drawOne (P : Program) (T : Tab R) (σ0 : SS R) (asm : List (Nat × Bool)) (o : Oper) (pre : List Nat) (tm : List (Option Value)) (li : List (Nat × Bool)) (hr : Hp R) (k : Rec R → Prop) (way : Bool) : Prop :=
  match sop P T ⟨tm, li, hr⟩ o way with
  | none => Stuck 21
  | some x =>
    if seenOk σ0 ⟨tm, li, hr⟩ o x then
      also (easy (⟨tm, li, hr⟩ : SS R) o) x.vc (fHp x.hp fun hx => fV x.v fun v =>
        match x.lit with
        | some b => fB b fun b => fB (!x.wr.isEmpty) fun wr => k ⟨o, pre, true, v, some b, hr, hx, wr⟩
        | none => fB (!x.wr.isEmpty) fun wr => match asmOf asm o.dst with
          | some b => Vc (v = .bool b) ∧ k ⟨o, pre, true, .bool b, some b, hr, hx, wr⟩
          | none => k ⟨o, pre, true, v, none, hr, hx, wr⟩)
    else Stuck 22
def drawGo (P : Program) (T : Tab R) (ops : List Oper) (σ0 : SS R) (asm : List (Nat × Bool)) (k : List (Rec R) → Prop) (fk : Nat → Bool → Prop) : List Oper → List (Rec R) → Prop
  | [], recs => k recs
  | o :: l, recs =>
    match preOf recs o.after.toList with
    | none => Stuck 20
    | some pre => fNs pre fun pre =>
      match guardSt recs pre o.guard with
      | 0 => fTm (seenTm ops σ0 recs pre o) fun tm => fLi (mkLi ops σ0.li recs pre (tmpsOf o.op.operands.toList)) fun li => fHp (heapOf σ0.hp recs (mem pre) (fun _ => true) 0 (lenOf (mem pre) recs 0 σ0.hp.length)) fun hp =>
        fNs (selOf o (blksL (someV tm)) hp) fun sel => fHp (heapOf σ0.hp recs (mem pre) (mem sel) 0 (lenOf (mem pre) recs 0 σ0.hp.length)) fun hr =>
        match forkOf T (⟨tm, li, hr⟩ : SS R) o with
        | none => drawOne P T σ0 asm o pre tm li hr (fun r => drawGo P T ops σ0 asm k fk l (addRec recs r)) true
        | some c => (c = true → drawOne P T σ0 asm o pre tm li hr (fun r => drawGo P T ops σ0 asm k fk l (addRec recs r)) true) ∧
          (c = false → drawOne P T σ0 asm o pre tm li hr (fun r => drawGo P T ops σ0 asm k fk l (addRec recs r)) false)
      | 1 => drawGo P T ops σ0 asm k fk l (addRec recs ⟨o, pre, false, undef, none, [], [], false⟩)
      | 2 =>
        match o.guard with
        | some (j, _) => match recs[j]? with
          | some r => match r.o.dst, r.v with
            | some t, .bool c => fk t c
            | _, _ => Stuck 23
          | none => Stuck 24
        | none => Stuck 25
      | _ => Stuck 26
def allLt (f : Nat → Bool) : Nat → Bool
  | 0 => true
  | n + 1 => f n && allLt f n
def clash (a b : Rec R) (n : Nat) : Bool := !allLt (fun i => !((touches a i && sees b i) || (touches b i && sees a i))) n
def pairOk (n : Nat) (i j : Nat) (a b : Rec R) : Bool :=
  (match a.o.dst, b.o.dst with
    | some t, some u => !Nat.beq t u
    | _, _ => true) &&
  (mem b.pre i || (!((a.w || b.w) && clash a b n) && !(allocs a && allocs b))) && (!(allocs a && allocs b) || Nat.ble a.hx.length b.hr.length)
def pairsOk (n : Nat) (i : Nat) (a : Rec R) : Nat → List (Rec R) → Bool
  | _, [] => true
  | j, b :: l => pairOk n i j a b && pairsOk n i a (j + 1) l
def allPairs (n : Nat) : Nat → List (Rec R) → Bool
  | _, [] => true
  | i, a :: l => pairsOk n i a (i + 1) l && allPairs n (i + 1) l
def finTm (ops : List Oper) (recs : List (Rec R)) : Nat → List (Option Value) → List (Option Value)
  | _, [] => []
  | t, x :: l => (match dstIdx ops t 0 with
    | some j => (match recs[j]? with
      | some r => some r.v
      | none => none)
    | none => x) :: finTm ops recs (t + 1) l
def finLi (ops : List Oper) (N : Nat) (recs : List (Rec R)) (li : List (Nat × Bool)) : List (Nat × Bool) :=
  (recs.flatMap fun r => match r.o.dst, r.lit with
    | some t, some b => if Nat.blt t N then [(t, b)] else []
    | _, _ => []) ++ li.filter fun q => match dstIdx ops q.1 0 with
      | some _ => false
      | none => true
def finSt (ops : List Oper) (σ0 : SS R) (recs : List (Rec R)) : SS R :=
  ⟨finTm ops recs 0 σ0.tm, finLi ops σ0.tm.length recs σ0.li, heapOf σ0.hp recs (fun _ => true) (fun _ => true) 0 (lenOf (fun _ => true) recs 0 σ0.hp.length)⟩
/-- a region whose order is open: run under what is assumed of its guards -/
def rxDraw (P : Program) (T : Tab R) (ops : List Oper) (σ0 : SS R) (k : SS R → Prop) : Nat → List (Nat × Bool) → Prop
  | 0, _ => Stuck 27
  | n + 1, asm => drawGo P T ops σ0 asm
      (fun recs => if allPairs (lenOf (fun _ => true) recs 0 σ0.hp.length) 0 recs then fSS (finSt ops σ0 recs) k else Stuck 28)
      (fun t c => (c = true → rxDraw P T ops σ0 k n ((t, true) :: asm)) ∧ (c = false → rxDraw P T ops σ0 k n ((t, false) :: asm))) ops []
end
end Go.Proofs.Ytloibbakklenbaa.Rx
