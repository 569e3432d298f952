/- Symbolic runs, second part: regions, code, functions. Nothing of the program. -/
import Derived.Test.YtobdpddamdkabaaDoorRxA
import Derived.Scope
import Derived.Still
namespace Go.Proofs.YtobdpddamdkabaaDoor.Rx
open Go.RowKit Go.Proofs.YtobdpddamdkabaaDoor.State
set_option linter.unusedVariables false
set_option linter.unusedSimpArgs false
/-- a contract, by what it does to the run's heap -/
abbrev Prim (R : Type) := List Value → Hp R → Option (Out R)
/-- a contract that may go two ways: which; what it does so, and so -/
structure Con (R : Type) where
  when : List Value → Hp R → Option Bool
  yes : Prim R
  no : Prim R
def Con.go {R : Type} (c : Con R) (b : Bool) : Prim R :=
  match b with
  | true => c.yes
  | false => c.no
/-- a contract of one way -/
def con1 {R : Type} (p : Prim R) : Con R := ⟨fun _ _ => none, p, fun _ _ => none⟩
abbrev Tab (R : Type) := List (FuncId × Con R)
def findT {R : Type} : Tab R → FuncId → Option (Con R)
  | [], _ => none
  | (g, p) :: l, f => if Nat.beq g f then some p else findT l f
/-- the number under which a table tells what can be read of the proof's things -/
def findF {R : Type} (T : Tab R) (f : FuncId) : Option (Con R) := if Nat.beq f 1000000000 || Nat.beq f 1000000001 then none else findT T f
/-- what can be read of the proof's things -/
def RdOk {R : Type} (D : Res R) (c : Con R) : Prop := ((c.no [] []).isSome = true → ∀ X p F w, D.H X p F w → F p.blk ∧ ∃ ca ta, w.heap[p.blk]? = some (.cells ca ta (0, 0))) ∧ ∀ e X x p F w, c.yes [.pointer (some ⟨0, e, none⟩)] [some (.inr (.inr (.inr X)))] = some x → D.H X p F w → flat x.v = true ∧ w.cell? ⟨p.blk, p.off + e, none⟩ = some x.v
/-- what the proof's things are as maps: c.yes reads ([type, ok, key]; [type]: how many), c.no writes ([type, key, value]; [type, key]: no more; [type] of no thing: a new one) -/
structure MpOk {R : Type} (D : Res R) (P : Program) (c : Con R) : Prop where
  look : ∀ (t : Nat) ok key X x p F w, c.yes [.int .i64 t, .bool ok, key] [some (.inr (.inr (.inr X)))] = some x → D.H X p F w → x.vc → (Instr.lookup t (.map (some p.blk)) key ok).run P w = .ok x.v w
  len : ∀ (t ty : Nat) X x p F w, c.yes [.int .i64 t] [some (.inr (.inr (.inr X)))] = some x → D.H X p F w → (Builtin.len_ #[t] ty #[.map (some p.blk)]).run P w = .ok x.v w
  set : ∀ (t : Nat) key val X X' x p F w, c.no [.int .i64 t, key, val] [some (.inr (.inr (.inr X)))] = some x → x.hp = [some (.inr (.inr (.inr X')))] → D.H X p F w → x.vc →
    ∃ w', (Instr.mapUpdate t (.map (some p.blk)) key val).run P w = .ok () w' ∧ D.H X' p F w' ∧ Kept F w w'
  del : ∀ (t k ty : Nat) key X X' x p F w, c.no [.int .i64 t, .bool true, .int .i64 k, key] [some (.inr (.inr (.inr X)))] = some x → x.hp = [some (.inr (.inr (.inr X')))] → D.H X p F w → x.vc →
    ∃ w', (Builtin.delete_ #[t, k] ty #[.map (some p.blk), key]).run P w = .ok (.tuple #[]) w' ∧ D.H X' p F w' ∧ Kept F w w'
  make : ∀ (t : Nat) X' x, c.no [.int .i64 t] [] = some x → x.hp = [some (.inr (.inr (.inr X')))] → ∀ w : World, D.H X' ⟨w.heap.size, 0, 0, false⟩ (fun k => k = w.heap.size) (w.alloc (.map #[] 0))
structure PrimOk {R : Type} (D : Res R) (P : Program) (f : FuncId) (on : List Value → Hp R → Prop) (p : Prim R) : Prop where
  known : ∃ fn, P.funcs[f]? = some fn ∧ (fn.name == "runtime.NumGoroutine") = false ∧ fn.body.isNone = false
  run : ∀ args h x, on args h → p args h = some x → ∀ C ρ ft w, HM D C ρ ft h w → x.vc → inbL h.length args = true →
    Calls P f (args.map (ren ρ)).toArray w fun e w' => ∃ ρ' ft', (∀ i, i < h.length → ρ' i = ρ i) ∧ e = .returned (ren ρ' x.v) ∧ HM D C ρ' ft' x.hp w'
  len : ∀ args h x, p args h = some x → h.length ≤ x.hp.length
  lit : ∀ args h x, p args h = some x → ∀ b, x.lit = some b → x.v = .bool b
  still : ∀ args h x, p args h = some x → x.wr = [] → x.hp = h
/-- of the ways a contract may go, it goes this one -/
def way {R : Type} (c : Con R) (b : Bool) (args : List Value) (h : Hp R) : Prop := (c.when args h = none ∧ b = true) ∨ c.when args h = some b
def ConOk {R : Type} (D : Res R) (P : Program) (f : FuncId) (c : Con R) : Prop := ∀ b, PrimOk D P f (way c b) (c.go b)
theorem con1_ok {R : Type} {D : Res R} {P : Program} {f : FuncId} {p : Prim R} (h : PrimOk D P f (fun _ _ => True) p) : ConOk D P f (con1 p) := by
  intro b
  cases b with
  | true => exact ⟨h.known, fun args hh x _ => h.run args hh x trivial, h.len, h.lit, h.still⟩
  | false => exact ⟨h.known, (fun _ _ _ _ hx => by cases hx), (fun _ _ _ hx => by cases hx), (fun _ _ _ hx => by cases hx), (fun _ _ _ hx => by cases hx)⟩
/-- which blocks a call leaves as they were: where its list of what it writes begins with (0, 1), those that aren't behind that -/
def memF : List (Nat × Nat) → Nat → Bool
  | [], _ => false
  | p :: l, b => Nat.beq p.1 b || memF l b
def keepB (wr : List (Nat × Nat)) (b : Nat) : Bool :=
  match wr with
  | (0, 1) :: l => !memF l b
  | _ => false
structure ConOkK {R : Type} (D : Res R) (P : Program) (f : FuncId) (c : Con R) : Prop where
  ok : ConOk D P f c
  keep : ∀ b args h x, c.go b args h = some x → ∀ i, i < h.length → keepB x.wr i = true → x.hp[i]? = h[i]?
def TabOk {R : Type} (D : Res R) (P : Program) : Tab R → Prop
  | [] => True
  | (f, c) :: l => (match Nat.beq f 1000000000 with
    | true => RdOk D c
    | false => match Nat.beq f 1000000001 with
      | true => MpOk D P c
      | false => ConOkK D P f c) ∧ TabOk D P l
section
variable {R : Type} {D : Res R} {P : Program} {T : Tab R} {C : Ctx} {ρ : Env} {ft : Nat → Nat → Prop} {w w' : World}
theorem findT_ok (hT : TabOk D P T) {f : FuncId} {p : Con R} (h : findT T f = some p) : match Nat.beq f 1000000000 with
    | true => RdOk D p
    | false => match Nat.beq f 1000000001 with
      | true => MpOk D P p
      | false => ConOkK D P f p := by
  induction T with
  | nil => cases h
  | cons a l ih =>
    simp only [findT] at h
    split at h
    · rename_i hb
      have := Nat.eq_of_beq_eq_true hb
      subst this
      injection h with h
      subst h
      exact hT.1
    · exact ih hT.2 h
theorem findF_ok (hT : TabOk D P T) {f : FuncId} {p : Con R} (h : findF T f = some p) : ConOkK D P f p := by
  unfold findF at h
  split at h
  · cases h
  · rename_i hb
    have := findT_ok hT h
    simp only [Bool.or_eq_true, not_or, Bool.not_eq_true] at hb
    rw [hb.1, hb.2] at this
    exact this
theorem findM_ok (hT : TabOk D P T) {p : Con R} (h : findT T 1000000001 = some p) : MpOk D P p := findT_ok hT h
theorem findR_ok (hT : TabOk D P T) {p : Con R} (h : findT T 1000000000 = some p) : RdOk D p := findT_ok hT h
def evs (tm : List (Option Value)) : List Operand → Option (List Value)
  | [] => some []
  | y :: l =>
    match ev tm y, evs tm l with
    | some v, some r => some (v :: r)
    | _, _ => none
theorem evs_eval {n : Nat} {tm : List (Option Value)} {a : Act} (ht : TM ρ n tm a) : ∀ {l : List Operand} {r : List Value}, evs tm l = some r → l.map a.eval = r.map (ren ρ) ∧ inbL n r = true
  := by intro a;induction a<;>intros<;>grind[evs,ev_eval,inbL]
theorem inbL_append {n : Nat} {l r : List Value} (h1 : inbL n l = true) (h2 : inbL n r = true) : inbL n (l ++ r) = true := by
  grind[inbL_iff]
def opCall (T : Tab R) (σ : SS R) (f : Operand) (args : List Operand) (b : Bool) : Option (Out R) :=
  match ev σ.tm f, evs σ.tm args with
  | some (.func (.func g) ⟨fi⟩ ⟨ca⟩), some vs => match findF T g with
    | some p => p.go b ((fi ++ vs) ++ ca) σ.hp
    | none => none
  | _, _ => none
/-- which way a call goes, where it may go two -/
def forkCall (T : Tab R) (σ : SS R) (f : Operand) (args : List Operand) : Option Bool :=
  match ev σ.tm f, evs σ.tm args with
  | some (.func (.func g) ⟨fi⟩ ⟨ca⟩), some vs => match findF T g with
    | some p => p.when ((fi ++ vs) ++ ca) σ.hp
    | none => none
  | _, _ => none
/-- which way an operation goes -/
def goes (c : Option Bool) (b : Bool) : Prop := (c = none ∧ b = true) ∨ c = some b
theorem opCall_ok (hT : TabOk D P T) {σ : SS R} {o : Oper} {f : Operand} {args : Array Operand} {ts : Array TypeId} {x : Out R} {b : Bool} (ho : o.op = .call { callee := .value f, args := args, argTypes := ts }) (hb : goes (forkCall T σ f args.toList) b) (h : opCall T σ f args.toList b = some x) : OpOk D P o σ x := by
  unfold opCall at h
  unfold forkCall at hb
  split at h
  · rename_i g fi ca vs hf hvs
    rw [hf, hvs] at hb
    simp only at hb
    split at h
    · rename_i p hp
      rw [hp] at hb
      have hok := (findF_ok hT hp).ok b
      refine ⟨fun C ρ ft a w K Q ht hli hm hv hK => ?_, hok.len _ _ _ h, fun _ => hok.lit _ _ _ h⟩
      obtain ⟨h1, h2⟩ := ev_eval ht hf
      obtain ⟨h3, h4⟩ := evs_eval ht hvs
      simp only [ren, renL_eq] at h1
      simp only [inb, Bool.and_eq_true] at h2
      obtain ⟨fn, g1, g2, g3⟩ := hok.known
      have hargs : args.map a.eval = (vs.map (ren ρ)).toArray := by
        grind
      have hrun : (execOp a.eval o).run P w = .ok (.enter g (((fi ++ vs) ++ ca).map (ren ρ)).toArray) w := by
        simp only [execOp, ho, resolve, h1, Deferred.ofValue, Sem.run_bind, Sem.run_pure, Result.andThen_ok, invoke, hargs]
        simp only [callFunc, Sem.run_bind, run_program, Result.andThen_ok, g1, g2, g3, Bool.false_eq_true, if_false, Sem.run_pure]
        simp
      have hcall := hok.run _ _ _ hb h C ρ ft w hm hv (inbL_append (inbL_append h2.1 h4) h2.2)
      unfold Oper.wp
      rw [hrun, Oper.upon_enter]
      refine hcall.mono fun e w' ⟨ρ', ft', q1, q2, q3⟩ => ?_
      grind
    · cases h
  · cases h
/-- a method called behind an interface value: which function, of which receiver -/
def methOf (P : Program) (t : TypeId) (v : Value) (name : String) : Option (FuncId × Value) :=
  pureRun P (Sem.program fun Q => method (Q.types.size + Made.depth) t v name)
def opInvoke (P : Program) (T : Tab R) (σ : SS R) (r : Operand) (name : String) (args : List Operand) (b : Bool) : Option (Out R) :=
  match ev σ.tm r, evs σ.tm args with
  | some (.iface t v), some vs => match flat v, methOf P t v name with
    | true, some (g, u) => match flat u, findF T g with
      | true, some p => p.go b (u :: vs) σ.hp
      | _, _ => none
    | _, _ => none
  | _, _ => none
def forkInvoke (P : Program) (T : Tab R) (σ : SS R) (r : Operand) (name : String) (args : List Operand) : Option Bool :=
  match ev σ.tm r, evs σ.tm args with
  | some (.iface t v), some vs => match flat v, methOf P t v name with
    | true, some (g, u) => match flat u, findF T g with
      | true, some p => p.when (u :: vs) σ.hp
      | _, _ => none
    | _, _ => none
  | _, _ => none
theorem opInvoke_ok (hT : TabOk D P T) {σ : SS R} {o : Oper} {r : Operand} {name : String} {args : Array Operand} {ts : Array TypeId} {x : Out R} {b : Bool} (ho : o.op = .call { callee := .invoke r name, args := args, argTypes := ts }) (hb : goes (forkInvoke P T σ r name args.toList) b) (h : opInvoke P T σ r name args.toList b = some x) : OpOk D P o σ x := by
  unfold opInvoke at h
  unfold forkInvoke at hb
  split at h
  · rename_i t v vs hf hvs
    rw [hf, hvs] at hb
    simp only at hb
    split at h
    · rename_i g u hfl hme
      rw [hfl, hme] at hb
      simp only at hb
      split at h
      · rename_i p hu hp
        rw [hu, hp] at hb
        have hok := (findF_ok hT hp).ok b
        refine ⟨fun C ρ ft a w K Q ht hli hm hv hK => ?_, hok.len _ _ _ h, fun _ => hok.lit _ _ _ h⟩
        obtain ⟨h1, h2⟩ := ev_eval ht hf
        obtain ⟨h3, h4⟩ := evs_eval ht hvs
        simp only [ren, flat_ren v hfl] at h1
        obtain ⟨fn, g1, g2, g3⟩ := hok.known
        have hargs : args.map a.eval = (vs.map (ren ρ)).toArray := by
          grind
        have hr : (Sem.program fun Q => method (Q.types.size + Made.depth) t v name).run P w = .ok (g, u) w := pureRun_run _ hme w
        have hr' : (method (P.types.size + Made.depth) t v name).run P w = .ok (g, u) w := hr
        have hrun : (execOp a.eval o).run P w = .ok (.enter g ((u :: vs).map (ren ρ)).toArray) w := by
          simp only [execOp, ho, resolve, h1, Sem.run_bind, Sem.run_pure, Result.andThen_ok, invoke, hargs]
          have e0 : (#[Value.iface t v] ++ (vs.map (ren ρ)).toArray)[0]? = some (Value.iface t v) := by simp
          have e1 : (#[Value.iface t v] ++ (vs.map (ren ρ)).toArray).extract 1 (#[Value.iface t v] ++ (vs.map (ren ρ)).toArray).size = (vs.map (ren ρ)).toArray := by
            grind[List.take_of_length_le]
          simp only [e0, e1, callMethod, Sem.run_bind, run_program, Result.andThen_ok, hr', callFunc, g1, g2, g3, Bool.false_eq_true, if_false, Sem.run_pure]
          grind[flat_ren]
        have hcall := hok.run _ _ _ hb h C ρ ft w hm hv (by simp_all[inbL,flat_inb])
        unfold Oper.wp
        rw [hrun, Oper.upon_enter]
        refine hcall.mono fun e w' ⟨ρ', ft', q1, q2, q3⟩ => ?_
        grind
      · cases h
    · cases h
  · cases h
/-- a function value is made -/
def opMakeFunc (σ : SS R) (fn : Fn) (fi ca : List Operand) : Option (Out R) :=
  match evs σ.tm fi, evs σ.tm ca with
  | some u, some v => some (quietOut σ True (.func fn ⟨u⟩ ⟨v⟩) none [])
  | _, _ => none
theorem opMakeFunc_ok {σ : SS R} {o : Oper} {fn : Fn} {fi ca : Array Operand} {x : Out R} (ho : o.op = .makeFunc fn fi ca) (h : opMakeFunc σ fn fi.toList ca.toList = some x) : OpOk D P o σ x := by
  unfold opMakeFunc at h
  split at h
  · rename_i u v hu hv
    injection h with h
    subst h
    refine quiet_ok (fun C ρ ft a w ht hli hm _ => ?_) (fun _ b hb => by cases hb)
    obtain ⟨h1, _⟩ := evs_eval ht hu
    obtain ⟨h2, _⟩ := evs_eval ht hv
    have e1 : fi.map a.eval = (u.map (ren ρ)).toArray := by grind
    have e2 : ca.map a.eval = (v.map (ren ρ)).toArray := by grind
    simp only [execOp, ho, Instr.makeFunc, Sem.run_bind, Sem.run_pure, Result.andThen_ok, e1, e2, ren, renL_eq]
  · cases h
/-- which rule of two a binary operation goes by: 1 ints, 2 texts joined, 3 nil, 4 structs, 0 else -/
def binKind (op : BinOp) (u v : Option Value) : Nat :=
  match op with
  | .shl | .shr => 6
  | .and | .or | .xor | .andNot => 7
  | _ =>
  match u, v with
  | some (.int .i64 _), some (.int .i64 _) => match op with
    | .add | .sub | .mul | .quo | .rem => 1
    | _ => 0
  | some (.string _), some (.string _) => match op with
    | .add => 2
    | _ => 0
  | some (.pointer (some _)), some (.pointer (some _)) => 5
  | some (.pointer _), some (.pointer _) | some (.slice _ _ _), some (.slice _ _ _) | some (.func _ _ _), some .nilFunc => 3
  | some (.agg _), some (.agg _) => 4
  | _, _ => 0
/-- ints wrap where the table says so -/
def wraps (T : Tab R) : Bool := match findT T 1000000000 with
  | some c => (c.when [] []).isSome
  | none => false
def addish : BinOp → Bool
  | .add => true
  | .sub => true
  | .mul => true
  | _ => false
/-- a block that holds its first cell -/
def ownsB (T : Tab R) : Option (Option (SB R)) → Bool
  | some (some (.inl _)) => true
  | some (some (.inr (.inr (.inr _)))) => match findT T 1000000000 with
    | some c => (c.no [] []).isSome
    | none => false
  | _ => false
/-- a table's entry: ints wrap -/
def wrapCon : Con R := ⟨fun _ _ => some true, fun _ _ => none, fun _ _ => none⟩
theorem wrapCon_ok : RdOk D (wrapCon : Con R) := ⟨(fun h => by cases h), fun e X x p F w hx => by cases hx⟩
theorem ownsB_ok (hT : TabOk D P T) {C : Ctx} {ρ : Env} {ft : Nat → Nat → Prop} {h : Hp R} {w : World} {i : Nat} (hm : HM D C ρ ft h w) (ho : ownsB T h[i]? = true) : ft i (ρ i).blk ∧ ∃ ca ta, w.heap[(ρ i).blk]? = some (.cells ca ta (0, 0)) := by
  unfold ownsB at ho
  split at ho
  · rename_i x hx
    obtain ⟨_, g2, g3⟩ := (hm.at_ i _ hx).1
    grind
  · rename_i X hx
    split at ho
    · rename_i c hc
      exact (findR_ok hT hc).1 ho _ _ _ _ (hm.at_ i _ hx).1
    grind
  grind
def opBin (P : Program) (T : Tab R) (σ : SS R) (o : Oper) (op : BinOp) (t : TypeId) (y z : Operand) : Option (Out R) :=
  match binKind op (ev σ.tm y) (ev σ.tm z) with
  | 1 => if wraps T && addish op then opPure P σ o else opInt σ op y z
  | 2 => match op with
    | .add => opCat σ y z
    | _ => none
  | 3 => match op with
    | .eql => opEqNil P σ false t y z
    | .neq => opEqNil P σ true t y z
    | _ => none
  | 4 => match op with
    | .eql => opEqAgg P σ false t y z
    | .neq => opEqAgg P σ true t y z
    | _ => none
  | 5 => match op with
    | .eql => opEqPtr P σ (ownsB T) false t y z
    | .neq => opEqPtr P σ (ownsB T) true t y z
    | _ => none
  | 6 => opShift σ op y z
  | 7 => opBits σ op y z
  | _ => opPure P σ o
theorem opBin_ok (hT : TabOk D P T) {σ : SS R} {o : Oper} {op : BinOp} {t t' : TypeId} {y z : Operand} {x : Out R} (ho : o.op = .binOp op t y z t') (h : opBin P T σ o op t y z = some x) : OpOk D P o σ x := by
  unfold opBin at h
  grind[opPure_ok,opInt_ok,opCat_ok,opEqNil_ok,opEqAgg_ok,opEqPtr_ok,ownsB_ok,opShift_ok,opBits_ok]
def isNil : Option Value → Bool
  | some (.slice none 0 0) => true
  | _ => false
def opAssign (P : Program) (σ : SS R) (t : TypeId) (y : Operand) : Option (Out R) :=
  if isNil (ev σ.tm y) then
    match opNilSlice P σ t with
    | some x => some x
    | none => opMove σ y
  else opMove σ y
theorem opAssign_ok {σ : SS R} {o : Oper} {t : TypeId} {y : Operand} {x : Out R} (ho : o.op = .move y ∨ o.op = .assign y) (h : opAssign P σ t y = some x) : OpOk D P o σ x := by
  unfold opAssign at h
  split at h
  · rename_i hn
    have hv : ev σ.tm y = some (.slice none 0 0) := by
      grind[isNil]
    split at h
    · rename_i x' hx
      injection h with h
      subst h
      exact opNilSlice_ok (n := 0) (c := 0) ho hv hx
    grind[opMove_ok]
  grind[opMove_ok]
def isStr : Option Value → Bool
  | some (.string _) => true
  | _ => false
def isPtr : Option Value → Bool
  | some (.pointer (some _)) => true
  | _ => false
def isCells : Option Value → Bool
  | some (.slice (some ⟨_, _, none⟩) _ _) => true
  | _ => false
def isSl : Option Value → Bool
  | some (.slice (some _) _ _) => true
  | _ => false
/-- a load, also of a cell of a thing of the proof's -/
def opLoadT (P : Program) (T : Tab R) (σ : SS R) (t : TypeId) (y : Operand) : Option (Out R) :=
  match opLoad P σ t y with
  | some x => some x
  | none =>
    match ev σ.tm y with
    | some (.pointer (some ⟨i, e, none⟩)) =>
      match σ.hp[i]? with
      | some (some (.inr (.inr (.inr X)))) =>
        match aggOf P t, findT T 1000000000 with
        | some none, some c => match c.yes [.pointer (some ⟨0, e, none⟩)] [some (.inr (.inr (.inr X)))] with
          | some x => some (quietOut σ True x.v none [(i, e + 1)])
          | none => none
        | _, _ => none
      | _ => none
    | _ => none
theorem opLoadT_ok (hT : TabOk D P T) {σ : SS R} {o : Oper} {t : TypeId} {y : Operand} {x : Out R} (ho : o.op = .load t y) (h : opLoadT P T σ t y = some x) : OpOk D P o σ x := by
  unfold opLoadT at h
  split at h
  · grind[opLoad_ok]
  · split at h
    · rename_i i e ha
      split at h
      · rename_i X hX
        split at h
        · rename_i c hg hc
          split at h
          · rename_i x' hx
            injection h with h
            subst h
            refine quiet_ok (fun C ρ ft ac w ht hli hm _ => ?_) (fun hli c hc => by cases hc)
            have h1 := (ev_eval ht ha).1
            simp only [ren, renA, cellOf] at h1
            obtain ⟨q1, q2⟩ := (findR_ok hT hc).2 e X x' _ _ w hx (hm.at_ i _ hX).1
            simp [execOp, ho, h1, Instr.loadAt, Instr.sureAddr, loadVar_one hg q2, flat_ren _ q1]
          · cases h
        · cases h
      · cases h
    · cases h
/-- operations on maps, which are things of the proof's -/
def opMaps (P : Program) (T : Tab R) (σ : SS R) (o : Oper) : Option (Out R) :=
  match o with
  | ⟨dst, op, ty, pos, after, guard⟩ =>
  match findT T 1000000001 with
  | none => none
  | some c =>
    match op with
    | .lookup t y z ok =>
      match ev σ.tm y, ev σ.tm z with
      | some (.map (some i)), some key => match σ.hp[i]? with
        | some (some (.inr (.inr (.inr X)))) => match c.yes [.int .i64 t, .bool ok, key] [some (.inr (.inr (.inr X)))] with
          | some x => if flat key && flat x.v then some (quietOut σ x.vc x.v none [(i, 0)]) else none
          | none => none
        | _ => none
      | _, _ => none
    | .mapUpdate t y z u =>
      match dst with
      | some _ => none
      | none => match ev σ.tm y, ev σ.tm z, ev σ.tm u with
        | some (.map (some i)), some key, some val => match σ.hp[i]? with
          | some (some (.inr (.inr (.inr X)))) => match c.no [.int .i64 t, key, val] [some (.inr (.inr (.inr X)))] with
            | some x => match x.hp with
              | [some (.inr (.inr (.inr X')))] => if flat key && flat val then some ⟨x.vc, undef, none, σ.hp.set i (some (.inr (.inr (.inr X')))), [], [(i, 0)]⟩ else none
              | _ => none
            | none => none
          | _ => none
        | _, _, _ => none
    | .makeMap t none =>
      match c.no [.int .i64 t] [] with
      | some x => match x.hp with
        | [some (.inr (.inr (.inr X')))] => some ⟨True, .map (some σ.hp.length), none, σ.hp ++ [some (.inr (.inr (.inr X')))], [], [(σ.hp.length, 0)]⟩
        | _ => none
      | none => none
    | .call ⟨.builtin b, ⟨args⟩, ⟨ts⟩⟩ =>
      match b, args, ts with
      | .len, [y], [t] => match ev σ.tm y with
        | some (.map (some i)) => match σ.hp[i]? with
          | some (some (.inr (.inr (.inr X)))) => match c.yes [.int .i64 t] [some (.inr (.inr (.inr X)))] with
            | some x => if flat x.v then some (quietOut σ True x.v none [(i, 0)]) else none
            | none => none
          | _ => none
        | _ => none
      | .delete, [y, z], [t, k] => match ev σ.tm y, ev σ.tm z with
        | some (.map (some i)), some key => match σ.hp[i]? with
          | some (some (.inr (.inr (.inr X)))) => match c.no [.int .i64 t, .bool true, .int .i64 k, key] [some (.inr (.inr (.inr X)))] with
            | some x => match x.hp with
              | [some (.inr (.inr (.inr X')))] => if flat key then some ⟨x.vc, .tuple #[], none, σ.hp.set i (some (.inr (.inr (.inr X')))), [], [(i, 0)]⟩ else none
              | _ => none
            | none => none
          | _ => none
        | _, _ => none
      | _, _, _ => none
    | _ => none
theorem opMaps_ok (hT : TabOk D P T) {σ : SS R} {o : Oper} {x : Out R} (h : opMaps P T σ o = some x) : OpOk D P o σ x := by
  obtain ⟨dst, op, ty, pos, after, guard⟩ := o
  unfold opMaps at h
  simp only at h
  split at h
  · cases h
  rename_i c hc
  have hM := findM_ok hT hc
  split at h
  · rename_i t y z ok
    split at h
    · rename_i i key ha hb
      split at h
      · rename_i X hX
        split at h
        · rename_i x' hx
          split at h
          · rename_i hfl
            simp only [Bool.and_eq_true] at hfl
            injection h with h
            subst h
            refine quiet_ok (fun C ρ ft ac w ht hli hm hv => ?_) (fun hli b hb => by cases hb)
            have h1 := (ev_eval ht ha).1
            have h2 := (ev_eval ht hb).1
            rw [flat_ren _ hfl.1] at h2
            simp only [ren] at h1
            have := hM.look t ok key X x' _ _ w hx (hm.at_ i _ hX).1 hv
            simp [execOp, h1, h2, this, flat_ren _ hfl.2, Result.andThen]
          · cases h
        · cases h
      · cases h
    · cases h
  · rename_i t y z u
    split at h
    · cases h
    split at h
    · rename_i i key val ha hb hu
      split at h
      · rename_i X hX
        split at h
        · rename_i x' hx
          split at h
          · rename_i X' hX'
            split at h
            · rename_i hfl
              simp only [Bool.and_eq_true] at hfl
              injection h with h
              subst h
              refine ⟨fun C ρ ft ac w K Q ht hli hm hv hK => ?_, by simp, fun _ b hb => by cases hb⟩
              have h1 := (ev_eval ht ha).1
              have h2 := (ev_eval ht hb).1
              have h3 := (ev_eval ht hu).1
              rw [flat_ren _ hfl.1] at h2
              rw [flat_ren _ hfl.2] at h3
              simp only [ren] at h1
              obtain ⟨w', hr, hH, hk⟩ := hM.set t key val X X' x' _ _ w hx hX' (hm.at_ i _ hX).1 hv
              refine wp_skip' (w' := w') (by simp [execOp, h1, h2, h3, hr, Result.andThen]) (hK ρ (upd ft i (ft i)) _ (fun _ _ => rfl) ?_)
              exact hm.put hX hk _ _ hH trivial (fun k hk' => ⟨Or.inl hk', Nat.lt_of_lt_of_le (hm.lt i k hk') hk.size⟩)
            · cases h
          · cases h
        · cases h
      · cases h
    · cases h
  · rename_i t
    split at h
    · rename_i x' hx
      split at h
      · rename_i X' hX'
        injection h with h
        subst h
        refine ⟨fun C ρ ft ac w K Q ht hli hm hv hK => ?_, by simp, fun _ b hb => by cases hb⟩
        have hp := hm.push (D := D) ⟨w.heap.size, 0, 0, false⟩ (.map #[] 0) rfl (.inr (.inr (.inr X'))) (by
          show D.H X' _ _ _
          rw [upd_same]
          exact hM.make t X' x' hx hX' w) trivial
        have hr : (execOp ac.eval ⟨dst, .makeMap t none, ty, pos, after, guard⟩).run P w = .ok (.value (.map (some w.heap.size))) (w.alloc (.map #[] 0)) := rfl
        refine wp_value hr ?_
        have := hK (upd ρ σ.hp.length ⟨w.heap.size, 0, 0, false⟩) _ _ (fun i hi => upd_lt _ _ _ hi) hp
        simpa only [ren, upd_same] using this
      · cases h
    · cases h
  · rename_i b args ts
    split at h
    · rename_i y t
      split at h
      · rename_i i ha
        split at h
        · rename_i X hX
          split at h
          · rename_i x' hx
            split at h
            · rename_i hfl
              injection h with h
              subst h
              refine quiet_ok (fun C ρ ft ac w ht hli hm hv => ?_) (fun hli b hb => by cases hb)
              have h1 := (ev_eval ht ha).1
              simp only [ren] at h1
              have := hM.len t ty X x' _ _ w hx (hm.at_ i _ hX).1
              simp [execOp, resolve, invoke, builtin, h1, this, flat_ren _ hfl, Result.andThen]
            · cases h
          · cases h
        · cases h
      · cases h
    · rename_i y z t k
      split at h
      · rename_i i key ha hb
        split at h
        · rename_i X hX
          split at h
          · rename_i x' hx
            split at h
            · rename_i X' hX'
              split at h
              · rename_i hfl
                injection h with h
                subst h
                refine ⟨fun C ρ ft ac w K Q ht hli hm hv hK => ?_, by simp, fun _ b hb => by cases hb⟩
                have h1 := (ev_eval ht ha).1
                have h2 := (ev_eval ht hb).1
                rw [flat_ren _ hfl] at h2
                simp only [ren] at h1
                obtain ⟨w', hr, hH, hk⟩ := hM.del t k ty key X X' x' _ _ w hx hX' (hm.at_ i _ hX).1 hv
                refine wp_value (w' := w') (v := .tuple #[]) (by simp [execOp, resolve, invoke, builtin, h1, h2, hr, Result.andThen]) (hK ρ (upd ft i (ft i)) _ (fun _ _ => rfl) ?_)
                exact hm.put hX hk _ _ hH trivial (fun k hk' => ⟨Or.inl hk', Nat.lt_of_lt_of_le (hm.lt i k hk') hk.size⟩)
              · cases h
            · cases h
          · cases h
        · cases h
      · cases h
    · cases h
  · cases h
/-- what else there is -/
def opElse (P : Program) (T : Tab R) (σ : SS R) (o : Oper) : Option (Out R) :=
  match opMaps P T σ o with
  | some x => some x
  | none => opPure P σ o
theorem opElse_ok (hT : TabOk D P T) {σ : SS R} {o : Oper} {x : Out R} (h : opElse P T σ o = some x) : OpOk D P o σ x := by grind[opElse,opMaps_ok,opPure_ok]
/-- one operation -/
def sop (P : Program) (T : Tab R) (σ : SS R) (o : Oper) (way : Bool) : Option (Out R) :=
  match o with
  | ⟨dst, op, ty, pos, after, guard⟩ =>
  match op with
  | .move y => opAssign P σ ty y
  | .assign y => opAssign P σ ty y
  | .pick c y z => opPick σ c y z
  | .alloc t => opAlloc P σ t
  | .box t y => opBox σ t y
  | .build t ⟨ps⟩ => opBuild P σ t ps
  | .buildSlice t n ⟨ps⟩ => match opBuildSlice P σ t n ps with
    | some x => some x
    | none => opBuildCells P σ t n ps
  | .load t y => opLoadT P T σ t y
  | .store t y z => match dst with
    | none => opStore P σ t y z
    | some _ => none
  | .nilCheck y => opNil σ y
  | .binOp b t y z u => opBin P T σ ⟨dst, .binOp b t y z u, ty, pos, after, guard⟩ b t y z
  | .unOp u t y => match u with
    | .not => opNot σ y
    | _ => opPure P σ ⟨dst, .unOp u t y, ty, pos, after, guard⟩
  | .slice t y lo hi mx => opSlice P σ t y lo hi mx
  | .fieldAddr t y k => opFieldAddr P σ t y k
  | .field t y k => opField P σ t y k
  | .indexAddr t y z => if isPtr (ev σ.tm y) then opIndexArr P σ t y z else if isCells (ev σ.tm y) then opIndexCells P σ t y z else opIndexAddr P σ t y z
  | .index t y z => if isStr (ev σ.tm y) then opIndexStr P σ t y z else opPure P σ ⟨dst, .index t y z, ty, pos, after, guard⟩
  | .extract y k => opExtract σ y k
  | .makeSlice t y z => opMakeSlice P σ t y z
  | .call ⟨callee, ⟨args⟩, ⟨ts⟩⟩ =>
    match callee with
    | .value f => opCall T σ f args way
    | .builtin b =>
      match b, args, ts with
      | .append, [y, z], [t, t2] => opAppend P σ t t2 y z
      | .len, [y], [t] => if isSl (ev σ.tm y) then opLen P σ t y else opElse P T σ ⟨dst, .call ⟨.builtin .len, ⟨[y]⟩, ⟨[t]⟩⟩, ty, pos, after, guard⟩
      | b, args, ts => opElse P T σ ⟨dst, .call ⟨.builtin b, ⟨args⟩, ⟨ts⟩⟩, ty, pos, after, guard⟩
    | .invoke r name => opInvoke P T σ r name args way
  | .makeFunc fn ⟨fi⟩ ⟨ca⟩ => opMakeFunc σ fn fi ca
  | op => opElse P T σ ⟨dst, op, ty, pos, after, guard⟩
/-- which way an operation goes, where it may go two -/
def forkOf (P : Program) (T : Tab R) (σ : SS R) (o : Oper) : Option Bool :=
  match o with
  | ⟨_, .call ⟨.value f, ⟨args⟩, _⟩, _, _, _, _⟩ => forkCall T σ f args
  | ⟨_, .call ⟨.invoke r name, ⟨args⟩, _⟩, _, _, _, _⟩ => forkInvoke P T σ r name args
  | _ => none
theorem sop_ok (hT : TabOk D P T) {σ : SS R} {o : Oper} {x : Out R} {b : Bool} (hb : goes (forkOf P T σ o) b) (h : sop P T σ o b = some x) : OpOk D P o σ x := by
  obtain ⟨dst, op, ty, pos, after, guard⟩ := o
  unfold sop at h
  simp only at h
  split at h
  · grind[opAssign_ok]
  · exact opAssign_ok (Or.inr rfl) h
  · exact opPick_ok rfl h
  · exact opAlloc_ok rfl h
  · exact opBox_ok rfl h
  · grind[opBuild_ok]
  · grind[opBuildSlice_ok,opBuildCells_ok]
  · grind[opLoadT_ok]
  · grind[opStore_ok]
  · exact opNil_ok rfl h
  · grind[opBin_ok]
  · grind[opNot_ok,opPure_ok]
  · exact opSlice_ok rfl h
  · exact opFieldAddr_ok rfl h
  · exact opField_ok rfl h
  · grind[opIndexArr_ok,opIndexCells_ok,opIndexAddr_ok]
  · grind[opIndexStr_ok,opPure_ok]
  · exact opExtract_ok rfl h
  · exact opMakeSlice_ok rfl h
  · rename_i callee args ts
    split at h
    · exact opCall_ok hT (args := ⟨args⟩) rfl hb h
    · grind[opAppend_ok,opLen_ok,opElse_ok]
    · exact opInvoke_ok hT (args := ⟨args⟩) rfl hb h
  all_goals grind[opMakeFunc_ok,opElse_ok]
/-- the frame behind an operation -/
def putT (σ : SS R) (d : Option Tmp) (v : Value) (lit : Option Bool) (hp : Hp R) : SS R :=
  match d with
  | none => ⟨σ.tm, σ.li, hp⟩
  | some t => ⟨σ.tm.set t (some v), (match lit with
    | some b => [(t, b)]
    | none => []) ++ σ.li.filter (fun p => !Nat.beq p.1 t), hp⟩
/-- a run's frame and heap, and the world -/
structure M (D : Res R) (C : Ctx) (σ : SS R) (a : Act) (w : World) : Prop where
  defers : a.defers = []
  li : LI σ.li σ.tm
  ex : ∃ ρ ft, (∀ i, i < C.n0 → ρ i = C.e0 i) ∧ TM ρ σ.hp.length σ.tm a ∧ HM D C ρ ft σ.hp w
theorem putT_hp (σ : SS R) (d : Option Tmp) (v : Value) (lit : Option Bool) (hp : Hp R) : (putT σ d v lit hp).hp = hp := by cases d <;> rfl
theorem putT_LI {σ : SS R} {d : Option Tmp} {v : Value} {lit : Option Bool} {hp : Hp R} (hl : LI σ.li σ.tm) (hv : ∀ b, lit = some b → v = .bool b) (hd : ∀ t, d = some t → lit ≠ none → t < σ.tm.length) : LI (putT σ d v lit hp).li (putT σ d v lit hp).tm := by
  cases d with
  | none => exact hl
  | some t =>
    intro u b hu
    simp only [putT] at hu ⊢
    rcases List.mem_append.1 hu with hu | hu
    · grind
    · obtain ⟨h1, h2⟩ := List.mem_filter.1 hu
      have hne : u ≠ t := fun e => by simp_all
      rw [List.getElem?_set_ne (fun e => hne e.symm)]
      exact hl u b h1
theorem putT_TM {σ : SS R} {d : Option Tmp} {v : Value} {lit : Option Bool} {hp : Hp R} {a : Act} {ρ' : Env} (ht : TM ρ σ.hp.length σ.tm a) (hρ : ∀ i, i < σ.hp.length → ρ' i = ρ i) (hlen : σ.hp.length ≤ hp.length) (hi : inb hp.length v = true) :
    TM ρ' (putT σ d v lit hp).hp.length (putT σ d v lit hp).tm (a.put d (ren ρ' v)) := by
  have old : ∀ (t : Nat) (u : Value), σ.tm[t]? = some (some u) → a.tmps[t]? = some (ren ρ' u) ∧ inb hp.length u = true := fun t u hu => by
    obtain ⟨h1, h2⟩ := ht.val t u hu
    grind[ren_congr,inb_mono]
  cases d with
  | none => exact ⟨ht.size, old⟩
  | some t =>
    refine ⟨by simp [putT, Act.put, ht.size], fun u x hx => ?_⟩
    simp only [putT, Act.put] at hx ⊢
    by_cases he : t = u
    · subst he
      have hl : t < σ.tm.length := by grind
      rw [List.getElem?_set_self hl] at hx
      injection hx with hx; injection hx with hx
      subst hx
      simp [ht.size, hl, hi]
    grind
/-- what an operation yields may be kept -/
def tidy (σ : SS R) (d : Option Tmp) (x : Out R) : Bool :=
  inb x.hp.length x.v && (match d with
    | some t => (match x.lit with
      | some _ => Nat.blt t σ.tm.length
      | none => true)
    | none => true)
theorem M.step {σ : SS R} {o : Oper} {x : Out R} {a : Act} {K : Act → World → Prop} {Q : Exit → Act → World → Prop} (hm : M D C σ a w) (ho : OpOk D P o σ x) (ht : tidy σ o.dst x = true) (hv : x.vc)
    (hK : ∀ a' w', M D C (putT σ o.dst x.v x.lit x.hp) a' w' → K a' w') (hn : C.n0 ≤ σ.hp.length) : o.wp P a w K Q := by
  obtain ⟨ρ, ft, h0, h1, h2⟩ := hm.ex
  simp only [tidy, Bool.and_eq_true] at ht
  refine ho.run C ρ ft a w K Q h1 hm.li h2 hv fun ρ' ft' w' hρ hm' => hK _ _ ⟨?_, putT_LI hm.li (ho.lit hm.li) ?_, ρ', ft', fun i hi => (hρ i (by omega)).trans (h0 i hi), putT_TM h1 hρ ho.len ht.1, by grind[putT_hp]⟩
  · cases o.dst <;> exact hm.defers
  grind[Nat.blt_eq]
theorem M.undef {σ : SS R} {d : Option Tmp} {a : Act} (hm : M D C σ a w) : M D C (putT σ d undef none σ.hp) (a.put d undef) w := by
  obtain ⟨ρ, ft, h0, h1, h2⟩ := hm.ex
  have hu : ren ρ Go.undef = Go.undef := by rfl
  refine ⟨?_, putT_LI hm.li (fun b hb => by cases hb) (fun t _ h => absurd rfl h), ρ, ft, h0, ?_, by grind[putT_hp]⟩
  · cases d <;> exact hm.defers
  · have := putT_TM (d := d) (v := Go.undef) (lit := none) (hp := σ.hp) h1 (fun _ _ => rfl) (Nat.le_refl _) (by rfl)
    grind
/-- a truth assumed -/
def assume (σ : SS R) (t : Nat) (b : Bool) : SS R := ⟨σ.tm.set t (some (.bool b)), (t, b) :: σ.li.filter (fun p => !Nat.beq p.1 t), σ.hp⟩
theorem M.assume {σ : SS R} {a : Act} {t : Nat} {b : Bool} (hm : M D C σ a w) (ht : σ.tm[t]? = some (some (.bool b))) : M D C (Rx.assume σ t b) a w := by
  have hl : t < σ.tm.length := (List.getElem?_eq_some_iff.1 ht).1
  have hs : σ.tm.set t (some (.bool b)) = σ.tm := by
    apply List.ext_getElem?
    grind
  obtain ⟨ρ, ft, h0, h1, h2⟩ := hm.ex
  refine ⟨hm.defers, ?_, ρ, ft, h0, ?_, h2⟩
  · intro u c hu
    simp only [Rx.assume] at hu ⊢
    rw [hs]
    rcases List.mem_cons.1 hu with hu | hu
    · grind
    · exact hm.li u c (List.mem_filter.1 hu).1
  grind[Rx.assume]
end
end Go.Proofs.YtobdpddamdkabaaDoor.Rx
namespace Go.Proofs.YtobdpddamdkabaaDoor.Rx
set_option linter.unusedVariables false
/-- numbers, as a tree -/
inductive Tr
  | leaf (i : Nat)
  | node (c : Nat) (l r : Tr)
def fT {β : Sort _} : Tr → Nat → (Nat → β) → β
  | .leaf i, n, k => match Nat.beq n i with
    | true => k i
    | false => k n
  | .node c l r, n, k => match Nat.blt n c with
    | true => fT l n k
    | false => fT r n k
theorem fT_eq {β : Sort _} (t : Tr) (n : Nat) (k : Nat → β) : fT t n k = k n := by
  induction t with
  | leaf i =>
    grind[fT,Nat.eq_of_beq_eq_true]
  | node c l r hl hr =>
    grind[fT]
def trs : Tr := (.node 64 (.node 32 (.node 16 (.node 8 (.node 4 (.node 2 (.node 1 (.leaf 0) (.leaf 1)) (.node 3 (.leaf 2) (.leaf 3))) (.node 6 (.node 5 (.leaf 4) (.leaf 5)) (.node 7 (.leaf 6) (.leaf 7)))) (.node 12 (.node 10 (.node 9 (.leaf 8) (.leaf 9)) (.node 11 (.leaf 10) (.leaf 11))) (.node 14 (.node 13 (.leaf 12) (.leaf 13)) (.node 15 (.leaf 14) (.leaf 15))))) (.node 24 (.node 20 (.node 18 (.node 17 (.leaf 16) (.leaf 17)) (.node 19 (.leaf 18) (.leaf 19))) (.node 22 (.node 21 (.leaf 20) (.leaf 21)) (.node 23 (.leaf 22) (.leaf 23)))) (.node 28 (.node 26 (.node 25 (.leaf 24) (.leaf 25)) (.node 27 (.leaf 26) (.leaf 27))) (.node 30 (.node 29 (.leaf 28) (.leaf 29)) (.node 31 (.leaf 30) (.leaf 31)))))) (.node 48 (.node 40 (.node 36 (.node 34 (.node 33 (.leaf 32) (.leaf 33)) (.node 35 (.leaf 34) (.leaf 35))) (.node 38 (.node 37 (.leaf 36) (.leaf 37)) (.node 39 (.leaf 38) (.leaf 39)))) (.node 44 (.node 42 (.node 41 (.leaf 40) (.leaf 41)) (.node 43 (.leaf 42) (.leaf 43))) (.node 46 (.node 45 (.leaf 44) (.leaf 45)) (.node 47 (.leaf 46) (.leaf 47))))) (.node 56 (.node 52 (.node 50 (.node 49 (.leaf 48) (.leaf 49)) (.node 51 (.leaf 50) (.leaf 51))) (.node 54 (.node 53 (.leaf 52) (.leaf 53)) (.node 55 (.leaf 54) (.leaf 55)))) (.node 60 (.node 58 (.node 57 (.leaf 56) (.leaf 57)) (.node 59 (.leaf 58) (.leaf 59))) (.node 62 (.node 61 (.leaf 60) (.leaf 61)) (.node 63 (.leaf 62) (.leaf 63))))))) (.node 96 (.node 80 (.node 72 (.node 68 (.node 66 (.node 65 (.leaf 64) (.leaf 65)) (.node 67 (.leaf 66) (.leaf 67))) (.node 70 (.node 69 (.leaf 68) (.leaf 69)) (.node 71 (.leaf 70) (.leaf 71)))) (.node 76 (.node 74 (.node 73 (.leaf 72) (.leaf 73)) (.node 75 (.leaf 74) (.leaf 75))) (.node 78 (.node 77 (.leaf 76) (.leaf 77)) (.node 79 (.leaf 78) (.leaf 79))))) (.node 88 (.node 84 (.node 82 (.node 81 (.leaf 80) (.leaf 81)) (.node 83 (.leaf 82) (.leaf 83))) (.node 86 (.node 85 (.leaf 84) (.leaf 85)) (.node 87 (.leaf 86) (.leaf 87)))) (.node 92 (.node 90 (.node 89 (.leaf 88) (.leaf 89)) (.node 91 (.leaf 90) (.leaf 91))) (.node 94 (.node 93 (.leaf 92) (.leaf 93)) (.node 95 (.leaf 94) (.leaf 95)))))) (.node 112 (.node 104 (.node 100 (.node 98 (.node 97 (.leaf 96) (.leaf 97)) (.node 99 (.leaf 98) (.leaf 99))) (.node 102 (.node 101 (.leaf 100) (.leaf 101)) (.node 103 (.leaf 102) (.leaf 103)))) (.node 108 (.node 106 (.node 105 (.leaf 104) (.leaf 105)) (.node 107 (.leaf 106) (.leaf 107))) (.node 110 (.node 109 (.leaf 108) (.leaf 109)) (.node 111 (.leaf 110) (.leaf 111))))) (.node 120 (.node 116 (.node 114 (.node 113 (.leaf 112) (.leaf 113)) (.node 115 (.leaf 114) (.leaf 115))) (.node 118 (.node 117 (.leaf 116) (.leaf 117)) (.node 119 (.leaf 118) (.leaf 119)))) (.node 124 (.node 122 (.node 121 (.leaf 120) (.leaf 121)) (.node 123 (.leaf 122) (.leaf 123))) (.node 126 (.node 125 (.leaf 124) (.leaf 125)) (.node 127 (.leaf 126) (.leaf 127))))))))
def fN {β : Sort _} (n : Nat) (k : Nat → β) : β := fT trs n k
theorem fN_eq {β : Sort _} (n : Nat) (k : Nat → β) : fN n k = k n := fT_eq _ _ _
def fB {β : Sort _} (b : Bool) (k : Bool → β) : β :=
  match b with
  | true => k true
  | false => k false
theorem fB_eq {β : Sort _} (b : Bool) (k : Bool → β) : fB b k = k b := by cases b <;> rfl
/-- a spot, by its parts -/
def fQ {β : Sort _} (q : Nat) (k : Nat → β) : β :=
  fN (q % 1000) fun f => fN (q % 1000000 / 1000) fun s => fN (q / 1000000) fun t => k (f + (1000 * s + 1000000 * t))
theorem fQ_eq {β : Sort _} (q : Nat) (k : Nat → β) : fQ q k = k q := by
  unfold fQ
  rw [fN_eq, fN_eq, fN_eq]
  grind
def fA {β : Sort _} (a : Addr) (k : Addr → β) : β :=
  match a with
  | ⟨b, o, none⟩ => fN b fun b => k ⟨b, o, none⟩
  | ⟨b, o, some q⟩ => fN b fun b => fQ q fun q => k ⟨b, o, some q⟩
theorem fA_eq {β : Sort _} (a : Addr) (k : Addr → β) : fA a k = k a := by
  obtain ⟨b, o, s⟩ := a
  cases s with
  | none => grind[fA,fN_eq]
  | some q => grind[fA,fN_eq,fQ_eq]
/-- a value that is no aggregate -/
def fV0 {β : Sort _} (v : Value) (k : Value → β) : β :=
  match v with
  | .pointer (some a) => fA a fun a => k (.pointer (some a))
  | .slice (some a) n c => fA a fun a => k (.slice (some a) n c)
  | .slice none n c => k (.slice none n c)
  | .pointer none => k (.pointer none)
  | .int t n => k (.int t n)
  | .bool b => k (.bool b)
  | .string s => k (.string s)
  | v => k v
theorem fV0_eq {β : Sort _} (v : Value) (k : Value → β) : fV0 v k = k v := by
  unfold fV0
  grind[fA_eq]
def fVs {β : Sort _} : List Value → (List Value → β) → β
  | [], k => k []
  | v :: l, k => fV0 v fun v => fVs l fun l => k (v :: l)
theorem fVs_eq {β : Sort _} (l : List Value) (k : List Value → β) : fVs l k = k l := by
  induction l generalizing k with
  | nil => rfl
  | cons v l ih => grind[fVs,fV0_eq]
def fV {β : Sort _} (v : Value) (k : Value → β) : β :=
  match v with
  | .agg ⟨l⟩ => fVs l fun l => k (.agg ⟨l⟩)
  | .tuple ⟨l⟩ => fVs l fun l => k (.tuple ⟨l⟩)
  | v => fV0 v k
theorem fV_eq {β : Sort _} (v : Value) (k : Value → β) : fV v k = k v := by
  unfold fV
  grind[fVs_eq,fV0_eq]
def fVl {β : Sort _} : List Value → (List Value → β) → β
  | [], k => k []
  | v :: l, k => fV v fun v => fVl l fun l => k (v :: l)
theorem fVl_eq {β : Sort _} (l : List Value) (k : List Value → β) : fVl l k = k l := by
  induction l generalizing k with
  | nil => rfl
  | cons v l ih => grind[fVl,fV_eq]
def fTm {β : Sort _} : List (Option Value) → (List (Option Value) → β) → β
  | [], k => k []
  | none :: l, k => fTm l fun l => k (none :: l)
  | some v :: l, k => fV v fun v => fTm l fun l => k (some v :: l)
theorem fTm_eq {β : Sort _} (l : List (Option Value)) (k : List (Option Value) → β) : fTm l k = k l := by
  induction l generalizing k with
  | nil => rfl
  | cons v l ih => cases v <;> simp only [fTm, fV_eq, ih]
def fLi {β : Sort _} : List (Nat × Bool) → (List (Nat × Bool) → β) → β
  | [], k => k []
  | (t, b) :: l, k => fB b fun b => fLi l fun l => k ((t, b) :: l)
theorem fLi_eq {β : Sort _} (l : List (Nat × Bool)) (k : List (Nat × Bool) → β) : fLi l k = k l := by
  induction l generalizing k with
  | nil => rfl
  | cons v l ih => grind[fLi,fB_eq]
def fNs {β : Sort _} : List Nat → (List Nat → β) → β
  | [], k => k []
  | n :: l, k => fN n fun n => fNs l fun l => k (n :: l)
theorem fNs_eq {β : Sort _} (l : List Nat) (k : List Nat → β) : fNs l k = k l := by
  induction l generalizing k with
  | nil => rfl
  | cons v l ih => grind[fNs,fN_eq]
def fCs {β : Sort _} : List Col → (List Col → β) → β
  | [], k => k []
  | ⟨i, b, s⟩ :: l, k => fCs l fun l => k (⟨i, b, s⟩ :: l)
theorem fCs_eq {β : Sort _} (l : List Col) (k : List Col → β) : fCs l k = k l := by
  induction l generalizing k with
  | nil => rfl
  | cons v l ih => simp_all[fCs]
def fRow {β : Sort _} (r : Row) (k : Row → β) : β :=
  match r with
  | ⟨tm, n, cs⟩ => fVs tm fun tm => fCs cs fun cs => k ⟨tm, n, cs⟩
theorem fRow_eq {β : Sort _} (r : Row) (k : Row → β) : fRow r k = k r := by simp_all[fRow,fVs_eq,fCs_eq]
section
variable {R : Type}
def fSB {β : Sort _} (b : SB R) (k : SB R → β) : β :=
  match b with
  | .inl (t, cs) => fN t fun t => fVl cs fun cs => k (.inl (t, cs))
  | .inr (.inl (t, r)) => fN t fun t => fRow r fun r => k (.inr (.inl (t, r)))
  | .inr (.inr (.inl r)) => fRow r fun r => k (.inr (.inr (.inl r)))
  | .inr (.inr (.inr x)) => k (.inr (.inr (.inr x)))
theorem fSB_eq {β : Sort _} (b : SB R) (k : SB R → β) : fSB b k = k b := by grind[fSB,fVl_eq,fRow_eq,fN_eq]
def fHp {β : Sort _} : Hp R → (Hp R → β) → β
  | [], k => k []
  | none :: l, k => fHp l fun l => k (none :: l)
  | some b :: l, k => fSB b fun b => fHp l fun l => k (some b :: l)
theorem fHp_eq {β : Sort _} (l : Hp R) (k : Hp R → β) : fHp l k = k l := by
  induction l generalizing k with
  | nil => rfl
  | cons v l ih => cases v <;> simp only [fHp, fSB_eq, ih]
def fSS {β : Sort _} (σ : SS R) (k : SS R → β) : β :=
  match σ with
  | ⟨tm, li, hp⟩ => fTm tm fun tm => fLi li fun li => fHp hp fun hp => k ⟨tm, li, hp⟩
theorem fSS_eq {β : Sort _} (σ : SS R) (k : SS R → β) : fSS σ k = k σ := by simp_all[fSS,fTm_eq,fLi_eq,fHp_eq]
end
end Go.Proofs.YtobdpddamdkabaaDoor.Rx
namespace Go.Proofs.YtobdpddamdkabaaDoor.Rx
open Go.RowKit Go.Proofs.YtobdpddamdkabaaDoor.State
set_option linter.unusedVariables false
set_option linter.unusedSimpArgs false
section
variable {R : Type} {D : Res R} {P : Program} {T : Tab R} {C : Ctx} {w w' : World}
/-- what an operation asks holds anyhow -/
def easy (σ : SS R) (o : Oper) : Bool :=
  match o with
  | ⟨dst, op, ty, pos, after, guard⟩ =>
  match op with
  | .move _ | .assign _ | .pick _ _ _ | .alloc _ | .box _ _ | .build _ _ | .buildSlice _ _ _ | .nilCheck _ | .unOp _ _ _ | .fieldAddr _ _ _ | .field _ _ _ | .extract _ _ => true
  | .load _ y | .store _ y _ => match ev σ.tm y with
    | some (.pointer (some ⟨_, _, none⟩)) => true
    | _ => false
  | .binOp op _ y z _ => match binKind op (ev σ.tm y) (ev σ.tm z) with
    | 1 => false
    | 2 => false
    | 6 => false
    | 7 => false
    | _ => true
  | .call ⟨.builtin b, _, _⟩ => match b with
    | .append => false
    | .delete => false
    | _ => true
  | _ => false
theorem opPure_vc {σ : SS R} {o : Oper} {x : Out R} (h : opPure P σ o = some x) : x.vc := by
  unfold opPure at h
  split at h
  · split at h
    · split at h
      · injection h with h; subst h; trivial
      · cases h
    · cases h
  · cases h
theorem opElse_vc {σ : SS R} {o : Oper} {x : Out R} (h : opElse P T σ o = some x) (hl : (match o.op with | .lookup .. | .mapUpdate .. | .call ⟨.builtin .delete, _, _⟩ => false | _ => true) = true) : x.vc := by
  unfold opElse at h
  split at h
  · rename_i x' hx
    injection h with h
    subst h
    obtain ⟨dst, op, ty, pos, after, guard⟩ := o
    unfold opMaps at hx
    simp only at hx hl
    split at hx
    · cases hx
    split at hx
    · cases hl
    · cases hl
    all_goals repeat' split at hx
    all_goals first
      | (injection hx with hx; subst hx; trivial)
      | cases hx
  · exact opPure_vc h
theorem opMove_vc {σ : SS R} {y : Operand} {x : Out R} (h : opMove σ y = some x) : x.vc := by
  unfold opMove at h
  split at h
  · injection h with h; subst h; trivial
  · cases h
theorem newCells_vc {σ : SS R} {t : TypeId} {cs : List Value} {x : Out R} (h : newCells σ t cs = some x) : x.vc := by grind[newCells]
theorem opNilSlice_vc {σ : SS R} {t : TypeId} {x : Out R} (h : opNilSlice P σ t = some x) : x.vc := by grind[opNilSlice]
theorem easy_vc {σ : SS R} {o : Oper} {x : Out R} {way : Bool} (h : sop P T σ o way = some x) (he : easy σ o = true) : x.vc := by
  obtain ⟨dst, op, ty, pos, after, guard⟩ := o
  unfold sop at h
  unfold easy at he
  cases op <;> simp only at h he <;> try (cases he)
  case move y =>
    grind[opAssign,opNilSlice_vc,opMove_vc]
  case assign y =>
    grind[opAssign,opNilSlice_vc,opMove_vc]
  case pick c y z =>
    unfold opPick at h
    split at h
    · exact opMove_vc h
    · exact opMove_vc h
    · split at h
      · injection h with h; subst h; trivial
      · cases h
  case alloc t =>
    grind[opAlloc,newCells_vc]
  case box t y =>
    grind[opBox,newCells_vc]
  case build t ps =>
    obtain ⟨ps⟩ := ps
    unfold opBuild at h
    split at h
    · split at h
      · split at h
        · split at h
          · injection h with h; subst h; trivial
          · cases h
        · cases h
      · cases h
    · split at h
      · split at h
        · split at h
          · injection h with h; subst h; trivial
          · cases h
        · cases h
      · cases h
    · cases h
  case buildSlice t n ps =>
    grind[opBuildSlice,opBuildCells]
  case load t y =>
    split at he
    · rename_i i e hy
      unfold opLoadT at h
      rw [hy] at h
      split at h
      · rename_i x' h'
        injection h with h
        subst h
        unfold opLoad at h'
        rw [hy] at h'
        simp only at h'
        split at h'
        · split at h'
          · split at h'
            · injection h' with h'; subst h'; trivial
            grind
          · split at h'
            · injection h' with h'; subst h'; trivial
            grind
          grind
        grind
      · repeat' split at h
        all_goals first
          | (injection h with h; subst h; trivial)
          | cases h
    grind
  case store t y z =>
    grind[opStore]
  case nilCheck y =>
    unfold opNil at h
    split at h
    · injection h with h; subst h; trivial
    · injection h with h; subst h; trivial
    · cases h
  case binOp b t y z u =>
    unfold opBin at h
    split at he
    · cases he
    · cases he
    · cases he
    · cases he
    · rename_i n1 n2 n3 n4
      split at h
      · grind
      · grind
      · have key : ∀ neg, opEqNil P σ neg t y z = some x → x.vc := fun neg h => by
          unfold opEqNil at h
          split at h
          · split at h
            · injection h with h; subst h; trivial
            · cases h
          · cases h
        grind
      · have key : ∀ neg, opEqAgg P σ neg t y z = some x → x.vc := fun neg h => by
          unfold opEqAgg at h
          split at h
          · split at h
            · split at h
              · split at h
                · injection h with h; subst h; trivial
                · cases h
              · cases h
            · cases h
          · cases h
        grind
      · have key : ∀ neg, opEqPtr P σ (ownsB T) neg t y z = some x → x.vc := fun neg h => by
          unfold opEqPtr at h
          repeat' split at h
          all_goals first
            | (injection h with h; subst h; trivial)
            | cases h
        grind
      · grind
      · grind
      · exact opPure_vc h
  case unOp u t y =>
    split at h
    · unfold opNot at h
      split at h
      · injection h with h; subst h; trivial
      · cases h
    · exact opPure_vc h
  case fieldAddr t y k =>
    unfold opFieldAddr at h
    split at h
    · split at h
      · split at h
        · split at h
          · split at h
            · cases h
            · split at h
              · injection h with h; subst h; trivial
              · split at h
                · injection h with h; subst h; trivial
                · cases h
          · cases h
        · cases h
      · cases h
    · cases h
  case field t y k =>
    unfold opField at h
    split at h
    · split at h
      · split at h
        · split at h
          · split at h
            · injection h with h; subst h; trivial
            · cases h
          · injection h with h; subst h; trivial
          · cases h
        · cases h
      · cases h
    · cases h
  case extract y k =>
    unfold opExtract at h
    split at h
    · split at h
      · injection h with h; subst h; trivial
      · cases h
    · cases h
  case call c =>
    obtain ⟨callee, args, ts⟩ := c
    cases callee <;> simp only at h he <;> try (cases he)
    split at h
    · simp at he
    · split at h
      · unfold opLen at h
        split at h
        · injection h with h; subst h; trivial
        · cases h
      · exact opElse_vc h rfl
    · exact opElse_vc h (by rename_i b _ _ _ _ _; revert he; clear h; cases b <;> simp)
/-- what is asked for on the way; what is asked for at the end -/
structure Vc (p : Prop) : Prop where
  out : p
structure Post (p : Prop) : Prop where
  out : p
/-- a proposition that is asked for, but where it holds anyhow -/
def also (e : Bool) (p q : Prop) : Prop :=
  match e with
  | true => q
  | false => Vc p ∧ q
/-- this can't be run -/
structure Stuck (why : Nat) : Prop where
  out : False
theorem Stuck.elim {n : Nat} {p : Prop} (h : Stuck n) : p := h.out.elim
def isUndef (v : Value) : Bool :=
  match v with
  | .tuple ⟨[]⟩ => true
  | _ => false
theorem isUndef_eq {v : Value} (h : isUndef v = true) : v = Go.undef := by
  unfold isUndef at h
  split at h
  · rfl
  · cases h
/-- one operation, and what follows -/
def rxOp1 (P : Program) (T : Tab R) (σ : SS R) (o : Oper) (k : SS R → Prop) (way : Bool) : Prop :=
  match sop P T σ o way with
  | some x => if tidy σ o.dst x then also (easy σ o) x.vc (fSS (putT σ o.dst x.v x.lit x.hp) k) else Stuck 1
  | none => Stuck 2
def rxOp (P : Program) (T : Tab R) (σ : SS R) (o : Oper) (k : SS R → Prop) : Prop :=
  match forkOf P T σ o with
  | none => rxOp1 P T σ o k true
  | some b => (b = true → rxOp1 P T σ o k true) ∧ (b = false → rxOp1 P T σ o k false)
def dstOf (ops : List Oper) (j : Nat) : Option Tmp :=
  match ops[j]? with
  | some o => o.dst
  | none => none
/-- the operations of a region, one behind the other -/
def rxList (P : Program) (T : Tab R) (ops : List Oper) : List Oper → SS R → (SS R → Prop) → Prop
  | [], σ, k => k σ
  | o :: r, σ, k =>
    match o.guard with
    | none => rxOp P T σ o fun σ' => rxList P T ops r σ' k
    | some (j, want) =>
      match dstOf ops j with
      | none => Stuck 3
      | some t =>
        match look σ.li t with
        | some b => if (b == want) = true then rxOp P T σ o fun σ' => rxList P T ops r σ' k else fSS (putT σ o.dst undef none σ.hp) fun σ => rxList P T ops r σ k
        | none =>
          match σ.tm[t]? with
          | some (some (.bool b)) =>
            (b = want → fSS (assume σ t want) fun σ => rxOp P T σ o fun σ' => rxList P T ops r σ' k) ∧
            (b = !want → fSS (putT (assume σ t (!want)) o.dst undef none σ.hp) fun σ => rxList P T ops r σ k)
          | some (some v) =>
            match isUndef v with
            | true => fSS (putT σ o.dst undef none σ.hp) fun σ => rxList P T ops r σ k
            | false => Stuck 4
          | _ => Stuck 4
theorem M_li {σ : SS R} {a : Act} {t : Nat} {b : Bool} (hm : M D C σ a w) (h : σ.tm[t]? = some (some (.bool b))) : a.tmps[t]? = some (.bool b) := by
  obtain ⟨ρ, ft, _, h1, _⟩ := hm.ex
  have := (h1.val t _ h).1
  simp[*]
theorem yielded_of {ops : List Oper} {j t : Nat} {a : Act} {b : Bool} (h : dstOf ops j = some t) (ha : a.tmps[t]? = some (.bool b)) : yielded ops.toArray a.tmps j = some b := by
  unfold dstOf at h
  unfold yielded
  grind
theorem yielded_no {ops : List Oper} {σ : SS R} {j t : Nat} {a : Act} (hm : M D C σ a w) (h : dstOf ops j = some t) (ht : σ.tm[t]? = some (some undef)) : yielded ops.toArray a.tmps j = none := by
  have ha : a.tmps[t]? = some undef := by
    obtain ⟨ρ, ft, _, h1, _⟩ := hm.ex
    have := (h1.val t _ ht).1
    simpa [undef, ren, renL] using this
  unfold dstOf at h
  unfold yielded
  split at h
  · rename_i o ho
    simp [ho, h, ha, undef]
  · cases h
theorem rxOp_ok (hT : TabOk D P T) {σ : SS R} {o : Oper} {k : SS R → Prop} {a : Act} {K : Act → World → Prop} {Q : Exit → Act → World → Prop} (h : rxOp P T σ o k) (hm : M D C σ a w) (hn : C.n0 ≤ σ.hp.length)
    (hK : ∀ σ' a' w', k σ' → σ.hp.length ≤ σ'.hp.length → M D C σ' a' w' → K a' w') : o.wp P a w K Q := by
  have one : ∀ b, goes (forkOf P T σ o) b → rxOp1 P T σ o k b → o.wp P a w K Q := by
    intro b hb h
    unfold rxOp1 at h
    split at h
    · rename_i x hx
      split at h
      · rename_i ht
        have hok := sop_ok hT hb hx
        have : x.vc ∧ k (putT σ o.dst x.v x.lit x.hp) := by
          rw [fSS_eq] at h
          unfold also at h
          split at h
          · grind[easy_vc]
          · exact ⟨h.1.out, h.2⟩
        exact hm.step hok ht this.1 (fun a' w' hm' => hK _ a' w' this.2 (by rw [putT_hp]; exact hok.len) hm') hn
      · exact h.elim
    · exact h.elim
  unfold rxOp at h
  split at h
  · rename_i hf
    exact one true (Or.inl ⟨hf, rfl⟩) h
  · rename_i b hf
    cases b with
    | true => exact one true (Or.inr hf) (h.1 rfl)
    | false => exact one false (Or.inr hf) (h.2 rfl)
theorem rxList_ok (hT : TabOk D P T) {ops : List Oper} {Q : Exit → Act → World → Prop} : ∀ (rest : List Oper) {σ : SS R} {k : SS R → Prop} {a : Act} {w : World}, rxList P T ops rest σ k → M D C σ a w → C.n0 ≤ σ.hp.length →
    (∀ σ' a' w', k σ' → C.n0 ≤ σ'.hp.length → M D C σ' a' w' → Q .normal a' w') → wpList P ops.toArray Q rest a w
  | [], σ, k, a, w, h, hm, hn, hK => hK σ a w h hn hm
  | o :: r, σ, k, a, w, h, hm, hn, hK => by
    simp only [rxList, fSS_eq] at h
    have run : ∀ {σ : SS R}, Region.wanted o (yielded ops.toArray a.tmps) = true → M D C σ a w → C.n0 ≤ σ.hp.length → (rxOp P T σ o fun σ' => rxList P T ops r σ' k) → wpList P ops.toArray Q (o :: r) a w := by
      intro σ hw hm hn h
      unfold wpList
      rw [if_pos hw]
      exact Or.inl (rxOp_ok hT h hm hn fun σ' a' w' h' hl' hm' => rxList_ok hT r h' hm' (Nat.le_trans hn hl') hK)
    have skip : ∀ {σ : SS R}, Region.wanted o (yielded ops.toArray a.tmps) = false → M D C σ a w → C.n0 ≤ σ.hp.length → rxList P T ops r (putT σ o.dst undef none σ.hp) k → wpList P ops.toArray Q (o :: r) a w := by
      intro σ hw hm hn h
      unfold wpList
      rw [if_neg (by simp [hw])]
      exact rxList_ok hT r h hm.undef (by grind[putT_hp]) hK
    split at h
    · rename_i hg
      exact run (by simp [Region.wanted, hg]) hm hn h
    · rename_i j want hg
      split at h
      · exact h.elim
      · rename_i t hd
        split at h
        · rename_i b hl
          have hy := yielded_of hd (M_li hm (hm.li t b (look_mem hl)))
          split at h
          · rename_i hb
            exact run (by simp [Region.wanted, hg, hy]; grind) hm hn h
          · rename_i hb
            exact skip (by simp [Region.wanted, hg, hy]; grind) hm hn h
        · split at h
          · rename_i b hb
            have hy := yielded_of hd (M_li hm hb)
            by_cases he : b = want
            · subst he
              exact run (by simp [Region.wanted, hg, hy]) (hm.assume hb) (by grind[assume]) (h.1 rfl)
            · have he2 : b = !want := by cases b <;> cases want <;> simp_all
              have h2 := h.2 he2
              rw [he2] at hb
              exact skip (by simp [Region.wanted, hg, hy]; exact he) (hm.assume hb) (by grind[assume]) h2
          · rename_i v hn' hb
            split at h
            · rename_i hu
              rw [isUndef_eq hu] at hb
              have hy := yielded_no hm hd hb
              have e : Region.wanted o (yielded ops.toArray a.tmps) = ((none : Option Bool) == some want) := by simp only [Region.wanted, hg, hy]
              grind
            · exact h.elim
          · exact h.elim
/-- a part of a function's code -/
def codeAt : Code → List Nat → Option Code
  | c, [] => some c
  | .seq a _, 0 :: p => codeAt a p
  | .seq _ b, 1 :: p => codeAt b p
  | .cond _ a _, 0 :: p => codeAt a p
  | .cond _ _ b, 1 :: p => codeAt b p
  | .block _ c, 0 :: p => codeAt c p
  | .loop c, 0 :: p => codeAt c p
  | _, _ => none
theorem codeAt_append : ∀ (p : List Nat) (c d : Code) (q : List Nat), codeAt c p = some d → codeAt c (p ++ q) = codeAt d q
  | [], c, d, q, h => by
    grind[codeAt]
  | i :: p, c, d, q, h => by
    cases c <;> simp only [List.cons_append] <;> (try (cases i <;> simp only [codeAt] at h <;> cases h))
    · rename_i a b
      rcases i with _ | _ | i
      · exact codeAt_append p a d q h
      · exact codeAt_append p b d q h
      · simp [codeAt] at h
    · rename_i x a b
      rcases i with _ | _ | i
      · exact codeAt_append p a d q h
      · exact codeAt_append p b d q h
      · simp [codeAt] at h
    · rename_i id a
      rcases i with _ | i
      · exact codeAt_append p a d q h
      · simp [codeAt] at h
    · rename_i a
      rcases i with _ | i
      · exact codeAt_append p a d q h
      · simp [codeAt] at h
/-- what is to be run: code at a place; the end of a block; the end of a loop's round -/
abbrev It (R : Type) := (List Nat) ⊕ Nat ⊕ (SS R → Prop)
def stk (D : Res R) (P : Program) (C : Ctx) (root : Code) (k : Exit → SS R → Prop) : List (It R) → Exit → Act → World → Prop
  | [], e, a, w => ∃ σ, k e σ ∧ M D C σ a w
  | .inl p :: r, e, a, w => match e with
    | .normal => match codeAt root p with
      | some c => c.wp P (stk D P C root k r) a w
      | none => False
    | e => stk D P C root k r e a w
  | .inr (.inl id) :: r, e, a, w => Exit.inBlock id (stk D P C root k r) e a w
  | .inr (.inr J) :: r, e, a, w => match e with
    | .normal => ∃ σ, J σ ∧ C.n0 ≤ σ.hp.length ∧ M D C σ a w
    | e => stk D P C root k r e a w
/-- what is to be run, run from σ, comes to k -/
structure At (D : Res R) (P : Program) (root : Code) (n0 : Nat) (k : Exit → SS R → Prop) (todo : List (It R)) (σ : SS R) : Prop where
  run : ∀ C a w, C.n0 = n0 → n0 ≤ σ.hp.length → M D C σ a w → stk D P C root k todo .normal a w
def popTo (id : Nat) : List (It R) → Option (List (It R))
  | [] => none
  | .inr (.inl i) :: r => if Nat.beq i id then some r else popTo id r
  | .inl _ :: r => popTo id r
  | .inr (.inr _) :: r => popTo id r
theorem stk_exit {root : Code} {k : Exit → SS R → Prop} {id : Nat} {a : Act} : ∀ {todo : List (It R)},
    (match popTo id todo with | some r => stk D P C root k r .normal a w | none => ∃ σ, k (.exit id) σ ∧ M D C σ a w) → stk D P C root k todo (.exit id) a w
  | [], h => h
  | .inl _ :: r, h => by simp only [popTo] at h; simp only [stk]; exact stk_exit h
  | .inr (.inr _) :: r, h => by simp only [popTo] at h; simp only [stk]; exact stk_exit h
  | .inr (.inl i) :: r, h => by
    simp only [popTo] at h
    simp only [stk, Exit.inBlock]
    by_cases he : i = id
    · subst he
      rw [if_pos rfl]
      rw [if_pos (by simp)] at h
      exact h
    · rw [if_neg (fun e => he e.symm)]
      rw [if_neg (by simp [he])] at h
      exact stk_exit h
theorem stk_ret {root : Code} {k : Exit → SS R → Prop} {a : Act} : ∀ {todo : List (It R)}, (∃ σ, k .ret σ ∧ M D C σ a w) → stk D P C root k todo .ret a w
  | [], h => h
  | .inl _ :: r, h => by simp only [stk]; exact stk_ret h
  | .inr (.inr _) :: r, h => by simp only [stk]; exact stk_ret h
  | .inr (.inl i) :: r, h => by simp only [stk, Exit.inBlock]; exact stk_ret h
end
end Go.Proofs.YtobdpddamdkabaaDoor.Rx
namespace Go.Proofs.YtobdpddamdkabaaDoor.Rx
open Go.RowKit Go.Proofs.YtobdpddamdkabaaDoor.State
set_option linter.unusedVariables false
set_option linter.unusedSimpArgs false
/-- the values of some slots -/
def vals (tm : List (Option Value)) : List Nat → List (Option Value)
  | [] => []
  | t :: ts => (match tm[t]? with
    | some (some v) => some v
    | _ => none) :: vals tm ts
def someL : List Value → List (Option Value)
  | [] => []
  | v :: l => some v :: someL l
def slot (ts : List Nat) (vs : List Value) (i : Nat) : Option Value :=
  match ts, vs with
  | t :: ts, v :: vs => if Nat.beq t i then some v else slot ts vs i
  | _, _ => none
/-- a frame of which just some slots are known -/
def frame (ts : List Nat) (vs : List Value) : Nat → Nat → List (Option Value)
  | _, 0 => []
  | i, n + 1 => slot ts vs i :: frame ts vs (i + 1) n
section
variable {R : Type} {D : Res R} {P : Program} {T : Tab R} {C : Ctx} {ρ : Env} {ft : Nat → Nat → Prop} {w w' : World}
/-- a heap with at least these blocks -/
def hpLe : Hp R → Hp R → Prop
  | _, [] => True
  | [], _ :: _ => False
  | _ :: h, none :: r => hpLe h r
  | x :: h, some B :: r => x = some B ∧ hpLe h r
def hpIn (n : Nat) : Hp R → Bool
  | [] => true
  | some (.inl (_, cs)) :: h => inbL n cs && hpIn n h
  | _ :: h => hpIn n h
/-- the slots ts hold vs, the heap has h -/
def Fits (n0 N : Nat) (ts : List Nat) (vs : List Value) (h : Hp R) (σ : SS R) : Prop := vals σ.tm ts = someL vs ∧ hpLe σ.hp h ∧ σ.tm.length = N ∧ n0 ≤ h.length
theorem hpLe_get : ∀ {h r : Hp R} {i : Nat} {B : SB R}, hpLe h r → r[i]? = some (some B) → h[i]? = some (some B)
  | _, [], i, B, _, hB => by simp at hB
  | [], _ :: _, _, _, h, _ => by simp [hpLe] at h
  | x :: h, none :: r, i, B, hl, hB => by
    cases i with
    | zero => simp at hB
    | succ i => simp only [List.getElem?_cons_succ] at hB ⊢; exact hpLe_get hl hB
  | x :: h, some B' :: r, i, B, hl, hB => by
    cases i with
    | zero => simp only [List.getElem?_cons_zero, Option.some.injEq] at hB ⊢; rw [hl.1, hB]
    | succ i => simp only [List.getElem?_cons_succ] at hB ⊢; exact hpLe_get hl.2 hB
theorem hpIn_get : ∀ {r : Hp R} {n i : Nat} {B : SB R}, hpIn n r = true → r[i]? = some (some B) → inside n B
  | [], n, i, B, _, hB => by simp at hB
  | x :: r, n, i, B, h, hB => by
    have hr : hpIn n r = true ∧ (i = 0 → inside n B) := by
      rcases x with _ | ⟨t, cs⟩ | ⟨t, ro⟩ | ro | x
      · exact ⟨h, fun e => by grind⟩
      · simp only [hpIn, Bool.and_eq_true] at h
        exact ⟨h.2, fun e => by subst e; simp only [List.getElem?_cons_zero, Option.some.injEq] at hB; subst hB; exact h.1⟩
      · exact ⟨h, fun e => by subst e; simp only [List.getElem?_cons_zero, Option.some.injEq] at hB; subst hB; trivial⟩
      · exact ⟨h, fun e => by subst e; simp only [List.getElem?_cons_zero, Option.some.injEq] at hB; subst hB; trivial⟩
      · exact ⟨h, fun e => by subst e; simp only [List.getElem?_cons_zero, Option.some.injEq] at hB; subst hB; trivial⟩
    cases i with
    | zero => grind
    | succ i => exact hpIn_get hr.1 hB
theorem HM.weak {h r : Hp R} (hm : HM D C ρ ft h w) (hl : hpLe h r) (hi : hpIn r.length r = true) : HM D C ρ (fun i k => (∃ B, r[i]? = some (some B)) ∧ ft i k) r w where
  at_ i B hB := by
    obtain ⟨h1, h2⟩ := hm.at_ i B (hpLe_get hl hB)
    refine ⟨?_, hpIn_get hi hB⟩
    simp[*]
  lt i k hk := hm.lt i k hk.2
  fresh i k hk := hm.fresh i k hk.2
  apart i j k hi hj := hm.apart i j k hi.2 hj.2
  some_ i k hk := hk.1
  kept := hm.kept
  gl := hm.gl
theorem slot_vals {tm : List (Option Value)} : ∀ {ts : List Nat} {vs : List Value} {i : Nat} {v : Value}, vals tm ts = someL vs → slot ts vs i = some v → tm[i]? = some (some v) ∧ v ∈ vs
  | [], _, i, v, _, h => by simp [slot] at h
  | _ :: _, [], i, v, _, h => by simp [slot] at h
  | t :: ts, u :: vs, i, v, hv, h => by
    injection hv with h1 h2
    simp only [slot] at h
    split at h
    · grind[Nat.eq_of_beq_eq_true]
    · obtain ⟨g1, g2⟩ := slot_vals h2 h
      grind
theorem frame_get (ts : List Nat) (vs : List Value) : ∀ (n i j : Nat), (frame ts vs i n).length = n ∧ (j < n → (frame ts vs i n)[j]? = some (slot ts vs (i + j)))
  | 0, i, j => ⟨rfl, fun h => by omega⟩
  | n + 1, i, j => by
    obtain ⟨h1, h2⟩ := frame_get ts vs n (i + 1) (j - 1)
    grind[frame]
theorem M.weak {σ : SS R} {a : Act} {n0 N : Nat} {ts : List Nat} {vs : List Value} {h : Hp R} (hm : M D C σ a w) (hf : Fits n0 N ts vs h σ) (hv : inbL h.length vs = true) (hi : hpIn h.length h = true) : M D C ⟨frame ts vs 0 N, [], h⟩ a w := by
  obtain ⟨ρ, ft, h0, h1, h2⟩ := hm.ex
  obtain ⟨f1, f2, f3, f4⟩ := hf
  refine ⟨hm.defers, fun t b hb => (by cases hb), ρ, _, h0, ⟨?_, fun t v ht => ?_⟩, h2.weak f2 hi⟩
  · rw [h1.size, f3, (frame_get ts vs N 0 0).1]
  · have hl : t < N := by have := (List.getElem?_eq_some_iff.1 ht).1; rw [(frame_get ts vs N 0 0).1] at this; exact this
    rw [(frame_get ts vs N 0 t).2 hl, Nat.zero_add] at ht
    injection ht with ht
    obtain ⟨g1, g2⟩ := slot_vals f1 ht
    exact ⟨(h1.val t v g1).1, inbL_iff.1 hv v g2⟩
/-- a loop, by what holds at its head -/
theorem loop_at {root body : Code} {n0 : Nat} {k : Exit → SS R → Prop} {p : List Nat} {r : List (It R)} {σ : SS R} (hc : codeAt root p = some (.loop body)) {ι : Type} (I : ι → Prop) (ts : List Nat) (V : ι → List Value) (H : ι → Hp R) (μ : ι → Nat)
    (hin : ∀ i, I i → inbL (H i).length (V i) = true ∧ hpIn (H i).length (H i) = true ∧ n0 ≤ (H i).length)
    (h0 : ∃ i, I i ∧ Fits n0 σ.tm.length ts (V i) (H i) σ)
    (step : ∀ i, I i → At D P root n0 k (.inl (p ++ [0]) :: .inr (.inr fun σ' => ∃ j, I j ∧ μ j < μ i ∧ Fits n0 σ.tm.length ts (V j) (H j) σ') :: r) ⟨frame ts (V i) 0 σ.tm.length, [], H i⟩) :
    At D P root n0 k (.inl p :: r) σ := by
  refine ⟨fun C a w hC hn hm => ?_⟩
  simp only [stk, hc]
  obtain ⟨i0, hI0, hf0⟩ := h0
  obtain ⟨q1, q2, _⟩ := hin i0 hI0
  have key : ∀ (m : Nat) (i : ι) (a : Act) (w : World), μ i = m → I i → M D C ⟨frame ts (V i) 0 σ.tm.length, [], H i⟩ a w → (Code.loop body).wp P (stk D P C root k r) a w := by
    intro m i a w hm hI hM
    refine wp_loop (fun a w => ∃ i, I i ∧ M D C ⟨frame ts (V i) 0 σ.tm.length, [], H i⟩ a w) (fun a w => Classical.epsilon fun n => ∃ i, μ i = n ∧ I i ∧ M D C ⟨frame ts (V i) 0 σ.tm.length, [], H i⟩ a w ∧ ∀ j, I j → M D C ⟨frame ts (V j) 0 σ.tm.length, [], H j⟩ a w → n ≤ μ j) ⟨i, hI, hM⟩ ?_
    intro a w ⟨i, hI, hM⟩
    -- the least measure
    have least : ∀ (a : Act) (w : World), (∃ i, I i ∧ M D C ⟨frame ts (V i) 0 σ.tm.length, [], H i⟩ a w) →
        ∃ n i, μ i = n ∧ I i ∧ M D C ⟨frame ts (V i) 0 σ.tm.length, [], H i⟩ a w ∧ ∀ j, I j → M D C ⟨frame ts (V j) 0 σ.tm.length, [], H j⟩ a w → n ≤ μ j := by
      intro a w ⟨i, hI, hM⟩
      have : ∀ (n : Nat) (i : ι), μ i = n → I i → M D C ⟨frame ts (V i) 0 σ.tm.length, [], H i⟩ a w → ∃ n i, μ i = n ∧ I i ∧ M D C ⟨frame ts (V i) 0 σ.tm.length, [], H i⟩ a w ∧ ∀ j, I j → M D C ⟨frame ts (V j) 0 σ.tm.length, [], H j⟩ a w → n ≤ μ j := by
        intro n
        induction n using Nat.strongRecOn with
        | _ n ih =>
          grind
      grind
    have spec := fun a w h => Classical.epsilon_spec (p := fun n => ∃ i, μ i = n ∧ I i ∧ M D C ⟨frame ts (V i) 0 σ.tm.length, [], H i⟩ a w ∧ ∀ j, I j → M D C ⟨frame ts (V j) 0 σ.tm.length, [], H j⟩ a w → n ≤ μ j) (least a w h)
    obtain ⟨i', e1, hI', hM', hmin⟩ := spec a w ⟨i, hI, hM⟩
    obtain ⟨_, _, hn'⟩ := hin i' hI'
    have hbody := (step i' hI').run C a w hC hn' hM'
    simp only [stk] at hbody
    rw [show codeAt root (p ++ [0]) = some body by simp_all[codeAt_append,codeAt]] at hbody
    refine wp_mono hbody fun e a' w' h => ?_
    cases e with
    | normal =>
      obtain ⟨σ', ⟨j, hJ, hlt, hfit⟩, _, hM2⟩ := h
      obtain ⟨g1, g2, _⟩ := hin j hJ
      have hM3 := hM2.weak hfit g1 g2
      refine ⟨⟨j, hJ, hM3⟩, ?_⟩
      obtain ⟨i2, e2, _, _, hmin2⟩ := spec a' w' ⟨j, hJ, hM3⟩
      grind
    | _ => exact h
  exact key _ i0 a w rfl hI0 (hm.weak hf0 q1 q2)
/-- a result -/
def resOne (P : Program) (σ : SS R) : ResultVar → Option Value
  | .tmp t => ev σ.tm (.tmp t)
  | .cell p t =>
    match ev σ.tm (.tmp p) with
    | some (.pointer (some ⟨i, e, none⟩)) => match opLoad P σ t (.tmp p) with
      | some x => some x.v
      | none => none
    | _ => none
def resAll (P : Program) (σ : SS R) : List ResultVar → Option (List Value)
  | [] => some []
  | r :: l =>
    match resOne P σ r, resAll P σ l with
    | some v, some vs => some (v :: vs)
    | _, _ => none
def pack : List Value → Value
  | [v] => v
  | vs => .tuple ⟨vs⟩
/-- a function's end -/
def retK (P : Program) (rs : List ResultVar) (G : Value → Hp R → Prop) (e : Exit) (σ : SS R) : Prop :=
  match e with
  | .ret | .normal => match resAll P σ rs with
    | some vs => Post (G (pack vs) σ.hp)
    | none => Stuck 8
  | _ => Stuck 9
def resFn (a : Act) : ResultVar → Sem Value
  | .tmp t => pure (a.tmps.getD t undef)
  | .cell p t => do loadVar t (← asAddr (a.tmps.getD p undef))
theorem resOne_ok {σ : SS R} {r : ResultVar} {v : Value} {a : Act} (ht : TM ρ σ.hp.length σ.tm a) (hm : HM D C ρ ft σ.hp w) (hl : LI σ.li σ.tm) (h : resOne P σ r = some v) :
    (resFn a r).run P w = .ok (ren ρ v) w := by
  unfold resFn
  cases r with
  | tmp t =>
    simp only [resOne] at h
    have := (ev_eval ht h).1
    simp only [Act.eval] at this
    simp[*]
  | cell p t =>
    simp only [resOne] at h
    split at h
    · rename_i i e hp
      split at h
      · rename_i x hx
        injection h with h
        subst h
        have hev := (ev_eval ht hp).1
        simp only [Act.eval, ren] at hev
        have hrun : ∃ v', (loadVar t (renA ρ ⟨i, e, none⟩)).run P w = .ok v' w ∧ v' = ren ρ x.v := by
          unfold opLoad at hx
          rw [hp] at hx
          simp only at hx
          split at hx
          · rename_i t' cs hi
            split at hx
            · rename_i hg
              split at hx
              · injection hx with hx
                have hc := cells_reads hm hi e
                grind[loadVar_one,renA,cellOf,quietOut]
              grind
            · rename_i n hg
              split at hx
              · rename_i hle
                have hle := Nat.le_of_ble_eq_true hle
                injection hx with hx
                subst hx
                have hl : (((cs.drop e).take n).map (ren ρ)).length = n := by grind
                refine ⟨_, loadVar_agg (cs := ((cs.drop e).take n).map (ren ρ)) (by grind) (fun j v hv => ?_), ?_⟩
                · simp only [renA, cellOf]
                  rw [add_at, Nat.add_assoc, cells_reads hm hi]
                  grind
                · show _ = ren ρ (.agg _)
                  grind[ren_agg]
              grind
            grind
          grind
        obtain ⟨v', h1, rfl⟩ := hrun
        simp only [Sem.run_bind, hev, asAddr, Sem.run_pure, Result.andThen_ok, h1]
      · cases h
    · cases h
theorem resAll_ok {σ : SS R} {a : Act} (ht : TM ρ σ.hp.length σ.tm a) (hm : HM D C ρ ft σ.hp w) (hl : LI σ.li σ.tm) : ∀ {rs : List ResultVar} {vs : List Value}, resAll P σ rs = some vs →
    (rs.mapM (m := Sem) (resFn a)).run P w = .ok (vs.map (ren ρ)) w
  | [], vs, h => by
    simp_all[resAll]
  | r :: rs, vs, h => by
    simp only [resAll] at h
    split at h
    · rename_i v vs' hv hvs
      injection h with h
      subst h
      have h1 := resOne_ok ht hm hl hv
      have h2 := resAll_ok ht hm hl hvs
      simp[*]
    · cases h
theorem results_ok {σ : SS R} {a : Act} {fn : Func} {vs : List Value} (ht : TM ρ σ.hp.length σ.tm a) (hm : HM D C ρ ft σ.hp w) (hl : LI σ.li σ.tm) (h : resAll P σ fn.results.toList = some vs) :
    (results fn a.tmps).run P w = .ok (ren ρ (pack vs)) w := by
  have h1 := resAll_ok ht hm hl h
  have e : results fn a.tmps = (do let vs ← fn.results.mapM (resFn a); pure (if h : vs.size = 1 then vs[0] else .tuple vs)) := by
    unfold results
    congr 1
  rw [e, Sem.run_bind, Array.mapM_eq_mapM_toList, Sem.run_map, h1]
  simp only [Result.andThen_ok, Sem.run_pure]
  congr 1
  cases vs with
  | nil => simp [pack, ren, renL]
  | cons v l =>
    cases l with
    | nil => simp [pack]
    | cons u l => simp [pack, ren, renL, renL_eq]
/-- the part of a context that the heap hangs on -/
theorem HM.ctx {C' : Ctx} {h : Hp R} (hm : HM D C ρ ft h w) (h1 : C'.w0 = C.w0) (h2 : C'.U = C.U) : HM D C' ρ ft h w where
  at_ i B hi := by
    obtain ⟨g1, g2⟩ := hm.at_ i B hi
    grind[hold]
  lt := hm.lt
  fresh i k hk := by rw [h1, h2]; exact hm.fresh i k hk
  apart := hm.apart
  some_ := hm.some_
  kept := by rw [h1, h2]; exact hm.kept
  gl := by rw [h1, h2]; exact hm.gl
/-- a function, by its code -/
theorem calls_At {f : FuncId} {fn : Func} {root : Code} {args : List Value} {hp : Hp R} {G : Value → Hp R → Prop} (hf : P.funcs[f]? = some fn) (hb : fn.body = some root)
    (h : At D P root hp.length (retK P fn.results.toList G) [.inl []] ⟨someL args ++ List.replicate (fn.ntmps - args.length) none, [], hp⟩) (hm : HM D C ρ ft hp w) (hi : inbL hp.length args = true) :
    Calls P f (args.map (ren ρ)).toArray w fun e w' => ∃ ρ' ft' v hp', (∀ i, i < hp.length → ρ' i = ρ i) ∧ e = .returned (ren ρ' v) ∧ G v hp' ∧ HM D C ρ' ft' hp' w' := by
  have hsl : ∀ (l : List Value), someL l = l.map some := fun l => by induction l with
    | nil => rfl
    | cons v l ih => simp [someL, ih]
  refine calls_of_wp hf hb ?_
  have hM : M D ⟨C.w0, C.U, ρ, hp.length⟩ ⟨someL args ++ List.replicate (fn.ntmps - args.length) none, [], hp⟩ { tmps := (args.map (ren ρ)).toArray ++ Array.replicate (fn.ntmps - (args.map (ren ρ)).toArray.size) undef, defers := [] } w := by
    refine ⟨rfl, fun t b hb => (by cases hb), ρ, ft, fun i _ => rfl, ⟨by simp [hsl], fun t v ht => ?_⟩, hm.ctx rfl rfl⟩
    rw [hsl] at ht
    grind[inbL_iff]
  have hs := h.run ⟨C.w0, C.U, ρ, hp.length⟩ _ w rfl (Nat.le_refl _) hM
  simp only [stk, codeAt] at hs
  refine wp_mono hs fun e a' w' ⟨σ, hk, hM'⟩ => ?_
  obtain ⟨ρ', ft', g0, g1, g2⟩ := hM'.ex
  have key : ∀ (e : Exit), retK P fn.results.toList G e σ → (e = .ret ∨ e = .normal) → ∃ v, (results fn a'.tmps).run P w' = .ok v w' ∧ ∃ ρ' ft' v2 hp', (∀ i, i < hp.length → ρ' i = ρ i) ∧ Ending.returned v = .returned (ren ρ' v2) ∧ G v2 hp' ∧ HM D C ρ' ft' hp' w' := by
    intro e hk he
    have : ∃ vs, resAll P σ fn.results.toList = some vs ∧ G (pack vs) σ.hp := by
      rcases he with rfl | rfl
      · simp only [retK] at hk
        split at hk
        · exact ⟨_, by assumption, hk.out⟩
        · exact hk.elim
      · simp only [retK] at hk
        split at hk
        · exact ⟨_, by assumption, hk.out⟩
        · exact hk.elim
    obtain ⟨vs, h1, h2⟩ := this
    exact ⟨_, results_ok g1 g2 hM'.li h1, ρ', ft', pack vs, σ.hp, g0, rfl, h2, g2.ctx rfl rfl⟩
  cases e with
  | ret => exact ⟨hM'.defers, key _ hk (Or.inl rfl)⟩
  | normal => exact ⟨hM'.defers, key _ hk (Or.inr rfl)⟩
  | _ => exact Stuck.elim hk
end
end Go.Proofs.YtobdpddamdkabaaDoor.Rx
namespace Go.Proofs.YtobdpddamdkabaaDoor.Rx
open Go.RowKit Go.Proofs.YtobdpddamdkabaaDoor.State
set_option linter.unusedVariables false
set_option linter.unusedSimpArgs false
section
variable {R : Type} {D : Res R} {C : Ctx} {ρ ρ' : Env} {ft ft' : Nat → Nat → Prop} {w w' : World} {h hr hx h' : Hp R}
def isView : SB R → Bool
  | .inr (.inr (.inl _)) => true
  | _ => false
/-- what a block says hangs on the context for a row that is only read alone -/
theorem hold_ctx {C' : Ctx} {i : Nat} {F : Nat → Prop} {B : SB R} (hB : isView B = false) (hh : hold D C ρ i F w B) : hold D C' ρ i F w B := by
  rcases B with ⟨t, cs⟩ | ⟨t, r⟩ | r | x
  · exact hh
  · exact hh
  · cases hB
  · exact hh
def Seen (hr : Hp R) (b : Nat) : Prop := ∃ X, hr[b]? = some (some X)
def localC (w : World) (hr : Hp R) (ft : Nat → Nat → Prop) (ρ : Env) (n : Nat) : Ctx := ⟨w, fun k => ∃ b, Seen hr b ∧ ft b k, ρ, n⟩
/-- the part that is seen -/
theorem HM.sub (hm : HM D C ρ ft h w) (hsub : ∀ (b : Nat) (X : SB R), hr[b]? = some (some X) → h[b]? = some (some X)) (hin : hpIn hr.length hr = true) (n : Nat) :
    HM D (localC w hr ft ρ n) ρ (fun b k => Seen hr b ∧ ft b k) hr w where
  at_ i B hB := by
    obtain ⟨h1, h2⟩ := hm.at_ i B (hsub i B hB)
    refine ⟨?_, hpIn_get hin hB⟩
    have hft : (fun k => Seen hr i ∧ ft i k) = ft i := funext fun k => propext ⟨fun h => h.2, fun h => ⟨⟨B, hB⟩, h⟩⟩
    rw [hft]
    rcases B with ⟨t, cs⟩ | ⟨t, r⟩ | r | x
    · exact h1
    · exact h1
    · obtain ⟨g1, g2, g3, g4, g5, arr, g6, g7⟩ := h1
      refine ⟨g1, g2, g3, g4, g5, arr, fun hn h0 => ?_, g7⟩
      obtain ⟨q1, q2, t, fz, q3⟩ := g6 hn h0
      refine ⟨Nat.lt_of_lt_of_le q1 hm.kept.size, fun ⟨b, _, hb⟩ => ?_, t, fz, by rw [← q3]; exact hm.kept.block _ q1 q2⟩
      rcases hm.fresh b _ hb with hu | hge
      all_goals grind
    · exact h1
  lt i k hk := hm.lt i k hk.2
  fresh i k hk := Or.inl ⟨i, hk.1, hk.2⟩
  apart i j k hi hj := hm.apart i j k hi.2 hj.2
  some_ i k hk := hk.1
  kept := Kept.refl _ _
  gl := hm.gl.next hm.kept fun k ⟨b, _, hb⟩ => hm.fresh b k hb
/-- and back -/
theorem HM.back (hm : HM D C ρ ft h w) (hsub : ∀ (b : Nat) (X : SB R), hr[b]? = some (some X) → h[b]? = some (some X)) (hle : hr.length ≤ h.length) {n : Nat}
    (hm' : HM D (localC w hr ft ρ n) ρ' ft' hx w') (hρ : ∀ b, b < hr.length → ρ' b = ρ b) (hlx : hr.length ≤ hx.length) (hal : hr.length < hx.length → hr.length = h.length)
    (hv : ∀ (b : Nat) (X : SB R), hx[b]? = some (some X) → (b < hr.length → ∃ Y, hr[b]? = some (some Y)) ∧ (isView X = false ∨ ∃ Y, hr[b]? = some (some Y) ∧ isView Y = true))
    (hlen : h'.length = if hr.length < hx.length then hx.length else h.length)
    (hnew : ∀ (b : Nat), (∃ Y, hr[b]? = some (some Y) ∧ isView Y = false) ∨ h.length ≤ b → h'[b]? = if b < hx.length then hx[b]? else none)
    (hold_ : ∀ (b : Nat), b < h.length → ¬ (∃ Y, hr[b]? = some (some Y) ∧ isView Y = false) → h'[b]? = h[b]?) :
    HM D C (fun b => if b < h.length then ρ b else ρ' b) (fun b k => (((∃ Y, hr[b]? = some (some Y) ∧ isView Y = false) ∨ h.length ≤ b) ∧ ft' b k) ∨ (¬ ((∃ Y, hr[b]? = some (some Y) ∧ isView Y = false) ∨ h.length ≤ b) ∧ ft b k)) h' w' := by
  have hge : h.length ≤ h'.length := by
    grind
  -- a block seen, that is not only read
  let T : Nat → Prop := fun b => ∃ Y, hr[b]? = some (some Y) ∧ isView Y = false
  have hρ2 : ∀ j, j < hx.length → (if j < h.length then ρ j else ρ' j) = ρ' j := fun j hj => by
    grind
  refine hm.step T ?_ (fun i hi => by simp [hi]) hge ?_ ?_ ?_ ?_
  · -- what may have been written
    refine ⟨hm'.kept.os, hm'.kept.tape, hm'.kept.output, hm'.kept.size, fun k hk hn => hm'.kept.block k hk fun ⟨b, ⟨X, hX⟩, hb⟩ => hn ⟨b, ⟨X, hX, ?_⟩, hb⟩⟩
    cases hX2 : isView X with
    | false => rfl
    | true =>
      have := (hm.at_ b X (hsub b X hX)).1
      rcases X with ⟨t, cs⟩ | ⟨t, r⟩ | r | x <;> simp [isView] at hX2
      exact absurd hb (this.1 k)
  · intro i B hi hB
    have hTn : T i ∨ h.length ≤ i := by
      grind
    rw [hnew i hTn] at hB
    split at hB
    · rename_i hlt
      obtain ⟨g1, g2⟩ := hm'.at_ i B hB
      have hnv : isView B = false := by
        grind
      refine ⟨?_, inside_mono ?_ g2⟩
      · have e : (fun k => ((T i ∨ h.length ≤ i) ∧ ft' i k) ∨ (¬ (T i ∨ h.length ≤ i) ∧ ft i k)) = ft' i := funext fun k => propext ⟨fun h => h.elim (fun h => h.2) (fun h => absurd hTn h.1), fun h => Or.inl ⟨hTn, h⟩⟩
        rw [e]
        exact hold_ctx hnv (hold_env g1 hρ2 hlt g2)
      grind
    grind
  · grind
  · intro i k hi hk
    have hTn : T i ∨ h.length ≤ i := by
      grind
    have hk' : ft' i k := hk.elim (fun h => h.2) (fun h => absurd hTn h.1)
    refine ⟨?_, hm'.lt i k hk', ?_⟩
    · rcases hm'.fresh i k hk' with ⟨b, ⟨X, hX⟩, hb⟩ | hge'
      · refine Or.inl ⟨b, ⟨X, hX, ?_⟩, hb⟩
        cases hX2 : isView X with
        | false => rfl
        | true =>
          have := (hm.at_ b X (hsub b X hX)).1
          rcases X with ⟨t, cs⟩ | ⟨t, r⟩ | r | x <;> simp [isView] at hX2
          exact absurd hb (this.1 k)
      · exact Or.inr hge'
    · obtain ⟨B, hB⟩ := hm'.some_ i k hk'
      grind
  · intro i j k hi hj hki hkj
    have hTi : T i ∨ h.length ≤ i := by
      grind
    have hTj : T j ∨ h.length ≤ j := by
      grind
    exact hm'.apart i j k (hki.elim (fun h => h.2) (fun h => absurd hTi h.1)) (hkj.elim (fun h => h.2) (fun h => absurd hTj h.1))
end
end Go.Proofs.YtobdpddamdkabaaDoor.Rx
namespace Go.Proofs.YtobdpddamdkabaaDoor.Rx
open Go.RowKit Go.Proofs.YtobdpddamdkabaaDoor.State
set_option linter.unusedVariables false
set_option linter.unusedSimpArgs false
section
variable {R : Type} {D : Res R} {P : Program} {T : Tab R} {σ : SS R} {x : Out R}
/-- what writes nothing leaves the heap -/
def StillO (σ : SS R) (x : Out R) : Prop := x.wr = [] → x.hp = σ.hp
theorem still_quiet (vc : Prop) (v : Value) (lit : Option Bool) (rd : List (Nat × Nat)) : StillO σ (quietOut σ vc v lit rd) := fun _ => rfl
theorem opPure_still {o : Oper} (h : opPure P σ o = some x) : StillO σ x := by grind[opPure,still_quiet]
theorem opElse_still {o : Oper} (h : opElse P T σ o = some x) : StillO σ x := by
  unfold opElse at h
  split at h
  · rename_i x' hx
    injection h with h
    subst h
    unfold opMaps at hx
    simp only at hx
    repeat' split at hx
    all_goals first
      | (injection hx with hx; subst hx; exact still_quiet _ _ _ _)
      | (injection hx with hx; subst hx; intro hw; cases hw)
      | cases hx
  · exact opPure_still h
theorem opMove_still {y : Operand} (h : opMove σ y = some x) : StillO σ x := by grind[opMove,still_quiet]
theorem opNilSlice_still {t : TypeId} (h : opNilSlice P σ t = some x) : StillO σ x := by
  unfold opNilSlice at h
  repeat' split at h
  all_goals first
    | (injection h with h; subst h; intro hw; cases hw)
    | cases h
theorem opAssign_still {t : TypeId} {y : Operand} (h : opAssign P σ t y = some x) : StillO σ x := by grind[opAssign,opNilSlice_still,opMove_still]
theorem opPick_still {c y z : Operand} (h : opPick σ c y z = some x) : StillO σ x := by grind[opPick,opMove_still,still_quiet]
theorem newCells_still {t : TypeId} {cs : List Value} (h : newCells σ t cs = some x) : StillO σ x := by
  injection h with h; subst h; intro hw; cases hw
theorem opAlloc_still {t : TypeId} (h : opAlloc P σ t = some x) : StillO σ x := by grind[opAlloc,newCells_still]
theorem opBox_still {t : TypeId} {y : Operand} (h : opBox σ t y = some x) : StillO σ x := by grind[opBox,newCells_still]
theorem opBuild_still {t : TypeId} {ps : List (Nat × Operand)} (h : opBuild P σ t ps = some x) : StillO σ x := by grind[opBuild,still_quiet]
theorem opBuildSlice_still {t : TypeId} {n : Nat} {ps : List (Nat × Operand)} (h : opBuildSlice P σ t n ps = some x) : StillO σ x := by
  unfold opBuildSlice at h
  repeat' split at h
  all_goals first
    | (injection h with h; subst h; intro hw; cases hw)
    | cases h
theorem opLoad_still {t : TypeId} {y : Operand} (h : opLoad P σ t y = some x) : StillO σ x := by
  unfold opLoad at h
  repeat' split at h
  all_goals first
    | (injection h with h; subst h; exact still_quiet _ _ _ _)
    | cases h
theorem locs_ne {i e n : Nat} (h : locs i e n = []) : n = 0 := by
  cases n with
  | zero => rfl
  | succ n => simp [locs] at h
theorem set_same {α : Type} {l : List α} {i : Nat} {a : α} (h : l[i]? = some a) : l.set i a = l := by
  apply List.ext_getElem?
  grind
theorem opStore_still {t : TypeId} {y z : Operand} (h : opStore P σ t y z = some x) : StillO σ x := by
  unfold opStore at h
  split at h
  · rename_i i e v _ _
    split at h
    · rename_i ty cs inf hi _
      split at h
      · rename_i hc
        simp only [Bool.and_eq_true] at hc
        injection h with h
        subst h
        intro hw
        have h0 := locs_ne hw
        have h1 := Nat.eq_of_beq_eq_true hc.1.1
        rw [h0] at h1
        have h2 : v.cells.toList = [] := List.eq_nil_of_length_eq_zero h1
        simp only [h2]
        exact set_same (by rw [hi]; rfl)
      · cases h
    · cases h
  · split at h
    · split at h
      · rename_i hc
        simp only [Bool.and_eq_true, Nat.blt_eq] at hc
        split at h
        · injection h with h
          intro hw
          grind[locs_ne]
        · cases h
      · cases h
    · cases h
  · cases h
theorem opNil_still {y : Operand} (h : opNil σ y = some x) : StillO σ x := by grind[opNil,still_quiet]
theorem opEqNil_still {neg : Bool} {t : TypeId} {y z : Operand} (h : opEqNil P σ neg t y z = some x) : StillO σ x := by grind[opEqNil,still_quiet]
theorem opEqAgg_still {neg : Bool} {t : TypeId} {y z : Operand} (h : opEqAgg P σ neg t y z = some x) : StillO σ x := by grind[opEqAgg,still_quiet]
theorem opInt_still {op : BinOp} {y z : Operand} (h : opInt σ op y z = some x) : StillO σ x := by grind[opInt,still_quiet]
theorem opCat_still {y z : Operand} (h : opCat σ y z = some x) : StillO σ x := by grind[opCat,still_quiet]
theorem opEqPtr_still {own : Option (Option (SB R)) → Bool} {neg : Bool} {t : TypeId} {y z : Operand} (h : opEqPtr P σ own neg t y z = some x) : StillO σ x := by
  unfold opEqPtr at h
  grind[still_quiet]
theorem opBuildCells_still {t : TypeId} {n : Nat} {ps : List (Nat × Operand)} (h : opBuildCells P σ t n ps = some x) : StillO σ x := by
  unfold opBuildCells at h
  repeat' split at h
  all_goals first
    | (injection h with h; subst h; intro hw; cases hw)
    | cases h
theorem opIndexCells_still {t : TypeId} {y z : Operand} (h : opIndexCells P σ t y z = some x) : StillO σ x := by grind[opIndexCells,still_quiet]
theorem opShift_still {op : BinOp} {y z : Operand} (h : opShift σ op y z = some x) : StillO σ x := by grind[opShift,still_quiet]
theorem opBits_still {op : BinOp} {y z : Operand} (h : opBits σ op y z = some x) : StillO σ x := by grind[opBits,still_quiet]
theorem opBin_still {o : Oper} {op : BinOp} {t : TypeId} {y z : Operand} (h : opBin P T σ o op t y z = some x) : StillO σ x := by
  unfold opBin at h
  grind[opPure_still,opInt_still,opCat_still,opEqNil_still,opEqAgg_still,opEqPtr_still,opShift_still,opBits_still]
theorem opNot_still {y : Operand} (h : opNot σ y = some x) : StillO σ x := by grind[opNot,still_quiet]
theorem opSlice_still {t : TypeId} {y : Operand} {lo hi mx : Option Operand} (h : opSlice P σ t y lo hi mx = some x) : StillO σ x := by
  unfold opSlice at h
  repeat' split at h
  all_goals first
    | (injection h with h; subst h; exact still_quiet _ _ _ _)
    | (injection h with h; subst h; intro hw; cases hw)
    | cases h
theorem opFieldAddr_still {t : TypeId} {y : Operand} {k : Nat} (h : opFieldAddr P σ t y k = some x) : StillO σ x := by
  unfold opFieldAddr at h
  repeat' split at h
  all_goals first
    | (injection h with h; subst h; exact still_quiet _ _ _ _)
    | cases h
theorem opField_still {t : TypeId} {y : Operand} {k : Nat} (h : opField P σ t y k = some x) : StillO σ x := by
  unfold opField at h
  repeat' split at h
  all_goals first
    | (injection h with h; subst h; exact still_quiet _ _ _ _)
    | cases h
theorem opIndexAddr_still {t : TypeId} {y z : Operand} (h : opIndexAddr P σ t y z = some x) : StillO σ x := by grind[opIndexAddr,still_quiet]
theorem opIndexArr_still {t : TypeId} {y z : Operand} (h : opIndexArr P σ t y z = some x) : StillO σ x := by
  unfold opIndexArr at h
  repeat' split at h
  all_goals grind[still_quiet]
theorem opIndexStr_still {t : TypeId} {y z : Operand} (h : opIndexStr P σ t y z = some x) : StillO σ x := by grind[opIndexStr,still_quiet]
theorem opExtract_still {y : Operand} {k : Nat} (h : opExtract σ y k = some x) : StillO σ x := by grind[opExtract,still_quiet]
theorem opMakeSlice_still {t : TypeId} {y z : Operand} (h : opMakeSlice P σ t y z = some x) : StillO σ x := by
  unfold opMakeSlice at h
  repeat' split at h
  all_goals first
    | (injection h with h; subst h; intro hw; cases hw)
    | cases h
theorem opLen_still {t : TypeId} {y : Operand} (h : opLen P σ t y = some x) : StillO σ x := by grind[opLen,still_quiet]
theorem opAppend_still {t t2 : TypeId} {y z : Operand} (h : opAppend P σ t t2 y z = some x) : StillO σ x := by
  unfold opAppend at h
  split at h
  · split at h
    · split at h
      · injection h with h; subst h; intro hw; cases hw
      · cases h
    · split at h
      · split at h
        · injection h with h; subst h; intro hw; cases hw
        · cases h
      · cases h
    · cases h
  · cases h
theorem opCall_still (hT : TabOk D P T) {f : Operand} {args : List Operand} {b : Bool} (h : opCall T σ f args b = some x) : StillO σ x := by
  unfold opCall at h
  split at h
  · split at h
    · rename_i p hp
      exact ((findF_ok hT hp).ok b).still _ _ _ h
    · cases h
  · cases h
theorem opInvoke_still (hT : TabOk D P T) {r : Operand} {name : String} {args : List Operand} {b : Bool} (h : opInvoke P T σ r name args b = some x) : StillO σ x := by
  unfold opInvoke at h
  split at h
  · split at h
    · split at h
      · rename_i p _ hp
        exact ((findF_ok hT hp).ok b).still _ _ _ h
      · cases h
    · cases h
  · cases h
theorem opCall_keep (hT : TabOk D P T) {f : Operand} {args : List Operand} {b : Bool} (h : opCall T σ f args b = some x) : ∀ i, i < σ.hp.length → keepB x.wr i = true → x.hp[i]? = σ.hp[i]? := by
  unfold opCall at h
  split at h
  · split at h
    · rename_i p hp
      exact (findF_ok hT hp).keep b _ _ _ h
    · cases h
  · cases h
theorem opInvoke_keep (hT : TabOk D P T) {r : Operand} {name : String} {args : List Operand} {b : Bool} (h : opInvoke P T σ r name args b = some x) : ∀ i, i < σ.hp.length → keepB x.wr i = true → x.hp[i]? = σ.hp[i]? := by
  unfold opInvoke at h
  split at h
  · split at h
    · split at h
      · rename_i p _ hp
        exact (findF_ok hT hp).keep b _ _ _ h
      · cases h
    · cases h
  · cases h
theorem opMakeFunc_still {fn : Fn} {fi ca : List Operand} (h : opMakeFunc σ fn fi ca = some x) : StillO σ x := by grind[opMakeFunc,still_quiet]
theorem opLoadT_still {t : TypeId} {y : Operand} (h : opLoadT P T σ t y = some x) : StillO σ x := by
  unfold opLoadT at h
  split at h
  · grind[opLoad_still]
  · repeat' split at h
    all_goals grind[still_quiet]
theorem sop_still (hT : TabOk D P T) {o : Oper} {b : Bool} (h : sop P T σ o b = some x) : StillO σ x := by
  unfold sop at h
  simp only at h
  split at h
  · exact opAssign_still h
  · exact opAssign_still h
  · exact opPick_still h
  · exact opAlloc_still h
  · exact opBox_still h
  · exact opBuild_still h
  · grind[opBuildSlice_still,opBuildCells_still]
  · exact opLoadT_still h
  · grind[opStore_still]
  · exact opNil_still h
  · exact opBin_still h
  · grind[opNot_still,opPure_still]
  · exact opSlice_still h
  · exact opFieldAddr_still h
  · exact opField_still h
  · grind[opIndexArr_still,opIndexCells_still,opIndexAddr_still]
  · grind[opIndexStr_still,opPure_still]
  all_goals grind[opExtract_still,opMakeSlice_still,opCall_still,opAppend_still,opLen_still,opElse_still,opPure_still,opInvoke_still,opMakeFunc_still]
/-- is it a call of a contract's -/
def isCall (o : Oper) : Bool :=
  match o with
  | ⟨_, .call ⟨.value _, _, _⟩, _, _, _, _⟩ => true
  | ⟨_, .call ⟨.invoke _ _, _, _⟩, _, _, _, _⟩ => true
  | _ => false
/-- is it an append -/
def isAppend (o : Oper) : Bool :=
  match o with
  | ⟨_, .call ⟨.builtin .append, ⟨[_, _]⟩, ⟨[_, _]⟩⟩, _, _, _, _⟩ => true
  | _ => false
theorem opAppend_keep {t t2 : TypeId} {y z : Operand} (h : opAppend P σ t t2 y z = some x) : ∀ i, i < σ.hp.length → memF x.wr i = false → x.hp[i]? = σ.hp[i]? := by
  unfold opAppend at h
  split at h
  · split at h
    · grind
    · split at h
      · split at h
        · injection h with h
          subst h
          intro j hj hm
          simp only [memF, Bool.or_eq_false_iff] at hm
          rw [List.getElem?_append_left (by grind), List.getElem?_set_ne]
          intro e
          simp_all
        · cases h
      · cases h
    · cases h
  · cases h
/-- which blocks an operation leaves as they were -/
def keepO (o : Oper) (wr : List (Nat × Nat)) (b : Nat) : Bool := (isCall o && keepB wr b) || (isAppend o && !memF wr b)
theorem sop_keep (hT : TabOk D P T) {o : Oper} {b : Bool} (h : sop P T σ o b = some x) : ∀ i, i < σ.hp.length → keepO o x.wr i = true → x.hp[i]? = σ.hp[i]? := by
  intro i hi hk
  simp only [keepO, Bool.or_eq_true, Bool.and_eq_true] at hk
  rcases hk with ⟨hc, hk⟩ | ⟨hc, hk⟩
  · unfold isCall at hc
    split at hc
    · exact opCall_keep hT h i hi hk
    · exact opInvoke_keep hT h i hi hk
    grind
  · unfold isAppend at hc
    split at hc
    · exact opAppend_keep h i hi (by grind)
    grind
end
end Go.Proofs.YtobdpddamdkabaaDoor.Rx
