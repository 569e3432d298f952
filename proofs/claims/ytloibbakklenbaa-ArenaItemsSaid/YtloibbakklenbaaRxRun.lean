/- Symbolic runs: calls by their contracts, regions, the code of a function. Nothing of the program. -/
import Derived.Test.YtloibbakklenbaaRxApp
import Derived.Scope
namespace Go.Proofs.Ytloibbakklenbaa.Rx
open Go.RowKit Go.Proofs.Ytloibbakklenbaa.State
set_option linter.unusedVariables false
set_option linter.unusedSimpArgs false
/-- a contract, by what it does to the run's heap -/
abbrev Prim (R : Type) := List Value → Hp R → Option (Out R)
/-- a contract that may go two ways: which; what it does so, and so -/
structure Con (R : Type) where
  when : List Value → Hp R → Option Bool
  yes : Prim R
  no : Prim R
def Con.go {R : Type} (c : Con R) (b : Bool) : Prim R :=
  match b with
  | true => c.yes
  | false => c.no
/-- a contract of one way -/
def con1 {R : Type} (p : Prim R) : Con R := ⟨fun _ _ => none, p, fun _ _ => none⟩
abbrev Tab (R : Type) := List (FuncId × Con R)
def findT {R : Type} : Tab R → FuncId → Option (Con R)
  | [], _ => none
  | (g, p) :: l, f => if Nat.beq g f then some p else findT l f
/-- the number under which a table tells what can be read of the proof's things -/
def findF {R : Type} (T : Tab R) (f : FuncId) : Option (Con R) := if Nat.beq f 1000000000 then none else findT T f
/-- what can be read of the proof's things -/
def RdOk {R : Type} (D : Res R) (c : Con R) : Prop := ∀ e X x p F w, c.yes [.pointer (some ⟨0, e, none⟩)] [some (.inr (.inr (.inr X)))] = some x → D.H X p F w → flat x.v = true ∧ w.cell? ⟨p.blk, p.off + e, none⟩ = some x.v
structure PrimOk {R : Type} (D : Res R) (P : Program) (f : FuncId) (on : List Value → Hp R → Prop) (p : Prim R) : Prop where
  known : ∃ fn, P.funcs[f]? = some fn ∧ (fn.name == "runtime.NumGoroutine") = false ∧ fn.body.isNone = false
  run : ∀ args h x, on args h → p args h = some x → ∀ C ρ ft w, HM D C ρ ft h w → x.vc → inbL h.length args = true →
    Calls P f (args.map (ren ρ)).toArray w fun e w' => ∃ ρ' ft', (∀ i, i < h.length → ρ' i = ρ i) ∧ e = .returned (ren ρ' x.v) ∧ HM D C ρ' ft' x.hp w'
  len : ∀ args h x, p args h = some x → h.length ≤ x.hp.length
  lit : ∀ args h x, p args h = some x → ∀ b, x.lit = some b → x.v = .bool b
  still : ∀ args h x, p args h = some x → x.wr = [] → x.hp = h
/-- of the ways a contract may go, it goes this one -/
def way {R : Type} (c : Con R) (b : Bool) (args : List Value) (h : Hp R) : Prop := (c.when args h = none ∧ b = true) ∨ c.when args h = some b
def ConOk {R : Type} (D : Res R) (P : Program) (f : FuncId) (c : Con R) : Prop := ∀ b, PrimOk D P f (way c b) (c.go b)
theorem con1_ok {R : Type} {D : Res R} {P : Program} {f : FuncId} {p : Prim R} (h : PrimOk D P f (fun _ _ => True) p) : ConOk D P f (con1 p) := by
  intro b
  cases b with
  | true => exact ⟨h.known, fun args hh x _ => h.run args hh x trivial, h.len, h.lit, h.still⟩
  | false => exact ⟨h.known, (fun _ _ _ _ hx => by cases hx), (fun _ _ _ hx => by cases hx), (fun _ _ _ hx => by cases hx), (fun _ _ _ hx => by cases hx)⟩
def TabOk {R : Type} (D : Res R) (P : Program) : Tab R → Prop
  | [] => True
  | (f, c) :: l => (match Nat.beq f 1000000000 with
    | true => RdOk D c
    | false => ConOk D P f c) ∧ TabOk D P l
section
variable {R : Type} {D : Res R} {P : Program} {T : Tab R} {C : Ctx} {ρ : Env} {ft : Nat → Nat → Prop} {w w' : World}
theorem findT_ok (hT : TabOk D P T) {f : FuncId} {p : Con R} (h : findT T f = some p) : match Nat.beq f 1000000000 with
    | true => RdOk D p
    | false => ConOk D P f p := by
  induction T with
  | nil => cases h
  | cons a l ih =>
    obtain ⟨g, q⟩ := a
    simp only [findT] at h
    split at h
    · rename_i hb
      have := Nat.eq_of_beq_eq_true hb
      subst this
      injection h with h
      subst h
      exact hT.1
    · exact ih hT.2 h
theorem findF_ok (hT : TabOk D P T) {f : FuncId} {p : Con R} (h : findF T f = some p) : ConOk D P f p := by
  unfold findF at h
  split at h
  · cases h
  · rename_i hb
    have := findT_ok hT h
    rw [show Nat.beq f 1000000000 = false by cases hb' : Nat.beq f 1000000000 <;> simp_all] at this
    exact this
theorem findR_ok (hT : TabOk D P T) {p : Con R} (h : findT T 1000000000 = some p) : RdOk D p := findT_ok hT h
def evs (tm : List (Option Value)) : List Operand → Option (List Value)
  | [] => some []
  | y :: l =>
    match ev tm y, evs tm l with
    | some v, some r => some (v :: r)
    | _, _ => none
theorem evs_eval {n : Nat} {tm : List (Option Value)} {a : Act} (ht : TM ρ n tm a) : ∀ {l : List Operand} {r : List Value}, evs tm l = some r → l.map a.eval = r.map (ren ρ) ∧ inbL n r = true
  | [], r, h => by simp only [evs] at h; injection h with h; subst h; exact ⟨rfl, rfl⟩
  | y :: l, r, h => by
    simp only [evs] at h
    split at h
    · rename_i v r' hv hr
      injection h with h
      subst h
      obtain ⟨h1, h2⟩ := ev_eval ht hv
      obtain ⟨h3, h4⟩ := evs_eval ht hr
      exact ⟨by simp [h1, h3], by simp [inbL, h2, h4]⟩
    · cases h
theorem inbL_append {n : Nat} {l r : List Value} (h1 : inbL n l = true) (h2 : inbL n r = true) : inbL n (l ++ r) = true := by
  rw [inbL_iff] at *
  intro v hv
  rcases List.mem_append.1 hv with hv | hv
  · exact h1 v hv
  · exact h2 v hv
def opCall (T : Tab R) (σ : SS R) (f : Operand) (args : List Operand) (b : Bool) : Option (Out R) :=
  match ev σ.tm f, evs σ.tm args with
  | some (.func (.func g) ⟨fi⟩ ⟨ca⟩), some vs => match findF T g with
    | some p => p.go b ((fi ++ vs) ++ ca) σ.hp
    | none => none
  | _, _ => none
/-- which way a call goes, where it may go two -/
def forkCall (T : Tab R) (σ : SS R) (f : Operand) (args : List Operand) : Option Bool :=
  match ev σ.tm f, evs σ.tm args with
  | some (.func (.func g) ⟨fi⟩ ⟨ca⟩), some vs => match findF T g with
    | some p => p.when ((fi ++ vs) ++ ca) σ.hp
    | none => none
  | _, _ => none
/-- which way an operation goes -/
def goes (c : Option Bool) (b : Bool) : Prop := (c = none ∧ b = true) ∨ c = some b
theorem opCall_ok (hT : TabOk D P T) {σ : SS R} {o : Oper} {f : Operand} {args : Array Operand} {ts : Array TypeId} {x : Out R} {b : Bool} (ho : o.op = .call { callee := .value f, args := args, argTypes := ts }) (hb : goes (forkCall T σ f args.toList) b) (h : opCall T σ f args.toList b = some x) : OpOk D P o σ x := by
  unfold opCall at h
  unfold forkCall at hb
  split at h
  · rename_i g fi ca vs hf hvs
    rw [hf, hvs] at hb
    simp only at hb
    split at h
    · rename_i p hp
      rw [hp] at hb
      simp only at hb
      have hok := findF_ok hT hp b
      refine ⟨fun C ρ ft a w K Q ht hli hm hv hK => ?_, hok.len _ _ _ h, fun _ => hok.lit _ _ _ h⟩
      obtain ⟨h1, h2⟩ := ev_eval ht hf
      obtain ⟨h3, h4⟩ := evs_eval ht hvs
      simp only [ren, renL_eq] at h1
      simp only [inb, Bool.and_eq_true] at h2
      obtain ⟨fn, g1, g2, g3⟩ := hok.known
      have hargs : args.map a.eval = (vs.map (ren ρ)).toArray := by
        apply Array.ext'
        rw [Array.toList_map, h3]
      have hrun : (execOp a.eval o).run P w = .ok (.enter g (((fi ++ vs) ++ ca).map (ren ρ)).toArray) w := by
        simp only [execOp, ho, resolve, h1, Deferred.ofValue, Sem.run_bind, Sem.run_pure, Result.andThen_ok, invoke, hargs]
        simp only [callFunc, Sem.run_bind, run_program, Result.andThen_ok, g1, g2, g3, Bool.false_eq_true, if_false, Sem.run_pure]
        congr 2
        simp
      have hcall := hok.run _ _ _ hb h C ρ ft w hm hv (inbL_append (inbL_append h2.1 h4) h2.2)
      unfold Oper.wp
      rw [hrun, Oper.upon_enter]
      refine hcall.mono fun e w' ⟨ρ', ft', q1, q2, q3⟩ => ?_
      subst q2
      exact hK ρ' ft' w' q1 q3
    · cases h
  · cases h
/-- which rule of two a binary operation goes by: 1 ints, 2 texts joined, 3 nil, 4 structs, 0 else -/
def binKind (op : BinOp) (u v : Option Value) : Nat :=
  match u, v with
  | some (.int .i64 _), some (.int .i64 _) => match op with
    | .add | .sub | .mul | .quo | .rem => 1
    | _ => 0
  | some (.string _), some (.string _) => match op with
    | .add => 2
    | _ => 0
  | some (.pointer _), some (.pointer _) | some (.slice _ _ _), some (.slice _ _ _) | some (.func _ _ _), some .nilFunc => 3
  | some (.agg _), some (.agg _) => 4
  | _, _ => 0
def opBin (P : Program) (σ : SS R) (o : Oper) (op : BinOp) (t : TypeId) (y z : Operand) : Option (Out R) :=
  match binKind op (ev σ.tm y) (ev σ.tm z) with
  | 1 => opInt σ op y z
  | 2 => match op with
    | .add => opCat σ y z
    | _ => none
  | 3 => match op with
    | .eql => opEqNil P σ false t y z
    | .neq => opEqNil P σ true t y z
    | _ => none
  | 4 => match op with
    | .eql => opEqAgg P σ false t y z
    | .neq => opEqAgg P σ true t y z
    | _ => none
  | _ => opPure P σ o
theorem opBin_ok {σ : SS R} {o : Oper} {op : BinOp} {t t' : TypeId} {y z : Operand} {x : Out R} (ho : o.op = .binOp op t y z t') (h : opBin P σ o op t y z = some x) : OpOk D P o σ x := by
  unfold opBin at h
  split at h
  · exact opInt_ok ho h
  · split at h
    · exact opCat_ok ho h
    · cases h
  · split at h
    · exact opEqNil_ok (neg := false) ho h
    · exact opEqNil_ok (neg := true) ho h
    · cases h
  · split at h
    · exact opEqAgg_ok (neg := false) ho h
    · exact opEqAgg_ok (neg := true) ho h
    · cases h
  · exact opPure_ok h
def isNil : Option Value → Bool
  | some (.slice none 0 0) => true
  | _ => false
def opAssign (P : Program) (σ : SS R) (t : TypeId) (y : Operand) : Option (Out R) :=
  if isNil (ev σ.tm y) then
    match opNilSlice P σ t with
    | some x => some x
    | none => opMove σ y
  else opMove σ y
theorem opAssign_ok {σ : SS R} {o : Oper} {t : TypeId} {y : Operand} {x : Out R} (ho : o.op = .move y ∨ o.op = .assign y) (h : opAssign P σ t y = some x) : OpOk D P o σ x := by
  unfold opAssign at h
  split at h
  · rename_i hn
    have hv : ev σ.tm y = some (.slice none 0 0) := by
      unfold isNil at hn
      split at hn
      · assumption
      · cases hn
    split at h
    · rename_i x' hx
      injection h with h
      subst h
      exact opNilSlice_ok (n := 0) (c := 0) ho hv hx
    · exact opMove_ok ho h
  · exact opMove_ok ho h
def isStr : Option Value → Bool
  | some (.string _) => true
  | _ => false
def isSl : Option Value → Bool
  | some (.slice (some _) _ _) => true
  | _ => false
/-- a load, also of a cell of a thing of the proof's -/
def opLoadT (P : Program) (T : Tab R) (σ : SS R) (t : TypeId) (y : Operand) : Option (Out R) :=
  match opLoad P σ t y with
  | some x => some x
  | none =>
    match ev σ.tm y with
    | some (.pointer (some ⟨i, e, none⟩)) =>
      match σ.hp[i]? with
      | some (some (.inr (.inr (.inr X)))) =>
        match aggOf P t, findT T 1000000000 with
        | some none, some c => match c.yes [.pointer (some ⟨0, e, none⟩)] [some (.inr (.inr (.inr X)))] with
          | some x => some (quietOut σ True x.v none [(i, e + 1)])
          | none => none
        | _, _ => none
      | _ => none
    | _ => none
theorem opLoadT_ok (hT : TabOk D P T) {σ : SS R} {o : Oper} {t : TypeId} {y : Operand} {x : Out R} (ho : o.op = .load t y) (h : opLoadT P T σ t y = some x) : OpOk D P o σ x := by
  unfold opLoadT at h
  split at h
  · rename_i x' hx
    injection h with h
    subst h
    exact opLoad_ok ho hx
  · split at h
    · rename_i i e ha
      split at h
      · rename_i X hX
        split at h
        · rename_i c hg hc
          split at h
          · rename_i x' hx
            injection h with h
            subst h
            refine quiet_ok (fun C ρ ft ac w ht hli hm _ => ?_) (fun hli c hc => by cases hc)
            have h1 := (ev_eval ht ha).1
            simp only [ren, renA, cellOf] at h1
            obtain ⟨q1, q2⟩ := findR_ok hT hc e X x' _ _ w hx (hm.at_ i _ hX).1
            simp [execOp, ho, h1, Instr.loadAt, Instr.sureAddr, loadVar_one hg q2, flat_ren _ q1]
          · cases h
        · cases h
      · cases h
    · cases h
/-- one operation -/
def sop (P : Program) (T : Tab R) (σ : SS R) (o : Oper) (way : Bool) : Option (Out R) :=
  match o with
  | ⟨dst, op, ty, pos, after, guard⟩ =>
  match op with
  | .move y => opAssign P σ ty y
  | .assign y => opAssign P σ ty y
  | .pick c y z => opPick σ c y z
  | .alloc t => opAlloc P σ t
  | .box t y => opBox σ t y
  | .build t ⟨ps⟩ => opBuild P σ t ps
  | .buildSlice t n ⟨ps⟩ => opBuildSlice P σ t n ps
  | .load t y => opLoadT P T σ t y
  | .store t y z => match dst with
    | none => opStore P σ t y z
    | some _ => none
  | .nilCheck y => opNil σ y
  | .binOp b t y z u => opBin P σ ⟨dst, .binOp b t y z u, ty, pos, after, guard⟩ b t y z
  | .unOp u t y => match u with
    | .not => opNot σ y
    | _ => opPure P σ ⟨dst, .unOp u t y, ty, pos, after, guard⟩
  | .slice t y lo hi mx => opSlice P σ t y lo hi mx
  | .fieldAddr t y k => opFieldAddr P σ t y k
  | .field t y k => opField P σ t y k
  | .indexAddr t y z => opIndexAddr P σ t y z
  | .index t y z => if isStr (ev σ.tm y) then opIndexStr P σ t y z else opPure P σ ⟨dst, .index t y z, ty, pos, after, guard⟩
  | .extract y k => opExtract σ y k
  | .makeSlice t y z => opMakeSlice P σ t y z
  | .call ⟨callee, ⟨args⟩, ⟨ts⟩⟩ =>
    match callee with
    | .value f => opCall T σ f args way
    | .builtin b =>
      match b, args, ts with
      | .append, [y, z], [t, t2] => opAppend P σ t t2 y z
      | .len, [y], [t] => if isSl (ev σ.tm y) then opLen P σ t y else opPure P σ ⟨dst, .call ⟨.builtin .len, ⟨[y]⟩, ⟨[t]⟩⟩, ty, pos, after, guard⟩
      | b, args, ts => opPure P σ ⟨dst, .call ⟨.builtin b, ⟨args⟩, ⟨ts⟩⟩, ty, pos, after, guard⟩
    | _ => none
  | op => opPure P σ ⟨dst, op, ty, pos, after, guard⟩
/-- which way an operation goes, where it may go two -/
def forkOf (T : Tab R) (σ : SS R) (o : Oper) : Option Bool :=
  match o with
  | ⟨_, .call ⟨.value f, ⟨args⟩, _⟩, _, _, _, _⟩ => forkCall T σ f args
  | _ => none
theorem sop_ok (hT : TabOk D P T) {σ : SS R} {o : Oper} {x : Out R} {b : Bool} (hb : goes (forkOf T σ o) b) (h : sop P T σ o b = some x) : OpOk D P o σ x := by
  obtain ⟨dst, op, ty, pos, after, guard⟩ := o
  unfold sop at h
  simp only at h
  split at h
  · exact opAssign_ok (Or.inl rfl) h
  · exact opAssign_ok (Or.inr rfl) h
  · exact opPick_ok rfl h
  · exact opAlloc_ok rfl h
  · exact opBox_ok rfl h
  · rename_i t ps; exact opBuild_ok (parts := ⟨ps⟩) rfl h
  · rename_i t n ps; exact opBuildSlice_ok (parts := ⟨ps⟩) rfl h
  · exact opLoadT_ok hT rfl h
  · split at h
    · exact opStore_ok rfl rfl h
    · cases h
  · exact opNil_ok rfl h
  · exact opBin_ok rfl h
  · split at h
    · exact opNot_ok rfl h
    · exact opPure_ok h
  · exact opSlice_ok rfl h
  · exact opFieldAddr_ok rfl h
  · exact opField_ok rfl h
  · exact opIndexAddr_ok rfl h
  · split at h
    · exact opIndexStr_ok rfl h
    · exact opPure_ok h
  · exact opExtract_ok rfl h
  · exact opMakeSlice_ok rfl h
  · rename_i callee args ts
    split at h
    · exact opCall_ok hT (args := ⟨args⟩) rfl hb h
    · split at h
      · exact opAppend_ok rfl h
      · split at h
        · exact opLen_ok rfl h
        · exact opPure_ok h
      · exact opPure_ok h
    · cases h
  · exact opPure_ok h
/-- the frame behind an operation -/
def putT (σ : SS R) (d : Option Tmp) (v : Value) (lit : Option Bool) (hp : Hp R) : SS R :=
  match d with
  | none => ⟨σ.tm, σ.li, hp⟩
  | some t => ⟨σ.tm.set t (some v), (match lit with
    | some b => [(t, b)]
    | none => []) ++ σ.li.filter (fun p => !Nat.beq p.1 t), hp⟩
/-- a run's frame and heap, and the world -/
structure M (D : Res R) (C : Ctx) (σ : SS R) (a : Act) (w : World) : Prop where
  defers : a.defers = []
  li : LI σ.li σ.tm
  ex : ∃ ρ ft, (∀ i, i < C.n0 → ρ i = C.e0 i) ∧ TM ρ σ.hp.length σ.tm a ∧ HM D C ρ ft σ.hp w
theorem putT_hp (σ : SS R) (d : Option Tmp) (v : Value) (lit : Option Bool) (hp : Hp R) : (putT σ d v lit hp).hp = hp := by cases d <;> rfl
theorem putT_LI {σ : SS R} {d : Option Tmp} {v : Value} {lit : Option Bool} {hp : Hp R} (hl : LI σ.li σ.tm) (hv : ∀ b, lit = some b → v = .bool b) (hd : ∀ t, d = some t → lit ≠ none → t < σ.tm.length) : LI (putT σ d v lit hp).li (putT σ d v lit hp).tm := by
  cases d with
  | none => exact hl
  | some t =>
    intro u b hu
    simp only [putT] at hu ⊢
    rcases List.mem_append.1 hu with hu | hu
    · cases lit with
      | none => simp at hu
      | some c =>
        simp only [List.mem_singleton, Prod.mk.injEq] at hu
        obtain ⟨rfl, rfl⟩ := hu
        rw [hv _ rfl, List.getElem?_set_self (hd _ rfl (by simp))]
    · obtain ⟨h1, h2⟩ := List.mem_filter.1 hu
      have hne : u ≠ t := fun e => by subst e; simp at h2
      rw [List.getElem?_set_ne (fun e => hne e.symm)]
      exact hl u b h1
theorem putT_TM {σ : SS R} {d : Option Tmp} {v : Value} {lit : Option Bool} {hp : Hp R} {a : Act} {ρ' : Env} (ht : TM ρ σ.hp.length σ.tm a) (hρ : ∀ i, i < σ.hp.length → ρ' i = ρ i) (hlen : σ.hp.length ≤ hp.length) (hi : inb hp.length v = true) :
    TM ρ' (putT σ d v lit hp).hp.length (putT σ d v lit hp).tm (a.put d (ren ρ' v)) := by
  have old : ∀ (t : Nat) (u : Value), σ.tm[t]? = some (some u) → a.tmps[t]? = some (ren ρ' u) ∧ inb hp.length u = true := fun t u hu => by
    obtain ⟨h1, h2⟩ := ht.val t u hu
    exact ⟨by rw [h1, ren_congr (n := σ.hp.length) (fun i hi => (hρ i hi)) u h2], inb_mono hlen u h2⟩
  rw [putT_hp]
  cases d with
  | none => exact ⟨ht.size, old⟩
  | some t =>
    refine ⟨by simp [putT, Act.put, ht.size], fun u x hx => ?_⟩
    simp only [putT, Act.put] at hx ⊢
    by_cases he : t = u
    · subst he
      have hl : t < σ.tm.length := by have := (List.getElem?_eq_some_iff.1 hx).1; simpa using this
      rw [List.getElem?_set_self hl] at hx
      injection hx with hx; injection hx with hx
      subst hx
      rw [Array.getElem?_setIfInBounds]
      simp [ht.size, hl, hi]
    · rw [List.getElem?_set_ne he] at hx
      rw [Array.getElem?_setIfInBounds_ne he]
      exact old u x hx
/-- what an operation yields may be kept -/
def tidy (σ : SS R) (d : Option Tmp) (x : Out R) : Bool :=
  inb x.hp.length x.v && (match d with
    | some t => (match x.lit with
      | some _ => Nat.blt t σ.tm.length
      | none => true)
    | none => true)
theorem M.step {σ : SS R} {o : Oper} {x : Out R} {a : Act} {K : Act → World → Prop} {Q : Exit → Act → World → Prop} (hm : M D C σ a w) (ho : OpOk D P o σ x) (ht : tidy σ o.dst x = true) (hv : x.vc)
    (hK : ∀ a' w', M D C (putT σ o.dst x.v x.lit x.hp) a' w' → K a' w') (hn : C.n0 ≤ σ.hp.length) : o.wp P a w K Q := by
  obtain ⟨ρ, ft, h0, h1, h2⟩ := hm.ex
  simp only [tidy, Bool.and_eq_true] at ht
  refine ho.run C ρ ft a w K Q h1 hm.li h2 hv fun ρ' ft' w' hρ hm' => hK _ _ ⟨?_, putT_LI hm.li (ho.lit hm.li) ?_, ρ', ft', fun i hi => (hρ i (by omega)).trans (h0 i hi), putT_TM h1 hρ ho.len ht.1, by rw [putT_hp]; exact hm'⟩
  · cases o.dst <;> exact hm.defers
  · intro t hd hl
    have h3 := ht.2
    rw [hd] at h3
    simp only at h3
    cases hx : x.lit with
    | none => exact absurd hx hl
    | some b => rw [hx] at h3; simpa [Nat.blt_eq] using h3
theorem M.undef {σ : SS R} {d : Option Tmp} {a : Act} (hm : M D C σ a w) : M D C (putT σ d undef none σ.hp) (a.put d undef) w := by
  obtain ⟨ρ, ft, h0, h1, h2⟩ := hm.ex
  have hu : ren ρ Go.undef = Go.undef := by simp [Go.undef, ren, renL]
  refine ⟨?_, putT_LI hm.li (fun b hb => by cases hb) (fun t _ h => absurd rfl h), ρ, ft, h0, ?_, by rw [putT_hp]; exact h2⟩
  · cases d <;> exact hm.defers
  · have := putT_TM (d := d) (v := Go.undef) (lit := none) (hp := σ.hp) h1 (fun _ _ => rfl) (Nat.le_refl _) (by simp [Go.undef, inb, inbL])
    rw [hu] at this
    exact this
/-- a truth assumed -/
def assume (σ : SS R) (t : Nat) (b : Bool) : SS R := ⟨σ.tm.set t (some (.bool b)), (t, b) :: σ.li.filter (fun p => !Nat.beq p.1 t), σ.hp⟩
theorem M.assume {σ : SS R} {a : Act} {t : Nat} {b : Bool} (hm : M D C σ a w) (ht : σ.tm[t]? = some (some (.bool b))) : M D C (Rx.assume σ t b) a w := by
  have hl : t < σ.tm.length := (List.getElem?_eq_some_iff.1 ht).1
  have hs : σ.tm.set t (some (.bool b)) = σ.tm := by
    apply List.ext_getElem?
    intro u
    by_cases he : t = u
    · subst he; rw [List.getElem?_set_self hl, ht]
    · rw [List.getElem?_set_ne he]
  obtain ⟨ρ, ft, h0, h1, h2⟩ := hm.ex
  refine ⟨hm.defers, ?_, ρ, ft, h0, ?_, h2⟩
  · intro u c hu
    simp only [Rx.assume] at hu ⊢
    rw [hs]
    rcases List.mem_cons.1 hu with hu | hu
    · injection hu with e1 e2
      subst e1; subst e2
      exact ht
    · exact hm.li u c (List.mem_filter.1 hu).1
  · simp only [Rx.assume]
    rw [hs]
    exact h1
end
end Go.Proofs.Ytloibbakklenbaa.Rx
