/- Symbolic runs: what one operation does (those that touch no block). Nothing of the program. -/
import Derived.Test.YtloibbakklenbaaRxHeap
import Derived.Orders
namespace Go.Proofs.Ytloibbakklenbaa.Rx
open Go.RowKit Go.Proofs.Ytloibbakklenbaa.State
set_option linter.unusedVariables false
set_option linter.unusedSimpArgs false

/-- the frame of a run (values not known are none), the truths that are known of it, and its heap -/
structure SS (R : Type) where
  tm : List (Option Value)
  li : List (Nat × Bool)
  hp : Hp R
/-- what an operation yields: what must hold of it; its value; the truth that it is known to be; the heap; where it read and wrote -/
structure Out (R : Type) where
  vc : Prop
  v : Value
  lit : Option Bool
  hp : Hp R
  rd : List (Nat × Nat)
  wr : List (Nat × Nat)
/-- the frame, and the run's -/
structure TM (ρ : Env) (n : Nat) (tm : List (Option Value)) (a : Act) : Prop where
  size : a.tmps.size = tm.length
  val : ∀ (t : Nat) (v : Value), tm[t]? = some (some v) → a.tmps[t]? = some (ren ρ v) ∧ inb n v = true
def LI (li : List (Nat × Bool)) (tm : List (Option Value)) : Prop := ∀ (t : Nat) (b : Bool), (t, b) ∈ li → tm[t]? = some (some (.bool b))
def ev (tm : List (Option Value)) : Operand → Option Value
  | .tmp t => match tm[t]? with
    | some (some v) => some v
    | _ => none
  | .const v => if flat v then some v else none
  | .func f => some (.func (.func f) #[] #[])
  | .global _ => none
def look (li : List (Nat × Bool)) (t : Nat) : Option Bool :=
  match li with
  | [] => none
  | (u, b) :: l => if Nat.beq u t then some b else look l t
def litOf (li : List (Nat × Bool)) : Operand → Option Bool
  | .tmp t => look li t
  | .const (.bool b) => some b
  | _ => none
section
variable {R : Type} {D : Res R} {P : Program}
theorem look_mem {li : List (Nat × Bool)} {t : Nat} {b : Bool} (h : look li t = some b) : (t, b) ∈ li := by
  induction li with
  | nil => cases h
  | cons p l ih =>
    obtain ⟨u, c⟩ := p
    simp only [look] at h
    split at h
    · rename_i e
      have e := Nat.eq_of_beq_eq_true e
      injection h with h
      subst h; subst e
      exact List.mem_cons_self
    · exact List.mem_cons_of_mem _ (ih h)
theorem ev_eval {ρ : Env} {n : Nat} {tm : List (Option Value)} {a : Act} {x : Operand} {v : Value} (ht : TM ρ n tm a) (h : ev tm x = some v) : a.eval x = ren ρ v ∧ inb n v = true := by
  cases x with
  | tmp t =>
    simp only [ev] at h
    split at h
    · rename_i u hu
      injection h with h
      subst h
      obtain ⟨h1, h2⟩ := ht.val t u hu
      exact ⟨by simp [Act.eval, h1], h2⟩
    · cases h
  | const u =>
    simp only [ev] at h
    split at h
    · rename_i hf
      injection h with h
      subst h
      exact ⟨by simp [Act.eval, flat_ren u hf], flat_inb u hf⟩
    · cases h
  | func f =>
    simp only [ev] at h
    injection h with h
    subst h
    exact ⟨by simp [Act.eval, ren, renL], by simp [inb, inbL]⟩
  | global g => cases h
theorem lit_ev {li : List (Nat × Bool)} {tm : List (Option Value)} {x : Operand} {b : Bool} (hl : LI li tm) (h : litOf li x = some b) : ev tm x = some (.bool b) := by
  cases x with
  | tmp t =>
    have := hl t b (look_mem h)
    simp [ev, this]
  | const u =>
    cases u <;> simp only [litOf] at h <;> try cases h
    simp [ev, flat]
  | func f => cases h
  | global g => cases h
/-- what an operation yields is so -/
structure OpOk (D : Res R) (P : Program) (o : Oper) (σ : SS R) (x : Out R) : Prop where
  run : ∀ C ρ ft a w K Q, TM ρ σ.hp.length σ.tm a → LI σ.li σ.tm → HM D C ρ ft σ.hp w → x.vc →
    (∀ ρ' ft' w', (∀ i, i < σ.hp.length → ρ' i = ρ i) → HM D C ρ' ft' x.hp w' → K (a.put o.dst (ren ρ' x.v)) w') → o.wp P a w K Q
  len : σ.hp.length ≤ x.hp.length
  lit : LI σ.li σ.tm → ∀ b, x.lit = some b → x.v = .bool b
theorem wp_value {o : Oper} {a : Act} {w w' : World} {v : Value} {K : Act → World → Prop} {Q : Exit → Act → World → Prop} (h : (execOp a.eval o).run P w = .ok (.value v) w') (hk : K (a.put o.dst v) w') : o.wp P a w K Q := by
  simp only [Oper.wp, h, Oper.upon]; exact hk
theorem wp_skip' {o : Oper} {a : Act} {w w' : World} {K : Act → World → Prop} {Q : Exit → Act → World → Prop} (h : (execOp a.eval o).run P w = .ok .skip w') (hk : K (a.put o.dst undef) w') : o.wp P a w K Q := by
  simp only [Oper.wp, h, Oper.upon]; exact hk
/-- a quiet yield: the value, nothing else -/
def quietOut (σ : SS R) (vc : Prop) (v : Value) (lit : Option Bool) (rd : List (Nat × Nat)) : Out R := ⟨vc, v, lit, σ.hp, rd, []⟩
theorem quiet_ok {o : Oper} {σ : SS R} {vc : Prop} {v : Value} {lit : Option Bool} {rd : List (Nat × Nat)}
    (h : ∀ C ρ ft a w, TM ρ σ.hp.length σ.tm a → LI σ.li σ.tm → HM D C ρ ft σ.hp w → vc → (execOp a.eval o).run P w = .ok (.value (ren ρ v)) w)
    (hl : LI σ.li σ.tm → ∀ b, lit = some b → v = .bool b) : OpOk D P o σ (quietOut σ vc v lit rd) where
  run C ρ ft a w K Q ht hli hm hv hk := wp_value (h C ρ ft a w ht hli hm hv) (hk ρ ft w (fun _ _ => rfl) hm)
  len := Nat.le_refl _
  lit := hl

/-- operations that ask nothing of the world -/
def pureRun {α : Type} (P : Program) : Sem α → Option α
  | .pure a => some a
  | .program k => pureRun P (k P)
  | .mark _ k => pureRun P k
  | _ => none
theorem pureRun_run {α : Type} {P : Program} (s : Sem α) {a : α} (h : pureRun P s = some a) (w : World) : s.run P w = .ok a w := by
  induction s generalizing w with
  | pure b => simp only [pureRun] at h; injection h with h; subst h; rfl
  | program k ih => simp only [pureRun] at h; simp only [Sem.run]; exact ih P h w
  | mark m k ih => simp only [pureRun] at h; simp only [Sem.run]; exact ih h w
  | _ => simp only [pureRun] at h; cases h
def evf (tm : List (Option Value)) (x : Operand) : Value := (ev tm x).getD undef
def flatOp (tm : List (Option Value)) (x : Operand) : Bool :=
  match ev tm x with
  | some v => flat v
  | none => false
def flatAll (tm : List (Option Value)) : List Operand → Bool
  | [] => true
  | x :: l => flatOp tm x && flatAll tm l
theorem flatAll_mem {tm : List (Option Value)} {l : List Operand} (h : flatAll tm l = true) {x : Operand} (hx : x ∈ l) : ∃ v, ev tm x = some v ∧ flat v = true := by
  induction l with
  | nil => cases hx
  | cons y l ih =>
    simp only [flatAll, Bool.and_eq_true] at h
    rcases List.mem_cons.1 hx with rfl | hx
    · have h1 := h.1
      unfold flatOp at h1
      split at h1
      · exact ⟨_, by assumption, h1⟩
      · cases h1
    · exact ih h.2 hx
def noSelect : Op → Bool
  | .select _ _ => false
  | _ => true
def opPure (P : Program) (σ : SS R) (o : Oper) : Option (Out R) :=
  if noSelect o.op && flatAll σ.tm o.op.operands.toList then
    match pureRun P (execOp (evf σ.tm) o) with
    | some (.value v) => if flat v then some (quietOut σ True v none []) else none
    | _ => none
  else none
theorem opPure_ok {σ : SS R} {o : Oper} {x : Out R} (h : opPure P σ o = some x) : OpOk D P o σ x := by
  unfold opPure at h
  split at h
  · rename_i hc
    simp only [Bool.and_eq_true] at hc
    split at h
    · rename_i v hp
      split at h
      · rename_i hf
        injection h with h
        subst h
        refine quiet_ok (fun C ρ ft a w ht hli hm _ => ?_) (fun _ b hb => by cases hb)
        have e : execOp a.eval o = execOp (evf σ.tm) o := by
          refine execOp_congr o (fun cs b hs => ?_) (fun y hy => ?_)
          · rw [hs] at hc; simp [noSelect] at hc
          · obtain ⟨u, hu, hfu⟩ := flatAll_mem hc.2 (Array.mem_toList_iff.2 hy)
            rw [(ev_eval ht hu).1, flat_ren u hfu]
            simp [evf, hu]
        rw [e, pureRun_run _ hp w, flat_ren v hf]
      · cases h
    · cases h
  · cases h
/-- move, assign -/
def opMove (σ : SS R) (x : Operand) : Option (Out R) :=
  match ev σ.tm x with
  | some v => some (quietOut σ True v (litOf σ.li x) [])
  | none => none
theorem opMove_ok {σ : SS R} {o : Oper} {y : Operand} {x : Out R} (ho : o.op = .move y ∨ o.op = .assign y) (h : opMove σ y = some x) : OpOk D P o σ x := by
  unfold opMove at h
  split at h
  · rename_i v hv
    injection h with h
    subst h
    refine quiet_ok (fun C ρ ft a w ht hli hm _ => ?_) (fun hli b hb => ?_)
    · rw [← (ev_eval ht hv).1]
      rcases ho with ho | ho <;> simp [execOp, ho]
    · have := lit_ev hli hb
      rw [hv] at this
      exact Option.some.inj this
  · cases h
/-- the choice between two by a truth -/
def opPick (σ : SS R) (c y z : Operand) : Option (Out R) :=
  match litOf σ.li c with
  | some true => opMove σ y
  | some false => opMove σ z
  | none =>
    match ev σ.tm c, ev σ.tm y, ev σ.tm z with
    | some (.bool c), some (.bool y), some (.bool z) => some (quietOut σ True (.bool (if c then y else z)) none [])
    | _, _, _ => none
theorem opPick_ok {σ : SS R} {o : Oper} {c y z : Operand} {x : Out R} (ho : o.op = .pick c y z) (h : opPick σ c y z = some x) : OpOk D P o σ x := by
  unfold opPick at h
  split at h
  · rename_i hl
    unfold opMove at h
    split at h
    · rename_i v hv
      injection h with h
      subst h
      refine quiet_ok (fun C ρ ft a w ht hli hm _ => ?_) (fun hli b hb => ?_)
      · have h1 := (ev_eval ht (lit_ev hli hl)).1
        rw [← (ev_eval ht hv).1]
        simp [execOp, ho, h1, asBool]
      · have := lit_ev hli hb
        rw [hv] at this
        exact Option.some.inj this
    · cases h
  · rename_i hl
    unfold opMove at h
    split at h
    · rename_i v hv
      injection h with h
      subst h
      refine quiet_ok (fun C ρ ft a w ht hli hm _ => ?_) (fun hli b hb => ?_)
      · have h1 := (ev_eval ht (lit_ev hli hl)).1
        rw [← (ev_eval ht hv).1]
        simp [execOp, ho, h1, asBool]
      · have := lit_ev hli hb
        rw [hv] at this
        exact Option.some.inj this
    · cases h
  · split at h
    · rename_i c' y' z' hc hy hz
      injection h with h
      subst h
      refine quiet_ok (fun C ρ ft a w ht hli hm _ => ?_) (fun hli b hb => by cases hb)
      have h1 := (ev_eval ht hc).1
      have h2 := (ev_eval ht hy).1
      have h3 := (ev_eval ht hz).1
      simp [execOp, ho, h1, h2, h3, asBool]
    · cases h
/-- not -/
def opNot (σ : SS R) (y : Operand) : Option (Out R) :=
  match ev σ.tm y with
  | some (.bool b) => some (quietOut σ True (.bool (!b)) ((litOf σ.li y).map (!·)) [])
  | _ => none
theorem opNot_ok {σ : SS R} {o : Oper} {t : TypeId} {y : Operand} {x : Out R} (ho : o.op = .unOp .not t y) (h : opNot σ y = some x) : OpOk D P o σ x := by
  unfold opNot at h
  split at h
  · rename_i b hb
    injection h with h
    subst h
    refine quiet_ok (fun C ρ ft a w ht hli hm _ => ?_) (fun hli c hc => ?_)
    · have h1 := (ev_eval ht hb).1
      simp [execOp, ho, h1, Op.unary]
    · cases hl : litOf σ.li y with
      | none => rw [hl] at hc; cases hc
      | some d =>
        have := lit_ev hli hl
        rw [hb] at this
        injection this with this; injection this with this
        subst this
        rw [hl] at hc
        injection hc with hc
        subst hc
        rfl
  · cases h
/-- a check against nil -/
def opNil (σ : SS R) (y : Operand) : Option (Out R) :=
  match ev σ.tm y with
  | some (.pointer (some p)) => some (quietOut σ True (.pointer (some p)) none [])
  | some (.func (.func f) xs ys) => some (quietOut σ True (.func (.func f) xs ys) none [])
  | _ => none
theorem opNil_ok {σ : SS R} {o : Oper} {y : Operand} {x : Out R} (ho : o.op = .nilCheck y) (h : opNil σ y = some x) : OpOk D P o σ x := by
  unfold opNil at h
  split at h
  · rename_i p hp
    injection h with h
    subst h
    refine quiet_ok (fun C ρ ft a w ht hli hm _ => ?_) (fun hli c hc => by cases hc)
    have h1 := (ev_eval ht hp).1
    simp only [ren] at h1
    simp [execOp, ho, h1, ren]
  · rename_i f xs ys hp
    injection h with h
    subst h
    refine quiet_ok (fun C ρ ft a w ht hli hm _ => ?_) (fun hli c hc => by cases hc)
    have h1 := (ev_eval ht hp).1
    obtain ⟨xs⟩ := xs
    obtain ⟨ys⟩ := ys
    simp only [ren] at h1
    simp [execOp, ho, h1, ren]
  · cases h
/-- the parts of a tuple -/
def opExtract (σ : SS R) (y : Operand) (k : Nat) : Option (Out R) :=
  match ev σ.tm y with
  | some (.tuple ⟨l⟩) => match l[k]? with
    | some v => some (quietOut σ True v none [])
    | none => none
  | _ => none
theorem opExtract_ok {σ : SS R} {o : Oper} {y : Operand} {k : Nat} {x : Out R} (ho : o.op = .extract y k) (h : opExtract σ y k = some x) : OpOk D P o σ x := by
  unfold opExtract at h
  split at h
  · rename_i l hl
    split at h
    · rename_i v hv
      injection h with h
      subst h
      refine quiet_ok (fun C ρ ft a w ht hli hm _ => ?_) (fun hli c hc => by cases hc)
      have h1 := (ev_eval ht hl).1
      rw [ren_tuple] at h1
      simp [execOp, ho, h1, Instr.extract, hv]
    · cases h
  · cases h
/-- == and != of what is nil and what may be -/
def nilKind (P : Program) (t : TypeId) : Value → Value → Option Bool
  | .pointer p, .pointer none | .pointer none, .pointer p =>
    match P.underlying t with
    | some (.pointer _) => some (match p with | none => true | some _ => false)
    | _ => none
  | .slice none _ _, .slice none _ _ =>
    match P.underlying t with
    | some (.slice _) => some true
    | _ => none
  | .slice (some ⟨_, _, none⟩) _ _, .slice none _ _ =>
    match P.underlying t with
    | some (.slice _) => some false
    | _ => none
  | .func _ _ _, .nilFunc =>
    match P.underlying t with
    | some (.func _ _ _) => some false
    | _ => none
  | .nilFunc, .nilFunc =>
    match P.underlying t with
    | some (.func _ _ _) => some true
    | _ => none
  | _, _ => none
def opEqNil (P : Program) (σ : SS R) (neg : Bool) (t : TypeId) (y z : Operand) : Option (Out R) :=
  match ev σ.tm y, ev σ.tm z with
  | some u, some v => match nilKind P t u v with
    | some b => some (quietOut σ True (.bool (Bool.xor b neg)) (some (Bool.xor b neg)) [])
    | none => none
  | _, _ => none
theorem nilKind_run {t : TypeId} {u v : Value} {b : Bool} (h : nilKind P t u v = some b) (ρ : Env) (w : World) : (Op.equal t (ren ρ u) (ren ρ v)).run P w = .ok b w := by
  have key : ∀ (d : Nat), (Op.equalIn (d + 1) t (ren ρ u) (ren ρ v)).run P w = .ok b w := by
    intro d
    unfold nilKind at h
    split at h
    · rename_i p
      split at h
      · rename_i hu
        injection h with h
        subst h
        cases p <;> simp [Op.equalIn, run_underlying hu, ren]
      · cases h
    · rename_i p _
      split at h
      · rename_i hu
        injection h with h
        subst h
        cases p <;> simp [Op.equalIn, run_underlying hu, ren]
      · cases h
    · split at h
      · rename_i hu
        injection h with h
        subst h
        simp [Op.equalIn, run_underlying hu, ren]
      · cases h
    · split at h
      · rename_i hu
        injection h with h
        subst h
        simp [Op.equalIn, run_underlying hu, ren, renS]
      · cases h
    · rename_i fn f c
      split at h
      · rename_i hu
        injection h with h
        subst h
        obtain ⟨f⟩ := f
        obtain ⟨c⟩ := c
        simp [Op.equalIn, run_underlying hu, ren]
      · cases h
    · split at h
      · rename_i hu
        injection h with h
        subst h
        simp [Op.equalIn, run_underlying hu, ren]
      · cases h
    · cases h
  unfold Op.equal
  exact key 9999
theorem opEqNil_ok {σ : SS R} {o : Oper} {neg : Bool} {t t' : TypeId} {y z : Operand} {x : Out R} (ho : o.op = .binOp (if neg then .neq else .eql) t y z t') (h : opEqNil P σ neg t y z = some x) : OpOk D P o σ x := by
  unfold opEqNil at h
  split at h
  · rename_i u v hu hv
    split at h
    · rename_i b hb
      injection h with h
      subst h
      refine quiet_ok (fun C ρ ft a w ht hli hm _ => ?_) (fun hli c hc => by injection hc with hc; rw [hc])
      have h1 := (ev_eval ht hu).1
      have h2 := (ev_eval ht hv).1
      have hr := nilKind_run hb ρ w
      have hg : ∀ op, (eqGuard op t y z (ren ρ u) (ren ρ v)).run P w = .ok () w := by
        intro op
        unfold nilKind at hb
        split at hb
        all_goals first
          | cases hb
          | skip
        · rename_i p
          cases p <;> cases op <;> simp [eqGuard, ren]
        · rename_i p _
          cases p <;> cases op <;> simp [eqGuard, ren]
        · cases op <;> simp [eqGuard, ren]
        · cases op <;> simp [eqGuard, ren, renS]
        · rename_i fn f c
          obtain ⟨f⟩ := f
          obtain ⟨c⟩ := c
          cases op <;> simp [eqGuard, ren]
        · cases op <;> simp [eqGuard, ren]
      have hb2 : ∀ op, (op = .eql ∨ op = .neq) → (binOp op t (ren ρ u) (ren ρ v)).run P w = .ok (.bool (Bool.xor b (op == .neq))) w := by
        intro op hop
        have q1 : (BinOp.eql == BinOp.neq) = false := by decide
        have q2 : (BinOp.neq == BinOp.neq) = true := by decide
        unfold nilKind at hb
        rcases hop with rfl | rfl
        all_goals
          split at hb
          all_goals first
            | cases hb
            | skip
          · rename_i p
            cases p <;> simp [binOp, ren] at hr ⊢ <;> simp [hr, q1, q2]
          · rename_i p _
            cases p <;> simp [binOp, ren] at hr ⊢ <;> simp [hr, q1, q2]
          · simp [binOp, ren] at hr ⊢; simp [hr, q1, q2]
          · simp [binOp, ren, renS] at hr ⊢; simp [hr, q1, q2]
          · rename_i fn f c
            obtain ⟨f⟩ := f
            obtain ⟨c⟩ := c
            simp [binOp, ren] at hr ⊢; simp [hr, q1, q2]
          · simp [binOp, ren] at hr ⊢; simp [hr, q1, q2]
      cases neg with
      | false =>
        have h3 := hb2 .eql (Or.inl rfl)
        have h4 := hg .eql
        simp only [Bool.false_eq_true, if_false] at ho
        have q1 : (BinOp.eql == BinOp.neq) = false := by decide
        simp [execOp, ho, h1, h2, h3, h4, q1]
      | true =>
        have h3 := hb2 .neq (Or.inr rfl)
        have h4 := hg .neq
        simp only [if_true] at ho
        simp [execOp, ho, h1, h2, h3, h4]
    · cases h
  · cases h
end
end Go.Proofs.Ytloibbakklenbaa.Rx
