/- Symbolic runs: numbers with their bounds; places, loads, stores, new blocks. Nothing of the program. -/
import Derived.Test.YtloibbakklenbaaRxOps
import Derived.IntWalk
namespace Go.Proofs.Ytloibbakklenbaa.Rx
open Go.RowKit Go.Proofs.Ytloibbakklenbaa.State
set_option linter.unusedVariables false
set_option linter.unusedSimpArgs false

structure fits (n : Int) : Prop where
  lo : -9223372036854775808 ≤ n
  hi : n ≤ 9223372036854775807
theorem fits_wrap {n : Int} (h : fits n) : IntKind.i64.wrap n = n := by rw [IntKind.wrap_i64]; have := h.lo; have := h.hi; omega
section
variable {R : Type} {D : Res R} {P : Program} {C : Ctx} {ρ : Env} {ft : Nat → Nat → Prop} {w w' : World}
/-- + - * / % on ints, where they fit -/
def opInt (σ : SS R) (op : BinOp) (y z : Operand) : Option (Out R) :=
  match ev σ.tm y, ev σ.tm z with
  | some (.int .i64 a), some (.int .i64 b) =>
    match op with
    | .add => some (quietOut σ (fits (a + b)) (.int .i64 (a + b)) none [])
    | .sub => some (quietOut σ (fits (a - b)) (.int .i64 (a - b)) none [])
    | .mul => some (quietOut σ (fits (a * b)) (.int .i64 (a * b)) none [])
    | .quo => some (quietOut σ (b ≠ 0 ∧ fits (a.tdiv b)) (.int .i64 (a.tdiv b)) none [])
    | .rem => some (quietOut σ (b ≠ 0) (.int .i64 (a.tmod b)) none [])
    | _ => none
  | _, _ => none
theorem opInt_ok {σ : SS R} {o : Oper} {op : BinOp} {t t' : TypeId} {y z : Operand} {x : Out R} (ho : o.op = .binOp op t y z t') (h : opInt σ op y z = some x) : OpOk D P o σ x := by
  unfold opInt at h
  split at h
  · rename_i a b ha hb
    cases op <;> simp only at h <;> try cases h
    all_goals
      refine quiet_ok (fun C ρ ft ac w ht hli hm hv => ?_) (fun hli c hc => by cases hc)
      have h1 := (ev_eval ht ha).1
      have h2 := (ev_eval ht hb).1
      simp only [ren_int] at h1 h2
      simp only [execOp, ho, h1, h2, ren_int]
    · simp [eqGuard, binOp, Op.intArith, fits_wrap hv]
    · simp [eqGuard, binOp, Op.intArith, fits_wrap hv]
    · simp [eqGuard, binOp, Op.intArith, fits_wrap hv]
    · simp [eqGuard, binOp, Op.intDiv, fits_wrap hv.2, hv.1]
    · simp [eqGuard, binOp, Op.intDiv, hv]
  · cases h
/-- texts joined -/
def opCat (σ : SS R) (y z : Operand) : Option (Out R) :=
  match ev σ.tm y, ev σ.tm z with
  | some (.string a), some (.string b) => some (quietOut σ (a.size + b.size ≤ 9223372036854775807) (.string (a ++ b)) none [])
  | _, _ => none
theorem opCat_ok {σ : SS R} {o : Oper} {t t' : TypeId} {y z : Operand} {x : Out R} (ho : o.op = .binOp .add t y z t') (h : opCat σ y z = some x) : OpOk D P o σ x := by
  unfold opCat at h
  split at h
  · rename_i a b ha hb
    injection h with h
    subst h
    refine quiet_ok (fun C ρ ft ac w ht hli hm hv => ?_) (fun hli c hc => by cases hc)
    have h1 := (ev_eval ht ha).1
    have h2 := (ev_eval ht hb).1
    simp only [ren_string] at h1 h2
    have hm : ¬ ((a.size + b.size : Nat) : Int) > IntKind.i64.max := by
      have : IntKind.i64.max = 9223372036854775807 := by decide
      rw [this]; omega
    simp only [execOp, ho, h1, h2, ren_string]
    simp only [eqGuard, binOp, Op.stringOp, if_neg hm]
    simp
  · cases h
/-- structs of plain fields, alike -/
def eqF (P : Program) (xs ys : List Value) : List Field → Option Bool
  | [] => some true
  | f :: fs =>
    if f.name ≠ "_" then
      match P.underlying f.type, xs[f.offset]?, ys[f.offset]? with
      | some (.int _), some (.int k a), some (.int k' b) => if k = k' then (eqF P xs ys fs).map fun r => (a == b) && r else none
      | some .bool, some (.bool a), some (.bool b) => (eqF P xs ys fs).map fun r => (a == b) && r
      | some .string, some (.string a), some (.string b) => (eqF P xs ys fs).map fun r => (a == b) && r
      | _, _, _ => none
    else eqF P xs ys fs
theorem eqF_run {xs ys : List Value} (d : Nat) (w : World) : ∀ (fs : List Field) (r : Bool), eqF P xs ys fs = some r → (Op.eqFields (d + 1) ⟨xs⟩ ⟨ys⟩ fs).run P w = .ok r w
  | [], r, h => by
    simp only [eqF] at h
    injection h with h
    subst h
    simp [Op.eqFields]
  | f :: fs, r, h => by
    simp only [eqF] at h
    simp only [Op.eqFields]
    have step : ∀ (b : Bool) (x y : Value), ((isAgg f.type).run P w = .ok false w) → xs[f.offset]? = some x → ys[f.offset]? = some y → (Op.equalIn (d + 1) f.type x y).run P w = .ok b w → (eqF P xs ys fs).map (fun r => b && r) = some r →
        (do
          let a ← part f.type ⟨xs⟩ f.offset
          let b ← part f.type ⟨ys⟩ f.offset
          let r ← Op.equalIn (d + 1) f.type a b
          if (!r) = true then pure false else Op.eqFields (d + 1) ⟨xs⟩ ⟨ys⟩ fs : Sem Bool).run P w = .ok r w := by
      intro b x y hagg hx hy he hr
      cases hq : eqF P xs ys fs with
      | none => rw [hq] at hr; cases hr
      | some r' =>
        rw [hq] at hr
        simp only [Option.map_some, Option.some.injEq] at hr
        have ih := eqF_run d w fs r' hq
        simp only [part, Sem.run_bind, hagg, Result.andThen_ok, Bool.false_eq_true, if_false, List.getElem?_toArray, hx, hy, Sem.run_pure, he]
        cases b with
        | true =>
          simp only [Bool.true_and] at hr
          subst hr
          simp [ih]
        | false =>
          simp only [Bool.false_and] at hr
          subst hr
          simp
    split at h
    · rename_i hn
      rw [if_pos hn]
      split at h
      · rename_i k0 k a k' b hu hx hy
        split at h
        · rename_i hk
          subst hk
          exact step _ _ _ (by simp [isAgg, run_underlying hu]) hx hy (run_equalIn_int w d f.type k k0 a b hu) h
        · cases h
      · rename_i a b hu hx hy
        exact step _ _ _ (by simp [isAgg, run_underlying hu]) hx hy (run_equalIn_bool' w d f.type a b hu) h
      · rename_i a b hu hx hy
        refine step _ _ _ (by simp [isAgg, run_underlying hu]) hx hy ?_ h
        rw [beq_toListBytes]
        exact run_equalIn_string w d f.type a b hu
      · cases h
    · rename_i hn
      rw [if_neg hn]
      exact eqF_run d w fs r h
def opEqAgg (P : Program) (σ : SS R) (neg : Bool) (t : TypeId) (y z : Operand) : Option (Out R) :=
  match ev σ.tm y, ev σ.tm z with
  | some (.agg ⟨xs⟩), some (.agg ⟨ys⟩) =>
    match P.underlying t with
    | some (.struct ⟨fs⟩) =>
      if flatL xs && flatL ys && !P.stoodInHeld t && !P.eqGuardType P.depth t then
        match eqF P xs ys fs with
        | some b => some (quietOut σ True (.bool (if neg then !b else b)) none [])
        | none => none
      else none
    | _ => none
  | _, _ => none
theorem opEqAgg_ok {σ : SS R} {o : Oper} {neg : Bool} {t t' : TypeId} {y z : Operand} {x : Out R} (ho : o.op = .binOp (if neg then .neq else .eql) t y z t') (h : opEqAgg P σ neg t y z = some x) : OpOk D P o σ x := by
  unfold opEqAgg at h
  split at h
  · rename_i xs ys ha hb
    split at h
    · rename_i fs hu
      split at h
      · rename_i hc
        simp only [Bool.and_eq_true, Bool.not_eq_true'] at hc
        obtain ⟨⟨⟨f1, f2⟩, hs⟩, hg⟩ := hc
        split at h
        · rename_i b hq
          injection h with h
          subst h
          refine quiet_ok (fun C ρ ft ac w ht hli hm hv => ?_) (fun hli c hc => by cases hc)
          have h1 := (ev_eval ht ha).1
          have h2 := (ev_eval ht hb).1
          rw [flat_ren _ (by simpa [flat] using f1)] at h1
          rw [flat_ren _ (by simpa [flat] using f2)] at h2
          have hfo : P.fieldsOf t = ⟨fs⟩ := by simp [Program.fieldsOf, hu]
          have he := eqF_run (P := P) (xs := xs) (ys := ys) 9998 w fs b hq
          have hst := run_equalIn_struct (P := P) w 9999 t ⟨xs⟩ ⟨ys⟩ (by rw [hfo]; exact hu) hs
          rw [hfo] at hst
          have hst2 : (Op.equalIn 10000 t (.agg ⟨xs⟩) (.agg ⟨ys⟩)).run P w = .ok b w := hst.trans he
          simp only [execOp, ho, h1, h2, ren_bool]
          cases neg with
          | false =>
            simp only [Bool.false_eq_true, if_false, Sem.run_bind, run_eqGuard_agg w _ t y z _ _ hg, Result.andThen_ok, run_eql_struct, hst2, Sem.run_pure]
          | true =>
            simp only [if_true, Sem.run_bind, run_eqGuard_agg w _ t y z _ _ hg, Result.andThen_ok, run_neq_struct, hst2, Sem.run_pure]
        · cases h
      · cases h
    · cases h
  · cases h
/-- is a type one of several cells, and of how many -/
def aggOf (P : Program) (t : TypeId) : Option (Option Nat) :=
  match P.underlying t with
  | some (.struct _) | some (.array _ _) =>
    match P.info? t with
    | some i => some (some i.size)
    | none => none
  | some _ => some none
  | none => none
theorem aggOf_some {t : TypeId} {n : Nat} (h : aggOf P t = some (some n)) (w : World) : (isAgg t).run P w = .ok true w ∧ (sizeOf t).run P w = .ok n w := by
  unfold aggOf at h
  split at h
  · rename_i fs hu
    split at h
    · rename_i i hi
      injection h with h; injection h with h
      subst h
      exact ⟨by simp [isAgg, run_underlying hu], by simp [sizeOf, typeInfo, hi]⟩
    · cases h
  · rename_i n' e hu
    split at h
    · rename_i i hi
      injection h with h; injection h with h
      subst h
      exact ⟨by simp [isAgg, run_underlying hu], by simp [sizeOf, typeInfo, hi]⟩
    · cases h
  · injection h with h; cases h
  · cases h
theorem aggOf_none {t : TypeId} (h : aggOf P t = some none) (w : World) : (isAgg t).run P w = .ok false w := by
  unfold aggOf at h
  split at h
  · split at h
    · injection h with h; cases h
    · cases h
  · split at h
    · injection h with h; cases h
    · cases h
  · rename_i d h1 h2 hu
    unfold isAgg
    rw [Sem.run_bind, run_underlying hu w]
    simp only [Result.andThen_ok]
    first
      | rfl
      | (split
         · rename_i fs; exact absurd hu (h1 fs)
         · rename_i n e; exact absurd hu (h2 n e)
         · rfl)
  · cases h
/-- a field of a struct by value -/
def opField (P : Program) (σ : SS R) (t : TypeId) (y : Operand) (k : Nat) : Option (Out R) :=
  match ev σ.tm y with
  | some (.agg ⟨l⟩) =>
    match P.underlying t with
    | some (.struct ⟨fs⟩) =>
      match fs[k]? with
      | some f =>
        match aggOf P f.type with
        | some none => match l[f.offset]? with
          | some v => some (quietOut σ True v none [])
          | none => none
        | some (some n) => some (quietOut σ True (.agg ⟨(l.drop f.offset).take n⟩) none [])
        | none => none
      | none => none
    | _ => none
  | _ => none
theorem opField_ok {σ : SS R} {o : Oper} {t : TypeId} {y : Operand} {k : Nat} {x : Out R} (ho : o.op = .field t y k) (h : opField P σ t y k = some x) : OpOk D P o σ x := by
  unfold opField at h
  split at h
  · rename_i l ha
    split at h
    · rename_i fs hu
      split at h
      · rename_i f hf
        split at h
        · rename_i hg
          split at h
          · rename_i v hv
            injection h with h
            subst h
            refine quiet_ok (fun C ρ ft ac w ht hli hm _ => ?_) (fun hli c hc => by cases hc)
            have h1 := (ev_eval ht ha).1
            rw [ren_agg] at h1
            simp [execOp, ho, h1, Instr.field, run_underlying hu, hf, asAgg, part, aggOf_none hg w, hv]
          · cases h
        · rename_i n hg
          injection h with h
          subst h
          refine quiet_ok (fun C ρ ft ac w ht hli hm _ => ?_) (fun hli c hc => by cases hc)
          have h1 := (ev_eval ht ha).1
          rw [ren_agg] at h1
          obtain ⟨g1, g2⟩ := aggOf_some hg w
          simp only [execOp, ho, h1, Instr.field, Sem.run_bind, run_underlying hu, Result.andThen_ok, List.getElem?_toArray, hf, asAgg, Sem.run_pure, part, g1, if_true, g2, ren_agg]
          congr 3
          apply Array.ext'
          simp [Array.toList_extract, List.extract_eq_take_drop, List.map_drop, List.map_take]
        · cases h
      · cases h
    · cases h
  · cases h
/-- the address of a field -/
def opFieldAddr (P : Program) (σ : SS R) (t : TypeId) (y : Operand) (k : Nat) : Option (Out R) :=
  match ev σ.tm y with
  | some (.pointer (some ⟨i, e, sp⟩)) =>
    match P.underlying t with
    | some (.struct ⟨fs⟩) =>
      match fs[k]? with
      | some f =>
        match P.info? f.type with
        | some inf =>
          if Nat.beq inf.size 0 then none else
          match sp with
          | none => some (quietOut σ True (.pointer (some ⟨i, e + f.offset, none⟩)) none [])
          | some q => if Nat.blt q 1000000 && Nat.blt (q % 1000 + f.offset) 1000 then some (quietOut σ True (.pointer (some ⟨i, e, some (q + f.offset)⟩)) none []) else none
        | none => none
      | none => none
    | _ => none
  | _ => none
theorem add_at (b o j : Nat) : (⟨b, o, none⟩ : Addr).add j = ⟨b, o + j, none⟩ := by
  unfold Addr.add; split
  · rename_i h; subst h; rfl
  · rfl
theorem opFieldAddr_ok {σ : SS R} {o : Oper} {t : TypeId} {y : Operand} {k : Nat} {x : Out R} (ho : o.op = .fieldAddr t y k) (h : opFieldAddr P σ t y k = some x) : OpOk D P o σ x := by
  unfold opFieldAddr at h
  split at h
  · rename_i i e sp ha
    split at h
    · rename_i fs hu
      split at h
      · rename_i f hf
        split at h
        · rename_i inf hi
          split at h
          · cases h
          · rename_i hz
            have hz' : inf.size ≠ 0 := fun e => hz (by rw [e]; rfl)
            have key : ∀ (C : Ctx) (ρ : Env) (ft : Nat → Nat → Prop) (ac : Act) (w : World), TM ρ σ.hp.length σ.tm ac →
                (execOp ac.eval o).run P w = .ok (.value (.pointer (some ((renA ρ ⟨i, e, sp⟩).add f.offset)))) w := by
              intro C ρ ft ac w ht
              have h1 := (ev_eval ht ha).1
              simp only [ren] at h1
              simp [execOp, ho, h1, Instr.fieldAt, run_underlying hu, hf, Instr.sureAddr, fieldPlace, sizeOf, typeInfo, hi, hz']
            split at h
            · injection h with h
              subst h
              refine quiet_ok (fun C ρ ft ac w ht hli hm _ => ?_) (fun hli c hc => by cases hc)
              rw [key C ρ ft ac w ht]
              simp only [ren, renA, add_at, cellOf, Nat.add_assoc]
            · rename_i q
              split at h
              · rename_i hq
                simp only [Bool.and_eq_true, Nat.blt_eq] at hq
                injection h with h
                subst h
                refine quiet_ok (fun C ρ ft ac w ht hli hm _ => ?_) (fun hli c hc => by cases hc)
                rw [key C ρ ft ac w ht]
                simp only [ren, renA, add_at, cellOf]
                have e1 : q % 1000000 / 1000 = (q + f.offset) % 1000000 / 1000 := by omega
                have e2 : q % 1000 + f.offset = (q + f.offset) % 1000 := by omega
                rw [e1, ← e2, Nat.add_assoc, Nat.add_assoc]
              · cases h
        · cases h
      · cases h
    · cases h
  · cases h
end
end Go.Proofs.Ytloibbakklenbaa.Rx
