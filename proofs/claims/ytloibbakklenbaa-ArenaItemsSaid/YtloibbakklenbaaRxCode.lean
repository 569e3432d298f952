/- Symbolic runs: regions, the code of a function, loops by what holds at their head. Nothing of the program. -/
import Derived.Test.YtloibbakklenbaaRxForce
namespace Go.Proofs.Ytloibbakklenbaa.Rx
open Go.RowKit Go.Proofs.Ytloibbakklenbaa.State
set_option linter.unusedVariables false
set_option linter.unusedSimpArgs false
section
variable {R : Type} {D : Res R} {P : Program} {T : Tab R} {C : Ctx} {w w' : World}
/-- what an operation asks holds anyhow -/
def easy (σ : SS R) (o : Oper) : Bool :=
  match o with
  | ⟨dst, op, ty, pos, after, guard⟩ =>
  match op with
  | .move _ | .assign _ | .pick _ _ _ | .alloc _ | .box _ _ | .build _ _ | .buildSlice _ _ _ | .nilCheck _ | .unOp _ _ _ | .fieldAddr _ _ _ | .field _ _ _ | .extract _ _ => true
  | .load _ y | .store _ y _ => match ev σ.tm y with
    | some (.pointer (some ⟨_, _, none⟩)) => true
    | _ => false
  | .binOp op _ y z _ => match binKind op (ev σ.tm y) (ev σ.tm z) with
    | 1 => false
    | 2 => false
    | _ => true
  | .call ⟨.builtin b, _, _⟩ => match b with
    | .append => false
    | _ => true
  | _ => false
theorem opPure_vc {σ : SS R} {o : Oper} {x : Out R} (h : opPure P σ o = some x) : x.vc := by
  unfold opPure at h
  split at h
  · split at h
    · split at h
      · injection h with h; subst h; trivial
      · cases h
    · cases h
  · cases h
theorem opMove_vc {σ : SS R} {y : Operand} {x : Out R} (h : opMove σ y = some x) : x.vc := by
  unfold opMove at h
  split at h
  · injection h with h; subst h; trivial
  · cases h
theorem newCells_vc {σ : SS R} {t : TypeId} {cs : List Value} {x : Out R} (h : newCells σ t cs = some x) : x.vc := by
  unfold newCells at h; injection h with h; subst h; trivial
theorem opNilSlice_vc {σ : SS R} {t : TypeId} {x : Out R} (h : opNilSlice P σ t = some x) : x.vc := by
  unfold opNilSlice at h
  split at h
  · split at h
    · injection h with h; subst h; trivial
    · cases h
  · cases h
theorem easy_vc {σ : SS R} {o : Oper} {x : Out R} {way : Bool} (h : sop P T σ o way = some x) (he : easy σ o = true) : x.vc := by
  obtain ⟨dst, op, ty, pos, after, guard⟩ := o
  unfold sop at h
  unfold easy at he
  cases op <;> simp only at h he <;> try (cases he)
  case move y =>
    unfold opAssign at h
    split at h
    · split at h
      · rename_i hx; injection h with h; subst h; exact opNilSlice_vc hx
      · exact opMove_vc h
    · exact opMove_vc h
  case assign y =>
    unfold opAssign at h
    split at h
    · split at h
      · rename_i hx; injection h with h; subst h; exact opNilSlice_vc hx
      · exact opMove_vc h
    · exact opMove_vc h
  case pick c y z =>
    unfold opPick at h
    split at h
    · exact opMove_vc h
    · exact opMove_vc h
    · split at h
      · injection h with h; subst h; trivial
      · cases h
  case alloc t =>
    unfold opAlloc at h
    split at h
    · split at h
      · split at h
        · exact newCells_vc h
        · cases h
      · cases h
    · cases h
  case box t y =>
    unfold opBox at h
    split at h
    · exact newCells_vc h
    · cases h
  case build t ps =>
    obtain ⟨ps⟩ := ps
    simp only at h
    unfold opBuild at h
    split at h
    · split at h
      · split at h
        · split at h
          · injection h with h; subst h; trivial
          · cases h
        · cases h
      · cases h
    · cases h
  case buildSlice t n ps =>
    obtain ⟨ps⟩ := ps
    simp only at h
    unfold opBuildSlice at h
    split at h
    · split at h
      · split at h
        · split at h
          · injection h with h; subst h; trivial
          · cases h
        · cases h
      · cases h
    · cases h
  case load t y =>
    split at he
    · rename_i i e hy
      unfold opLoadT at h
      rw [hy] at h
      simp only at h
      split at h
      · rename_i x' h'
        injection h with h
        subst h
        unfold opLoad at h'
        rw [hy] at h'
        simp only at h'
        split at h'
        · split at h'
          · split at h'
            · injection h' with h'; subst h'; trivial
            · cases h'
          · split at h'
            · injection h' with h'; subst h'; trivial
            · cases h'
          · cases h'
        · cases h'
      · repeat' split at h
        all_goals first
          | (injection h with h; subst h; trivial)
          | cases h
    · cases he
  case store t y z =>
    split at he
    · rename_i i e hy
      split at h
      · unfold opStore at h
        rw [hy] at h
        cases hz : ev σ.tm z with
        | none => rw [hz] at h; cases h
        | some v =>
          rw [hz] at h
          simp only at h
          split at h
          · split at h
            · injection h with h; subst h; trivial
            · cases h
          · cases h
      · cases h
    · cases he
  case nilCheck y =>
    unfold opNil at h
    split at h
    · injection h with h; subst h; trivial
    · injection h with h; subst h; trivial
    · cases h
  case binOp b t y z u =>
    unfold opBin at h
    split at he
    · cases he
    · cases he
    · rename_i n1 n2 
      split at h
      · rename_i hk; exact absurd hk n1
      · rename_i hk; exact absurd hk n2
      · have key : ∀ neg, opEqNil P σ neg t y z = some x → x.vc := fun neg h => by
          unfold opEqNil at h
          split at h
          · split at h
            · injection h with h; subst h; trivial
            · cases h
          · cases h
        split at h
        · exact key _ h
        · exact key _ h
        · cases h
      · have key : ∀ neg, opEqAgg P σ neg t y z = some x → x.vc := fun neg h => by
          unfold opEqAgg at h
          split at h
          · split at h
            · split at h
              · split at h
                · injection h with h; subst h; trivial
                · cases h
              · cases h
            · cases h
          · cases h
        split at h
        · exact key _ h
        · exact key _ h
        · cases h
      · exact opPure_vc h
  case unOp u t y =>
    split at h
    · unfold opNot at h
      split at h
      · injection h with h; subst h; trivial
      · cases h
    · exact opPure_vc h
  case fieldAddr t y k =>
    unfold opFieldAddr at h
    split at h
    · split at h
      · split at h
        · split at h
          · split at h
            · cases h
            · split at h
              · injection h with h; subst h; trivial
              · split at h
                · injection h with h; subst h; trivial
                · cases h
          · cases h
        · cases h
      · cases h
    · cases h
  case field t y k =>
    unfold opField at h
    split at h
    · split at h
      · split at h
        · split at h
          · split at h
            · injection h with h; subst h; trivial
            · cases h
          · injection h with h; subst h; trivial
          · cases h
        · cases h
      · cases h
    · cases h
  case extract y k =>
    unfold opExtract at h
    split at h
    · split at h
      · injection h with h; subst h; trivial
      · cases h
    · cases h
  case call c =>
    obtain ⟨callee, args, ts⟩ := c
    obtain ⟨args⟩ := args
    obtain ⟨ts⟩ := ts
    cases callee <;> simp only at h he <;> try (cases he)
    rename_i b
    split at h
    · simp at he
    · split at h
      · unfold opLen at h
        split at h
        · injection h with h; subst h; trivial
        · cases h
      · exact opPure_vc h
    · exact opPure_vc h
/-- what is asked for on the way; what is asked for at the end -/
structure Vc (p : Prop) : Prop where
  out : p
structure Post (p : Prop) : Prop where
  out : p
/-- a proposition that is asked for, but where it holds anyhow -/
def also (e : Bool) (p q : Prop) : Prop :=
  match e with
  | true => q
  | false => Vc p ∧ q
/-- this can't be run -/
structure Stuck (why : Nat) : Prop where
  out : False
theorem Stuck.elim {n : Nat} {p : Prop} (h : Stuck n) : p := h.out.elim
/-- one operation, and what follows -/
def rxOp1 (P : Program) (T : Tab R) (σ : SS R) (o : Oper) (k : SS R → Prop) (way : Bool) : Prop :=
  match sop P T σ o way with
  | some x => if tidy σ o.dst x then also (easy σ o) x.vc (fSS (putT σ o.dst x.v x.lit x.hp) k) else Stuck 1
  | none => Stuck 2
def rxOp (P : Program) (T : Tab R) (σ : SS R) (o : Oper) (k : SS R → Prop) : Prop :=
  match forkOf T σ o with
  | none => rxOp1 P T σ o k true
  | some b => (b = true → rxOp1 P T σ o k true) ∧ (b = false → rxOp1 P T σ o k false)
def dstOf (ops : List Oper) (j : Nat) : Option Tmp :=
  match ops[j]? with
  | some o => o.dst
  | none => none
/-- the operations of a region, one behind the other -/
def rxList (P : Program) (T : Tab R) (ops : List Oper) : List Oper → SS R → (SS R → Prop) → Prop
  | [], σ, k => k σ
  | o :: r, σ, k =>
    match o.guard with
    | none => rxOp P T σ o fun σ' => rxList P T ops r σ' k
    | some (j, want) =>
      match dstOf ops j with
      | none => Stuck 3
      | some t =>
        match look σ.li t with
        | some b => if (b == want) = true then rxOp P T σ o fun σ' => rxList P T ops r σ' k else fSS (putT σ o.dst undef none σ.hp) fun σ => rxList P T ops r σ k
        | none =>
          match σ.tm[t]? with
          | some (some (.bool b)) =>
            (b = want → fSS (assume σ t want) fun σ => rxOp P T σ o fun σ' => rxList P T ops r σ' k) ∧
            (b = !want → fSS (putT (assume σ t (!want)) o.dst undef none σ.hp) fun σ => rxList P T ops r σ k)
          | _ => Stuck 4
theorem M_li {σ : SS R} {a : Act} {t : Nat} {b : Bool} (hm : M D C σ a w) (h : σ.tm[t]? = some (some (.bool b))) : a.tmps[t]? = some (.bool b) := by
  obtain ⟨ρ, ft, _, h1, _⟩ := hm.ex
  have := (h1.val t _ h).1
  simpa using this
theorem yielded_of {ops : List Oper} {j t : Nat} {a : Act} {b : Bool} (h : dstOf ops j = some t) (ha : a.tmps[t]? = some (.bool b)) : yielded ops.toArray a.tmps j = some b := by
  unfold dstOf at h
  unfold yielded
  split at h
  · rename_i o ho
    simp [ho, h, ha]
  · cases h
theorem rxOp_ok (hT : TabOk D P T) {σ : SS R} {o : Oper} {k : SS R → Prop} {a : Act} {K : Act → World → Prop} {Q : Exit → Act → World → Prop} (h : rxOp P T σ o k) (hm : M D C σ a w) (hn : C.n0 ≤ σ.hp.length)
    (hK : ∀ σ' a' w', k σ' → σ.hp.length ≤ σ'.hp.length → M D C σ' a' w' → K a' w') : o.wp P a w K Q := by
  have one : ∀ b, goes (forkOf T σ o) b → rxOp1 P T σ o k b → o.wp P a w K Q := by
    intro b hb h
    unfold rxOp1 at h
    split at h
    · rename_i x hx
      split at h
      · rename_i ht
        have hok := sop_ok hT hb hx
        have : x.vc ∧ k (putT σ o.dst x.v x.lit x.hp) := by
          rw [fSS_eq] at h
          unfold also at h
          split at h
          · rename_i he; exact ⟨easy_vc hx he, h⟩
          · exact ⟨h.1.out, h.2⟩
        exact hm.step hok ht this.1 (fun a' w' hm' => hK _ a' w' this.2 (by rw [putT_hp]; exact hok.len) hm') hn
      · exact h.elim
    · exact h.elim
  unfold rxOp at h
  split at h
  · rename_i hf
    exact one true (Or.inl ⟨hf, rfl⟩) h
  · rename_i b hf
    cases b with
    | true => exact one true (Or.inr hf) (h.1 rfl)
    | false => exact one false (Or.inr hf) (h.2 rfl)
theorem rxList_ok (hT : TabOk D P T) {ops : List Oper} {Q : Exit → Act → World → Prop} : ∀ (rest : List Oper) {σ : SS R} {k : SS R → Prop} {a : Act} {w : World}, rxList P T ops rest σ k → M D C σ a w → C.n0 ≤ σ.hp.length →
    (∀ σ' a' w', k σ' → C.n0 ≤ σ'.hp.length → M D C σ' a' w' → Q .normal a' w') → wpList P ops.toArray Q rest a w
  | [], σ, k, a, w, h, hm, hn, hK => hK σ a w h hn hm
  | o :: r, σ, k, a, w, h, hm, hn, hK => by
    simp only [rxList, fSS_eq] at h
    have run : ∀ {σ : SS R}, Region.wanted o (yielded ops.toArray a.tmps) = true → M D C σ a w → C.n0 ≤ σ.hp.length → (rxOp P T σ o fun σ' => rxList P T ops r σ' k) → wpList P ops.toArray Q (o :: r) a w := by
      intro σ hw hm hn h
      unfold wpList
      rw [if_pos hw]
      exact Or.inl (rxOp_ok hT h hm hn fun σ' a' w' h' hl' hm' => rxList_ok hT r h' hm' (Nat.le_trans hn hl') hK)
    have skip : ∀ {σ : SS R}, Region.wanted o (yielded ops.toArray a.tmps) = false → M D C σ a w → C.n0 ≤ σ.hp.length → rxList P T ops r (putT σ o.dst undef none σ.hp) k → wpList P ops.toArray Q (o :: r) a w := by
      intro σ hw hm hn h
      unfold wpList
      rw [if_neg (by simp [hw])]
      exact rxList_ok hT r h hm.undef (by rw [putT_hp]; exact hn) hK
    split at h
    · rename_i hg
      exact run (by simp [Region.wanted, hg]) hm hn h
    · rename_i j want hg
      split at h
      · exact h.elim
      · rename_i t hd
        split at h
        · rename_i b hl
          have hy := yielded_of hd (M_li hm (hm.li t b (look_mem hl)))
          split at h
          · rename_i hb
            exact run (by simp [Region.wanted, hg, hy]; simpa using hb) hm hn h
          · rename_i hb
            exact skip (by simp [Region.wanted, hg, hy]; simpa using hb) hm hn h
        · split at h
          · rename_i b hb
            have hy := yielded_of hd (M_li hm hb)
            by_cases he : b = want
            · subst he
              exact run (by simp [Region.wanted, hg, hy]) (hm.assume hb) (by simpa [assume] using hn) (h.1 rfl)
            · have he2 : b = !want := by cases b <;> cases want <;> simp_all
              have h2 := h.2 he2
              rw [he2] at hb
              exact skip (by simp [Region.wanted, hg, hy]; exact he) (hm.assume hb) (by simpa [assume] using hn) h2
          · exact h.elim
/-- a part of a function's code -/
def codeAt : Code → List Nat → Option Code
  | c, [] => some c
  | .seq a _, 0 :: p => codeAt a p
  | .seq _ b, 1 :: p => codeAt b p
  | .cond _ a _, 0 :: p => codeAt a p
  | .cond _ _ b, 1 :: p => codeAt b p
  | .block _ c, 0 :: p => codeAt c p
  | .loop c, 0 :: p => codeAt c p
  | _, _ => none
theorem codeAt_append : ∀ (p : List Nat) (c d : Code) (q : List Nat), codeAt c p = some d → codeAt c (p ++ q) = codeAt d q
  | [], c, d, q, h => by
    cases c <;> simp only [codeAt] at h <;> (injection h with h; subst h; rfl)
  | i :: p, c, d, q, h => by
    cases c <;> simp only [List.cons_append] <;> (try (cases i <;> simp only [codeAt] at h <;> cases h))
    · rename_i a b
      rcases i with _ | _ | i
      · exact codeAt_append p a d q h
      · exact codeAt_append p b d q h
      · simp [codeAt] at h
    · rename_i x a b
      rcases i with _ | _ | i
      · exact codeAt_append p a d q h
      · exact codeAt_append p b d q h
      · simp [codeAt] at h
    · rename_i id a
      rcases i with _ | i
      · exact codeAt_append p a d q h
      · simp [codeAt] at h
    · rename_i a
      rcases i with _ | i
      · exact codeAt_append p a d q h
      · simp [codeAt] at h
/-- what is to be run: code at a place; the end of a block; the end of a loop's round -/
abbrev It (R : Type) := (List Nat) ⊕ Nat ⊕ (SS R → Prop)
def stk (D : Res R) (P : Program) (C : Ctx) (root : Code) (k : Exit → SS R → Prop) : List (It R) → Exit → Act → World → Prop
  | [], e, a, w => ∃ σ, k e σ ∧ M D C σ a w
  | .inl p :: r, e, a, w => match e with
    | .normal => match codeAt root p with
      | some c => c.wp P (stk D P C root k r) a w
      | none => False
    | e => stk D P C root k r e a w
  | .inr (.inl id) :: r, e, a, w => Exit.inBlock id (stk D P C root k r) e a w
  | .inr (.inr J) :: r, e, a, w => match e with
    | .normal => ∃ σ, J σ ∧ C.n0 ≤ σ.hp.length ∧ M D C σ a w
    | e => stk D P C root k r e a w
/-- what is to be run, run from σ, comes to k -/
structure At (D : Res R) (P : Program) (root : Code) (n0 : Nat) (k : Exit → SS R → Prop) (todo : List (It R)) (σ : SS R) : Prop where
  run : ∀ C a w, C.n0 = n0 → n0 ≤ σ.hp.length → M D C σ a w → stk D P C root k todo .normal a w
def popTo (id : Nat) : List (It R) → Option (List (It R))
  | [] => none
  | .inr (.inl i) :: r => if Nat.beq i id then some r else popTo id r
  | .inl _ :: r => popTo id r
  | .inr (.inr _) :: r => popTo id r
theorem stk_exit {root : Code} {k : Exit → SS R → Prop} {id : Nat} {a : Act} : ∀ {todo : List (It R)},
    (match popTo id todo with | some r => stk D P C root k r .normal a w | none => ∃ σ, k (.exit id) σ ∧ M D C σ a w) → stk D P C root k todo (.exit id) a w
  | [], h => h
  | .inl _ :: r, h => by simp only [popTo] at h; simp only [stk]; exact stk_exit h
  | .inr (.inr _) :: r, h => by simp only [popTo] at h; simp only [stk]; exact stk_exit h
  | .inr (.inl i) :: r, h => by
    simp only [popTo] at h
    simp only [stk, Exit.inBlock]
    by_cases he : i = id
    · subst he
      rw [if_pos rfl]
      rw [if_pos (by simp)] at h
      exact h
    · rw [if_neg (fun e => he e.symm)]
      rw [if_neg (by simp [he])] at h
      exact stk_exit h
theorem stk_ret {root : Code} {k : Exit → SS R → Prop} {a : Act} : ∀ {todo : List (It R)}, (∃ σ, k .ret σ ∧ M D C σ a w) → stk D P C root k todo .ret a w
  | [], h => h
  | .inl _ :: r, h => by simp only [stk]; exact stk_ret h
  | .inr (.inr _) :: r, h => by simp only [stk]; exact stk_ret h
  | .inr (.inl i) :: r, h => by simp only [stk, Exit.inBlock]; exact stk_ret h
end
end Go.Proofs.Ytloibbakklenbaa.Rx
