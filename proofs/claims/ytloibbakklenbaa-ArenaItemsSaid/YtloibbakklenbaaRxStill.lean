/- Symbolic runs: what writes nothing leaves the heap as it is. Nothing of the program. -/
import Derived.Test.YtloibbakklenbaaRxFrame
namespace Go.Proofs.Ytloibbakklenbaa.Rx
open Go.RowKit Go.Proofs.Ytloibbakklenbaa.State
set_option linter.unusedVariables false
set_option linter.unusedSimpArgs false
section
variable {R : Type} {D : Res R} {P : Program} {T : Tab R} {σ : SS R} {x : Out R}
/-- what writes nothing leaves the heap -/
def StillO (σ : SS R) (x : Out R) : Prop := x.wr = [] → x.hp = σ.hp
theorem still_quiet (vc : Prop) (v : Value) (lit : Option Bool) (rd : List (Nat × Nat)) : StillO σ (quietOut σ vc v lit rd) := fun _ => rfl
theorem opPure_still {o : Oper} (h : opPure P σ o = some x) : StillO σ x := by
  unfold opPure at h
  repeat' split at h
  all_goals first
    | (injection h with h; subst h; exact still_quiet _ _ _ _)
    | cases h
theorem opMove_still {y : Operand} (h : opMove σ y = some x) : StillO σ x := by
  unfold opMove at h
  repeat' split at h
  all_goals first
    | (injection h with h; subst h; exact still_quiet _ _ _ _)
    | cases h
theorem opNilSlice_still {t : TypeId} (h : opNilSlice P σ t = some x) : StillO σ x := by
  unfold opNilSlice at h
  repeat' split at h
  all_goals first
    | (injection h with h; subst h; intro hw; cases hw)
    | cases h
theorem opAssign_still {t : TypeId} {y : Operand} (h : opAssign P σ t y = some x) : StillO σ x := by
  unfold opAssign at h
  split at h
  · split at h
    · rename_i hx; injection h with h; subst h; exact opNilSlice_still hx
    · exact opMove_still h
  · exact opMove_still h
theorem opPick_still {c y z : Operand} (h : opPick σ c y z = some x) : StillO σ x := by
  unfold opPick at h
  split at h
  · exact opMove_still h
  · exact opMove_still h
  · split at h
    · injection h with h; subst h; exact still_quiet _ _ _ _
    · cases h
theorem newCells_still {t : TypeId} {cs : List Value} (h : newCells σ t cs = some x) : StillO σ x := by
  unfold newCells at h; injection h with h; subst h; intro hw; cases hw
theorem opAlloc_still {t : TypeId} (h : opAlloc P σ t = some x) : StillO σ x := by
  unfold opAlloc at h
  repeat' split at h
  all_goals first
    | exact newCells_still h
    | cases h
theorem opBox_still {t : TypeId} {y : Operand} (h : opBox σ t y = some x) : StillO σ x := by
  unfold opBox at h
  repeat' split at h
  all_goals first
    | exact newCells_still h
    | cases h
theorem opBuild_still {t : TypeId} {ps : List (Nat × Operand)} (h : opBuild P σ t ps = some x) : StillO σ x := by
  unfold opBuild at h
  repeat' split at h
  all_goals first
    | (injection h with h; subst h; exact still_quiet _ _ _ _)
    | cases h
theorem opBuildSlice_still {t : TypeId} {n : Nat} {ps : List (Nat × Operand)} (h : opBuildSlice P σ t n ps = some x) : StillO σ x := by
  unfold opBuildSlice at h
  repeat' split at h
  all_goals first
    | (injection h with h; subst h; intro hw; cases hw)
    | cases h
theorem opLoad_still {t : TypeId} {y : Operand} (h : opLoad P σ t y = some x) : StillO σ x := by
  unfold opLoad at h
  repeat' split at h
  all_goals first
    | (injection h with h; subst h; exact still_quiet _ _ _ _)
    | cases h
theorem locs_ne {i e n : Nat} (h : locs i e n = []) : n = 0 := by
  cases n with
  | zero => rfl
  | succ n => simp [locs] at h
theorem set_same {α : Type} {l : List α} {i : Nat} {a : α} (h : l[i]? = some a) : l.set i a = l := by
  have hl : i < l.length := (List.getElem?_eq_some_iff.1 h).1
  apply List.ext_getElem?
  intro u
  by_cases he : i = u
  · subst he; rw [List.getElem?_set_self hl, h]
  · rw [List.getElem?_set_ne he]
theorem opStore_still {t : TypeId} {y z : Operand} (h : opStore P σ t y z = some x) : StillO σ x := by
  unfold opStore at h
  split at h
  · rename_i i e v _ _
    split at h
    · rename_i ty cs inf hi _
      split at h
      · rename_i hc
        simp only [Bool.and_eq_true] at hc
        injection h with h
        subst h
        intro hw
        have h0 := locs_ne hw
        have h1 := Nat.eq_of_beq_eq_true hc.1.1
        rw [h0] at h1
        have h2 : v.cells.toList = [] := List.eq_nil_of_length_eq_zero h1
        simp only [h2]
        exact set_same (by rw [hi]; rfl)
      · cases h
    · cases h
  · rename_i i e q v _ _
    split at h
    · rename_i ty r inf hi _
      split at h
      · rename_i hc
        simp only [Bool.and_eq_true, Nat.blt_eq] at hc
        split at h
        · injection h with h
          subst h
          intro hw
          have h0 := locs_ne hw
          omega
        · cases h
      · cases h
    · cases h
  · cases h
theorem opNil_still {y : Operand} (h : opNil σ y = some x) : StillO σ x := by
  unfold opNil at h
  repeat' split at h
  all_goals first
    | (injection h with h; subst h; exact still_quiet _ _ _ _)
    | cases h
theorem opEqNil_still {neg : Bool} {t : TypeId} {y z : Operand} (h : opEqNil P σ neg t y z = some x) : StillO σ x := by
  unfold opEqNil at h
  repeat' split at h
  all_goals first
    | (injection h with h; subst h; exact still_quiet _ _ _ _)
    | cases h
theorem opEqAgg_still {neg : Bool} {t : TypeId} {y z : Operand} (h : opEqAgg P σ neg t y z = some x) : StillO σ x := by
  unfold opEqAgg at h
  split at h
  · split at h
    · split at h
      · split at h
        · injection h with h; subst h; exact still_quiet _ _ _ _
        · cases h
      · cases h
    · cases h
  · cases h
theorem opInt_still {op : BinOp} {y z : Operand} (h : opInt σ op y z = some x) : StillO σ x := by
  unfold opInt at h
  repeat' split at h
  all_goals first
    | (injection h with h; subst h; exact still_quiet _ _ _ _)
    | cases h
theorem opCat_still {y z : Operand} (h : opCat σ y z = some x) : StillO σ x := by
  unfold opCat at h
  repeat' split at h
  all_goals first
    | (injection h with h; subst h; exact still_quiet _ _ _ _)
    | cases h
theorem opBin_still {o : Oper} {op : BinOp} {t : TypeId} {y z : Operand} (h : opBin P σ o op t y z = some x) : StillO σ x := by
  unfold opBin at h
  split at h
  · exact opInt_still h
  · split at h
    · exact opCat_still h
    · cases h
  · split at h
    · exact opEqNil_still h
    · exact opEqNil_still h
    · cases h
  · split at h
    · exact opEqAgg_still h
    · exact opEqAgg_still h
    · cases h
  · exact opPure_still h
theorem opNot_still {y : Operand} (h : opNot σ y = some x) : StillO σ x := by
  unfold opNot at h
  repeat' split at h
  all_goals first
    | (injection h with h; subst h; exact still_quiet _ _ _ _)
    | cases h
theorem opSlice_still {t : TypeId} {y : Operand} {lo hi mx : Option Operand} (h : opSlice P σ t y lo hi mx = some x) : StillO σ x := by
  unfold opSlice at h
  repeat' split at h
  all_goals first
    | (injection h with h; subst h; exact still_quiet _ _ _ _)
    | (injection h with h; subst h; intro hw; cases hw)
    | cases h
theorem opFieldAddr_still {t : TypeId} {y : Operand} {k : Nat} (h : opFieldAddr P σ t y k = some x) : StillO σ x := by
  unfold opFieldAddr at h
  repeat' split at h
  all_goals first
    | (injection h with h; subst h; exact still_quiet _ _ _ _)
    | cases h
theorem opField_still {t : TypeId} {y : Operand} {k : Nat} (h : opField P σ t y k = some x) : StillO σ x := by
  unfold opField at h
  repeat' split at h
  all_goals first
    | (injection h with h; subst h; exact still_quiet _ _ _ _)
    | cases h
theorem opIndexAddr_still {t : TypeId} {y z : Operand} (h : opIndexAddr P σ t y z = some x) : StillO σ x := by
  unfold opIndexAddr at h
  repeat' split at h
  all_goals first
    | (injection h with h; subst h; exact still_quiet _ _ _ _)
    | cases h
theorem opIndexStr_still {t : TypeId} {y z : Operand} (h : opIndexStr P σ t y z = some x) : StillO σ x := by
  unfold opIndexStr at h
  repeat' split at h
  all_goals first
    | (injection h with h; subst h; exact still_quiet _ _ _ _)
    | cases h
theorem opExtract_still {y : Operand} {k : Nat} (h : opExtract σ y k = some x) : StillO σ x := by
  unfold opExtract at h
  repeat' split at h
  all_goals first
    | (injection h with h; subst h; exact still_quiet _ _ _ _)
    | cases h
theorem opMakeSlice_still {t : TypeId} {y z : Operand} (h : opMakeSlice P σ t y z = some x) : StillO σ x := by
  unfold opMakeSlice at h
  repeat' split at h
  all_goals first
    | (injection h with h; subst h; intro hw; cases hw)
    | cases h
theorem opLen_still {t : TypeId} {y : Operand} (h : opLen P σ t y = some x) : StillO σ x := by
  unfold opLen at h
  repeat' split at h
  all_goals first
    | (injection h with h; subst h; exact still_quiet _ _ _ _)
    | cases h
theorem opAppend_still {t t2 : TypeId} {y z : Operand} (h : opAppend P σ t t2 y z = some x) : StillO σ x := by
  unfold opAppend at h
  split at h
  · split at h
    · split at h
      · injection h with h; subst h; intro hw; cases hw
      · cases h
    · split at h
      · split at h
        · injection h with h; subst h; intro hw; cases hw
        · cases h
      · cases h
    · cases h
  · cases h
theorem opCall_still (hT : TabOk D P T) {f : Operand} {args : List Operand} {b : Bool} (h : opCall T σ f args b = some x) : StillO σ x := by
  unfold opCall at h
  split at h
  · split at h
    · rename_i p hp
      exact (findF_ok hT hp b).still _ _ _ h
    · cases h
  · cases h
theorem opLoadT_still {t : TypeId} {y : Operand} (h : opLoadT P T σ t y = some x) : StillO σ x := by
  unfold opLoadT at h
  split at h
  · rename_i hx; injection h with h; subst h; exact opLoad_still hx
  · repeat' split at h
    all_goals first
      | (injection h with h; subst h; exact still_quiet _ _ _ _)
      | cases h
theorem sop_still (hT : TabOk D P T) {o : Oper} {b : Bool} (h : sop P T σ o b = some x) : StillO σ x := by
  obtain ⟨dst, op, ty, pos, after, guard⟩ := o
  unfold sop at h
  simp only at h
  split at h
  · exact opAssign_still h
  · exact opAssign_still h
  · exact opPick_still h
  · exact opAlloc_still h
  · exact opBox_still h
  · exact opBuild_still h
  · exact opBuildSlice_still h
  · exact opLoadT_still h
  · split at h
    · exact opStore_still h
    · cases h
  · exact opNil_still h
  · exact opBin_still h
  · split at h
    · exact opNot_still h
    · exact opPure_still h
  · exact opSlice_still h
  · exact opFieldAddr_still h
  · exact opField_still h
  · exact opIndexAddr_still h
  · split at h
    · exact opIndexStr_still h
    · exact opPure_still h
  · exact opExtract_still h
  · exact opMakeSlice_still h
  · rename_i callee args ts
    split at h
    · exact opCall_still hT h
    · split at h
      · exact opAppend_still h
      · split at h
        · exact opLen_still h
        · exact opPure_still h
      · exact opPure_still h
    · cases h
  · exact opPure_still h
end
end Go.Proofs.Ytloibbakklenbaa.Rx
