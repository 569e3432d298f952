/- Symbolic runs: what makes blocks: variables, boxes, literals, made slices; lengths and cuts. Nothing of the program. -/
import Derived.Test.YtloibbakklenbaaRxLoad
namespace Go.Proofs.Ytloibbakklenbaa.Rx
open Go.RowKit Go.Proofs.Ytloibbakklenbaa.State
set_option linter.unusedVariables false
set_option linter.unusedSimpArgs false
section
variable {R : Type} {D : Res R} {P : Program} {C : Ctx} {ρ : Env} {ft : Nat → Nat → Prop} {w w' : World}
/-- a new block of known cells -/
def newCells (σ : SS R) (t : TypeId) (cs : List Value) : Option (Out R) :=
  some ⟨True, .pointer (some ⟨σ.hp.length, 0, none⟩), none, σ.hp ++ [some (.inl (t, cs))], [], [(σ.hp.length, 0)]⟩
theorem newCells_ok {σ : SS R} {o : Oper} {t : TypeId} {cs : List Value} {x : Out R}
    (hrun : ∀ (ρ : Env) (a : Act) (w : World), TM ρ σ.hp.length σ.tm a → (execOp a.eval o).run P w = .ok (.value (.pointer (some ⟨w.heap.size, 0, none⟩))) (w.alloc (.cells (cs.map (ren ρ)).toArray t)) ∧ inbL σ.hp.length cs = true)
    (h : newCells σ t cs = some x) : OpOk D P o σ x := by
  unfold newCells at h
  injection h with h
  subst h
  refine ⟨fun C ρ ft a w K Q ht hli hm _ hK => ?_, by simp, fun _ b hb => by cases hb⟩
  obtain ⟨h1, h2⟩ := hrun ρ a w ht
  have hren : cs.map (ren (upd ρ σ.hp.length ⟨w.heap.size, 0, 0, false⟩)) = cs.map (ren ρ) :=
    List.map_congr_left fun v hv => ren_congr (n := σ.hp.length) (fun i hi => upd_lt _ _ _ hi) v (inbL_iff.1 h2 v hv)
  have hp := hm.push (D := D) ⟨w.heap.size, 0, 0, false⟩ (.cells (cs.map (ren ρ)).toArray t) rfl (.inl (t, cs)) (by
    refine ⟨by rw [upd_same], fun k => by rw [upd_same], ?_⟩
    rw [upd_same, hren]
    exact heap_alloc_new w _) (inbL_mono (Nat.le_succ _) _ h2)
  refine wp_value h1 ?_
  have := hK _ _ _ (fun i hi => upd_lt ρ σ.hp.length ⟨w.heap.size, 0, 0, false⟩ hi) hp
  simpa [ren, renA, upd_same, cellOf] using this
def opAlloc (P : Program) (σ : SS R) (t : TypeId) : Option (Out R) :=
  match P.info? t with
  | some i => match i.zero with
    | some z => if flatL z.cells.toList then newCells σ t z.cells.toList else none
    | none => none
  | none => none
theorem flat_map {l : List Value} (h : flatL l = true) : l.map (ren ρ) = l := by
  conv => rhs; rw [← List.map_id l]
  exact List.map_congr_left fun v hv => flat_ren v (flatL_iff.1 h v hv)
theorem opAlloc_ok {σ : SS R} {o : Oper} {t : TypeId} {x : Out R} (ho : o.op = .alloc t) (h : opAlloc P σ t = some x) : OpOk D P o σ x := by
  unfold opAlloc at h
  split at h
  · rename_i i hi
    split at h
    · rename_i z hz
      split at h
      · rename_i hf
        refine newCells_ok (fun ρ a w ht => ⟨?_, flat_inbL _ hf⟩) h
        rw [flat_map hf]
        simp [execOp, ho, Instr.alloc, zeroValue, typeInfo, hi, hz, newVar, newRow]
      · cases h
    · cases h
  · cases h
def opBox (σ : SS R) (t : TypeId) (y : Operand) : Option (Out R) :=
  match ev σ.tm y with
  | some v => newCells σ t v.cells.toList
  | none => none
theorem opBox_ok {σ : SS R} {o : Oper} {t : TypeId} {y : Operand} {x : Out R} (ho : o.op = .box t y) (h : opBox σ t y = some x) : OpOk D P o σ x := by
  unfold opBox at h
  split at h
  · rename_i v hv
    refine newCells_ok (fun ρ a w ht => ?_) h
    obtain ⟨h1, h2⟩ := ev_eval ht hv
    refine ⟨?_, cells_inb h2⟩
    have : (ren ρ v).cells = (v.cells.toList.map (ren ρ)).toArray := by rw [cells_ren]; apply Array.ext'; simp
    simp [execOp, ho, Instr.box, newVar, newRow, h1, this]
  · cases h
/-- the parts of a literal, known -/
def evParts (tm : List (Option Value)) : List (Nat × Operand) → Option (List (Nat × Value))
  | [] => some []
  | (i, y) :: l =>
    match ev tm y, evParts tm l with
    | some v, some r => some ((i, v) :: r)
    | _, _ => none
theorem evParts_map {tm : List (Option Value)} {n : Nat} {a : Act} (ht : TM ρ n tm a) : ∀ {l : List (Nat × Operand)} {r : List (Nat × Value)}, evParts tm l = some r →
    l.map (fun (i, y) => (i, a.eval y)) = r.map (fun (i, v) => (i, ren ρ v)) ∧ ∀ p ∈ r, inb n p.2 = true
  | [], r, h => by
    simp only [evParts] at h
    injection h with h
    subst h
    exact ⟨rfl, fun p hp => by cases hp⟩
  | (i, y) :: l, r, h => by
    simp only [evParts] at h
    split at h
    · rename_i v r' hv hr
      injection h with h
      subst h
      obtain ⟨h1, h2⟩ := ev_eval ht hv
      obtain ⟨h3, h4⟩ := evParts_map ht hr
      refine ⟨by simp only [List.map_cons, h1, h3], fun p hp => ?_⟩
      rcases List.mem_cons.1 hp with rfl | hp
      · exact h2
      · exact h4 p hp
    · cases h
/-- a literal's cells -/
def fillL (place : Nat → Option (Nat × Nat)) (cs : List Value) : List (Nat × Value) → Option (List Value)
  | [] => some cs
  | (i, v) :: rest =>
    match place i with
    | none => none
    | some (off, size) =>
      if Nat.beq v.cells.toList.length size && Nat.ble (off + size) cs.length then fillL place (setL cs off v.cells.toList) rest else none
theorem foldl_setMany (vs : List Value) : ∀ (k : Nat) (cur : Array Value) (off : Nat), (vs.zipIdx k).foldl (fun cs (x : Value × Nat) => cs.setIfInBounds (off + x.2) x.1) cur = setMany cur (off + k) vs := by
  induction vs with
  | nil => intro k cur off; rfl
  | cons v l ih => intro k cur off; simp only [List.zipIdx_cons, List.foldl_cons, setMany]; rw [ih]; simp [Nat.add_assoc]
theorem fillL_fill {place : Nat → Option (Nat × Nat)} : ∀ {rest : List (Nat × Value)} {cs r : List Value}, fillL place cs rest = some r →
    Instr.fill place (cs.map (ren ρ)).toArray (rest.map fun (i, v) => (i, ren ρ v)) = some (r.map (ren ρ)).toArray ∧ r.length = cs.length
  | [], cs, r, h => by
    simp only [fillL] at h
    injection h with h
    subst h
    exact ⟨rfl, rfl⟩
  | (i, v) :: rest, cs, r, h => by
    simp only [fillL] at h
    split at h
    · cases h
    · rename_i off size hp
      split at h
      · rename_i hc
        simp only [Bool.and_eq_true] at hc
        have h1 := Nat.eq_of_beq_eq_true hc.1
        have h2 := Nat.le_of_ble_eq_true hc.2
        obtain ⟨h3, h4⟩ := fillL_fill h
        refine ⟨?_, by rw [h4, setL_length]⟩
        simp only [List.map_cons, Instr.fill, hp]
        have hsz : (ren ρ v).cells.size = size := by rw [cells_ren]; simpa using h1
        rw [if_neg (by simp [hsz]; omega)]
        rw [← h3]
        congr 1
        have : (ren ρ v).cells = (v.cells.toList.map (ren ρ)).toArray := by rw [cells_ren]; apply Array.ext'; simp
        rw [this]
        have e := foldl_setMany (v.cells.toList.map (ren ρ)) 0 (cs.map (ren ρ)).toArray off
        rw [Nat.add_zero, setMany_map] at e
        rw [← e]
        simp [← Array.foldl_toList]
      · cases h
def sizesOf (P : Program) : List Field → Option (List (Nat × Nat))
  | [] => some []
  | f :: fs =>
    match P.info? f.type, sizesOf P fs with
    | some i, some r => some ((f.offset, i.size) :: r)
    | _, _ => none
theorem sizesOf_mapM (w : World) : ∀ {fs : List Field} {r : List (Nat × Nat)}, sizesOf P fs = some r → (fs.mapM (m := Sem) fun f => do pure (f.offset, ← sizeOf f.type)).run P w = .ok r w
  | [], r, h => by
    simp only [sizesOf] at h
    injection h with h
    subst h
    simp
  | f :: fs, r, h => by
    simp only [sizesOf] at h
    split at h
    · rename_i i r' hi hr
      injection h with h
      subst h
      have ih := sizesOf_mapM w hr
      simp [sizeOf, typeInfo, hi] at ih ⊢
      simp [ih]
    · cases h
def opBuild (P : Program) (σ : SS R) (t : TypeId) (parts : List (Nat × Operand)) : Option (Out R) :=
  match P.info? t, P.underlying t, evParts σ.tm parts with
  | some i, some (.struct ⟨fs⟩), some ps =>
    match i.zero, sizesOf P fs with
    | some z, some sz =>
      if flatL z.cells.toList then
        match fillL (fun k => sz[k]?) z.cells.toList ps with
        | some cs => some (quietOut σ True (.agg ⟨cs⟩) none [])
        | none => none
      else none
    | _, _ => none
  | _, _, _ => none
theorem opBuild_ok {σ : SS R} {o : Oper} {t : TypeId} {parts : Array (Nat × Operand)} {x : Out R} (ho : o.op = .build t parts) (h : opBuild P σ t parts.toList = some x) : OpOk D P o σ x := by
  unfold opBuild at h
  split at h
  · rename_i i fs ps hi hu hps
    split at h
    · rename_i z sz hz hsz
      split at h
      · rename_i hf
        split at h
        · rename_i cs hcs
          injection h with h
          subst h
          refine quiet_ok (fun C ρ ft a w ht hli hm _ => ?_) (fun hli c hc => by cases hc)
          obtain ⟨h1, h2⟩ := evParts_map ht hps
          obtain ⟨h3, h4⟩ := fillL_fill (ρ := ρ) hcs
          rw [flat_map hf] at h3
          have hpl : (parts.map fun (i, y) => (i, a.eval y)).toList = ps.map fun (i, v) => (i, ren ρ v) := by
            rw [Array.toList_map]; exact h1
          have hm2 := sizesOf_mapM w hsz
          have hm3 : ((⟨fs⟩ : Array Field).mapM (m := Sem) fun f => do pure (f.offset, ← sizeOf f.type)).run P w = .ok ⟨sz⟩ w := by
            rw [Array.mapM_eq_mapM_toList, Sem.run_map, hm2]
            simp
          have hplace : (fun (k : Nat) => (⟨sz⟩ : Array (Nat × Nat))[k]?) = fun (k : Nat) => sz[k]? := by funext k; simp
          simp only [execOp, ho, Instr.build, zeroValue, typeInfo, Sem.run_bind, run_program, Result.andThen_ok, hi, Sem.run_pure, hz, run_underlying hu, hm3, hpl, hplace]
          simp only [Array.toArray_toList] at h3
          rw [h3, ren_agg]
          simp
        · cases h
      · cases h
    · cases h
  · cases h
end
end Go.Proofs.Ytloibbakklenbaa.Rx
