/- Symbolic runs: loads, stores, elements of rows. Nothing of the program. -/
import Derived.Test.YtloibbakklenbaaRxMem
namespace Go.Proofs.Ytloibbakklenbaa.Rx
open Go.RowKit Go.Proofs.Ytloibbakklenbaa.State
set_option linter.unusedVariables false
set_option linter.unusedSimpArgs false
section
variable {R : Type} {D : Res R} {P : Program} {C : Ctx} {ρ : Env} {ft : Nat → Nat → Prop} {w w' : World}
/-- the address of an element -/
def opIndexAddr (P : Program) (σ : SS R) (t : TypeId) (y z : Operand) : Option (Out R) :=
  match ev σ.tm y, ev σ.tm z with
  | some (.slice (some ⟨i, e0, some q⟩) n _), some (.int _ j) =>
    match P.underlying t with
    | some (.slice el) =>
      match P.info? el, σ.hp[i]? with
      | some inf, some (some (.inr (.inl (_, r)))) =>
        if Nat.beq (q % 1000000) (1000 * inf.size) && Nat.beq inf.size r.tm.length then
          some (quietOut σ (0 ≤ j ∧ j < n ∧ e0 + n ≤ r.n) (.pointer (some ⟨i, e0 + j.toNat, some (1000 * inf.size)⟩)) none [])
        else none
      | some inf, some (some (.inr (.inr (.inl r)))) =>
        if Nat.beq (q % 1000000) (1000 * inf.size) && Nat.beq inf.size r.tm.length then
          some (quietOut σ (0 ≤ j ∧ j < n ∧ e0 + n ≤ r.n) (.pointer (some ⟨i, e0 + j.toNat, some (1000 * inf.size)⟩)) none [])
        else none
      | _, _ => none
    | _ => none
  | _, _ => none
theorem cap_row {i : Nat} {h : Hp R} {t : TypeId} {r : Row} (hm : HM D C ρ ft h w) (hi : h[i]? = some (some (.inr (.inl (t, r))))) : r.n ≤ (ρ i).cap := (hm.at_ i _ hi).1.2.2.1
theorem cap_view {i : Nat} {h : Hp R} {r : Row} (hm : HM D C ρ ft h w) (hi : h[i]? = some (some (.inr (.inr (.inl r))))) : r.n ≤ (ρ i).cap := (hm.at_ i _ hi).1.2.2.1
theorem indexAddr_run {σ : SS R} {o : Oper} {t el : TypeId} {y z : Operand} {i e0 q n c : Nat} {k : IntKind} {j : Int} {inf : TypeInfo} {N : Nat} (ho : o.op = .indexAddr t y z)
    (ha : ev σ.tm y = some (.slice (some ⟨i, e0, some q⟩) n c)) (hb : ev σ.tm z = some (.int k j)) (hu : P.underlying t = some (.slice el)) (hi : P.info? el = some inf)
    (hq : q % 1000000 = 1000 * inf.size) {ac : Act} (ht : TM ρ σ.hp.length σ.tm ac) (hv : 0 ≤ j ∧ j < n ∧ e0 + n ≤ N) (hcap : N ≤ (ρ i).cap) (hnil : (ρ i).nil = true → (ρ i).cap = 0) :
    (execOp ac.eval o).run P w = .ok (.value (ren ρ (.pointer (some ⟨i, e0 + j.toNat, some (1000 * inf.size)⟩)))) w := by
  have h1 := (ev_eval ht ha).1
  have h2 := (ev_eval ht hb).1
  obtain ⟨v0, v1, v2⟩ := hv
  have hne : ¬ (q / 1000000 ≠ 0 ∧ (ρ i).cap ≤ e0) := fun h => by omega
  have hnn : ¬ (ρ i).nil = true := fun h => by have := hnil h; omega
  simp only [ren, renS, if_neg hne, if_neg hnn] at h1
  simp only [ren_int] at h2
  have hsz : 1000 * inf.size % 1000000 = 1000 * inf.size := by rw [← hq]; omega
  simp only [execOp, ho, h1, h2, Instr.indexAt, asIntOf, Sem.run_bind, Sem.run_pure, Result.andThen_ok, run_underlying hu, Sem.run_ite]
  have hc : (0 ≤ j ∧ j < (n : Int)) := ⟨v0, v1⟩
  have hd1 : q % 1000000 / 1000 = inf.size := by omega
  have hd2 : q % 1000 = 0 := by omega
  have hd3 : 1000 * inf.size % 1000000 / 1000 = inf.size := by omega
  have hd4 : 1000 * inf.size % 1000 = 0 := by omega
  simp only [hc, and_self, if_true, sizeOf, typeInfo, Sem.run_bind, run_program, Result.andThen_ok, hi, Sem.run_pure, ren, renA, add_at, cellOf, hd1, hd2, hd3, hd4, Nat.add_zero]
  simp [Nat.add_mul, Nat.add_assoc]
theorem opIndexAddr_ok {σ : SS R} {o : Oper} {t : TypeId} {y z : Operand} {x : Out R} (ho : o.op = .indexAddr t y z) (h : opIndexAddr P σ t y z = some x) : OpOk D P o σ x := by
  unfold opIndexAddr at h
  split at h
  · rename_i i e0 q n c k j ha hb
    split at h
    · rename_i el hu
      split at h
      · rename_i inf t' r hi hr
        split at h
        · rename_i hc
          simp only [Bool.and_eq_true] at hc
          have hq := Nat.eq_of_beq_eq_true hc.1
          injection h with h
          subst h
          exact quiet_ok (fun C ρ ft ac w ht hli hm hv => indexAddr_run ho ha hb hu hi hq ht hv (cap_row hm hr) (hm.at_ i _ hr).1.2.2.2.2.1) (fun hli c hc => by cases hc)
        · cases h
      · rename_i inf r hi hr
        split at h
        · rename_i hc
          simp only [Bool.and_eq_true] at hc
          have hq := Nat.eq_of_beq_eq_true hc.1
          injection h with h
          subst h
          exact quiet_ok (fun C ρ ft ac w ht hli hm hv => indexAddr_run ho ha hb hu hi hq ht hv (cap_view hm hr) (hm.at_ i _ hr).1.2.2.2.2.1) (fun hli c hc => by cases hc)
        · cases h
      · cases h
    · cases h
  · cases h
/-- the fields f, f + 1, .. of element e -/
def rowCells (tm : List Value) (cols : List Col) (e : Nat) : Nat → Nat → Option (List Value)
  | _, 0 => some []
  | f, m + 1 =>
    match tm[f]?, cols[f]? with
    | some t, some c => (rowCells tm cols e (f + 1) m).map (cellVal t c e :: ·)
    | _, _ => none
theorem rowCells_get {tm : List Value} {cols : List Col} {e : Nat} : ∀ {m f : Nat} {l : List Value}, rowCells tm cols e f m = some l → l.length = m ∧ ∀ (j : Nat) (v : Value), l[j]? = some v → ∃ t c, tm[f + j]? = some t ∧ cols[f + j]? = some c ∧ v = cellVal t c e
  | 0, f, l, h => by
    simp only [rowCells] at h
    injection h with h
    subst h
    exact ⟨rfl, fun j v hv => by simp at hv⟩
  | m + 1, f, l, h => by
    simp only [rowCells] at h
    split at h
    · rename_i t c ht hc
      cases hr : rowCells tm cols e (f + 1) m with
      | none => rw [hr] at h; cases h
      | some l' =>
        rw [hr] at h
        simp only [Option.map_some, Option.some.injEq] at h
        subst h
        obtain ⟨h1, h2⟩ := rowCells_get hr
        refine ⟨by simp [h1], fun j v hv => ?_⟩
        cases j with
        | zero =>
          simp only [List.getElem?_cons_zero, Option.some.injEq] at hv
          exact ⟨t, c, ht, hc, hv.symm⟩
        | succ j =>
          simp only [List.getElem?_cons_succ] at hv
          obtain ⟨t', c', g1, g2, g3⟩ := h2 j v hv
          exact ⟨t', c', by rw [show f + (j + 1) = f + 1 + j by omega]; exact g1, by rw [show f + (j + 1) = f + 1 + j by omega]; exact g2, g3⟩
    · cases h
theorem cellVal_flat {t : Value} {c : Col} {n : Nat} (h : colOk t c n) (e : Nat) : flat (cellVal t c e) = true := by
  cases t <;> simp only [cellVal, flat] <;> exact h.1
theorem cellVal_one {t : Value} {c : Col} {n : Nat} (h : colOk t c n) (e : Nat) : (cellVal t c e).oneCell' = true := by
  cases t <;> simp only [cellVal, Value.oneCell'] <;> exact h.2
def rowOf (x : Option (Option (SB R))) : Option Row :=
  match x with
  | some (some (.inr (.inl (_, r)))) => some r
  | some (some (.inr (.inr (.inl r)))) => some r
  | _ => none
/-- a row, of its own or only read, reads so -/
theorem row_reads {h : Hp R} {i : Nat} {r : Row} (hm : HM D C ρ ft h w) (hr : rowOf h[i]? = some r) :
    r.n ≤ (ρ i).cap ∧ (ρ i).cap ≤ maxLen ∧ 0 < r.tm.length ∧ r.cols.length = r.tm.length ∧ (∀ (f : Nat) (t : Value) (c : Col), r.tm[f]? = some t → r.cols[f]? = some c → colOk t c r.n) ∧
      ∀ (f : Nat) (t : Value) (c : Col) (e : Nat), r.tm[f]? = some t → r.cols[f]? = some c → e < r.n → w.cell? ⟨(ρ i).blk, (ρ i).off + (e * r.tm.length + f), none⟩ = some (cellVal t c e) := by
  unfold rowOf at hr
  split at hr
  · rename_i t0 r0 hi
    injection hr with hr
    subst hr
    obtain ⟨h1, h2, h3, h4, h4', arr, h5, h7⟩ := (hm.at_ i _ hi).1
    refine ⟨h3, h4, h2, h7.len, h7.col, fun f t c e g1 g2 g3 => ?_⟩
    have hn : (ρ i).nil = false := by
      cases hq : (ρ i).nil with
      | false => rfl
      | true => have := h4' hq; omega
    rw [cell_of_row w _ _ arr _ _ (h5 hn).1]
    exact h7.cell f t c e g1 g2 g3
  · rename_i r0 hi
    injection hr with hr
    subst hr
    obtain ⟨h1, h2, h3, h4, h4', arr, h5, h8⟩ := (hm.at_ i _ hi).1
    refine ⟨h3, h4, h2, h8.len, h8.col, fun f t c e g1 g2 g3 => ?_⟩
    have hn : (ρ i).nil = false := by
      cases hq : (ρ i).nil with
      | false => rfl
      | true => have := h4' hq; omega
    obtain ⟨h5, h6, t0, fz, h7⟩ := h5 hn (by omega)
    rw [cell_of_row w _ _ arr t0 fz (by rw [hm.kept.block _ h5 h6]; exact h7)]
    exact h8.cell f t c e g1 g2 g3
  · cases hr
theorem cells_reads {h : Hp R} {i : Nat} {t : TypeId} {cs : List Value} (hm : HM D C ρ ft h w) (hi : h[i]? = some (some (.inl (t, cs)))) (j : Nat) :
    w.cell? ⟨(ρ i).blk, (ρ i).off + j, none⟩ = cs[j]?.map (ren ρ) := by
  obtain ⟨h1, h2, h3⟩ := (hm.at_ i _ hi).1
  rw [cell_of_row w _ _ _ _ _ h3, h1, Nat.zero_add]
  simp
def locs (i f : Nat) : Nat → List (Nat × Nat)
  | 0 => []
  | m + 1 => (i, f + 1) :: locs i (f + 1) m
def opLoad (P : Program) (σ : SS R) (t : TypeId) (y : Operand) : Option (Out R) :=
  match ev σ.tm y with
  | some (.pointer (some ⟨i, e, none⟩)) =>
    match σ.hp[i]? with
    | some (some (.inl (_, cs))) =>
      match aggOf P t with
      | some none => match cs[e]? with
        | some v => some (quietOut σ True v none [(i, e + 1)])
        | none => none
      | some (some n) => if Nat.ble (e + n) cs.length then some (quietOut σ True (.agg ⟨(cs.drop e).take n⟩) none (locs i e n)) else none
      | none => none
    | _ => none
  | some (.pointer (some ⟨i, e, some q⟩)) =>
    match rowOf σ.hp[i]? with
    | some r =>
      if Nat.beq (q / 1000) r.tm.length && Nat.blt q 1000000 then
        match aggOf P t with
        | some none => match rowCells r.tm r.cols e (q % 1000) 1 with
          | some [v] => some (quietOut σ (e < r.n) v none [(i, q % 1000 + 1)])
          | _ => none
        | some (some n) => match rowCells r.tm r.cols e (q % 1000) n with
          | some l => some (quietOut σ (e < r.n) (.agg ⟨l⟩) none (locs i (q % 1000) n))
          | none => none
        | none => none
      else none
    | none => none
  | _ => none
theorem loadVar_agg {t : TypeId} {a : Addr} {cs : List Value} (ha : aggOf P t = some (some cs.length)) (h : ∀ (j : Nat) (v : Value), cs[j]? = some v → w.cell? (a.add j) = some v) : (loadVar t a).run P w = .ok (.agg ⟨cs⟩) w := by
  obtain ⟨g1, g2⟩ := aggOf_some ha w
  have hl := run_loadCells_list (P := P) w a cs h
  simp only [loadVar, Sem.run_bind, g1, Result.andThen_ok, if_true, g2, hl, Sem.run_pure]
theorem loadVar_one {t : TypeId} {a : Addr} {v : Value} (ha : aggOf P t = some none) (h : w.cell? a = some v) : (loadVar t a).run P w = .ok v w := by
  have g1 := aggOf_none ha w
  simp only [loadVar, Sem.run_bind, g1, Result.andThen_ok, Bool.false_eq_true, if_false, run_load, h]
theorem opLoad_ok {σ : SS R} {o : Oper} {t : TypeId} {y : Operand} {x : Out R} (ho : o.op = .load t y) (h : opLoad P σ t y = some x) : OpOk D P o σ x := by
  unfold opLoad at h
  split at h
  · rename_i i e ha
    split at h
    · rename_i t' cs hi
      split at h
      · rename_i hg
        split at h
        · rename_i v hv
          injection h with h
          subst h
          refine quiet_ok (fun C ρ ft ac w ht hli hm _ => ?_) (fun hli c hc => by cases hc)
          have h1 := (ev_eval ht ha).1
          simp only [ren, renA, cellOf] at h1
          have hc := cells_reads hm hi e
          rw [hv] at hc
          simp [execOp, ho, h1, Instr.loadAt, Instr.sureAddr, loadVar_one hg hc]
        · cases h
      · rename_i n hg
        split at h
        · rename_i hle
          have hle := Nat.le_of_ble_eq_true hle
          injection h with h
          subst h
          refine quiet_ok (fun C ρ ft ac w ht hli hm _ => ?_) (fun hli c hc => by cases hc)
          have h1 := (ev_eval ht ha).1
          simp only [ren, renA, cellOf] at h1
          have hl : (((cs.drop e).take n).map (ren ρ)).length = n := by simp; omega
          have hld : (loadVar t ⟨(ρ i).blk, (ρ i).off + e, none⟩).run P w = .ok (.agg ⟨((cs.drop e).take n).map (ren ρ)⟩) w := by
            refine loadVar_agg (by rw [hl]; exact hg) (fun j v hv => ?_)
            rw [add_at, Nat.add_assoc, cells_reads hm hi]
            have hj : j < n := by have := (List.getElem?_eq_some_iff.1 hv).1; omega
            simp only [List.getElem?_map, List.getElem?_take, hj, if_true, List.getElem?_drop] at hv
            exact hv
          simp only [execOp, ho, h1, Instr.loadAt, Instr.sureAddr, Sem.run_bind, Sem.run_pure, Result.andThen_ok, hld, ren_agg]
          congr 3
          simp
        · cases h
      · cases h
    · cases h
  · rename_i i e q ha
    split at h
    · rename_i r hr
      split at h
      · rename_i hc
        simp only [Bool.and_eq_true, Nat.blt_eq] at hc
        have hq := Nat.eq_of_beq_eq_true hc.1
        have hq2 := hc.2
        have key : ∀ (C : Ctx) (ρ : Env) (ft : Nat → Nat → Prop) (ac : Act) (w : World), TM ρ σ.hp.length σ.tm ac → HM D C ρ ft σ.hp w → e < r.n →
            ac.eval y = .pointer (some ⟨(ρ i).blk, (ρ i).off + (e * r.tm.length + q % 1000), none⟩) ∧
            ∀ (m : Nat) (l : List Value), rowCells r.tm r.cols e (q % 1000) m = some l → (∀ (j : Nat) (v : Value), l[j]? = some v → w.cell? ((⟨(ρ i).blk, (ρ i).off + (e * r.tm.length + q % 1000), none⟩ : Addr).add j) = some v) ∧ ∀ v ∈ l, flat v = true := by
          intro C ρ ft ac w ht hm he
          have h1 := (ev_eval ht ha).1
          have e1 : q % 1000000 / 1000 = r.tm.length := by omega
          simp only [ren, renA, cellOf, e1] at h1
          obtain ⟨_, _, _, _, g4, g5⟩ := row_reads hm hr
          refine ⟨h1, fun m l hl => ?_⟩
          obtain ⟨k1, k2⟩ := rowCells_get hl
          refine ⟨fun j v hv => ?_, fun v hv => ?_⟩
          · obtain ⟨t, c, q1, q2, rfl⟩ := k2 j v hv
            rw [add_at, Nat.add_assoc, Nat.add_assoc]
            exact g5 _ _ _ _ q1 q2 he
          · obtain ⟨j, hj⟩ := List.getElem?_of_mem hv
            obtain ⟨t, c, q1, q2, rfl⟩ := k2 j v hj
            exact cellVal_flat (g4 _ _ _ q1 q2) e
        split at h
        · rename_i hg
          split at h
          · rename_i v hv
            injection h with h
            subst h
            refine quiet_ok (fun C ρ ft ac w ht hli hm he => ?_) (fun hli c hc => by cases hc)
            obtain ⟨h1, h2⟩ := key C ρ ft ac w ht hm he
            obtain ⟨h3, h4⟩ := h2 _ _ hv
            have h5 := h3 0 v (by simp)
            rw [add_at, Nat.add_zero] at h5
            rw [flat_ren v (h4 v (by simp))]
            simp [execOp, ho, h1, Instr.loadAt, Instr.sureAddr, loadVar_one hg h5]
          · cases h
        · rename_i n hg
          split at h
          · rename_i l hl
            injection h with h
            subst h
            refine quiet_ok (fun C ρ ft ac w ht hli hm he => ?_) (fun hli c hc => by cases hc)
            obtain ⟨h1, h2⟩ := key C ρ ft ac w ht hm he
            obtain ⟨h3, h4⟩ := h2 _ _ hl
            have hn := (rowCells_get hl).1
            have hld := loadVar_agg (P := P) (t := t) (by rw [hn]; exact hg) h3
            rw [flat_ren (.agg ⟨l⟩) (by simpa [flat] using flatL_iff.2 h4)]
            simp only [execOp, ho, h1, Instr.loadAt, Instr.sureAddr, Sem.run_bind, Sem.run_pure, Result.andThen_ok, hld]
          · cases h
        · cases h
      · cases h
    · cases h
  · cases h
/-- several cells from k on -/
def setMany (cur : Array Value) : Nat → List Value → Array Value
  | _, [] => cur
  | k, v :: l => setMany (cur.setIfInBounds k v) (k + 1) l
def setL (cs : List Value) : Nat → List Value → List Value
  | _, [] => cs
  | k, v :: l => setL (cs.set k v) (k + 1) l
theorem setMany_map (cs : List Value) : ∀ (k : Nat) (l : List Value), setMany (cs.map (ren ρ)).toArray k (l.map (ren ρ)) = ((setL cs k l).map (ren ρ)).toArray
  | _, [] => rfl
  | k, v :: l => by
    simp only [List.map_cons, setMany, setL]
    have : (cs.map (ren ρ)).toArray.setIfInBounds k (ren ρ v) = ((cs.set k v).map (ren ρ)).toArray := by simp
    rw [this]
    exact setMany_map (cs.set k v) (k + 1) l
theorem setMany_size (cur : Array Value) : ∀ (k : Nat) (l : List Value), (setMany cur k l).size = cur.size
  | _, [] => rfl
  | k, v :: l => by rw [setMany, setMany_size]; simp
theorem setL_length (cs : List Value) : ∀ (k : Nat) (l : List Value), (setL cs k l).length = cs.length
  | _, [] => rfl
  | k, v :: l => by rw [setL, setL_length]; simp
theorem setL_inb {n : Nat} {cs : List Value} : ∀ (k : Nat) (l : List Value), inbL n cs = true → inbL n l = true → inbL n (setL cs k l) = true
  | _, [], h, _ => h
  | k, v :: l, h, hl => by
    simp only [inbL, Bool.and_eq_true] at hl
    refine setL_inb (k + 1) l ?_ hl.2
    rw [inbL_iff] at h ⊢
    intro u hu
    rcases List.mem_or_eq_of_mem_set hu with hu | rfl
    · exact h u hu
    · exact hl.1
theorem run_storeMany (g o : Nat) (t : TypeId) : ∀ (vs : List Value) (i : Nat) (cur : Array Value) (w : World), w.heap[g]? = some (.cells cur t (0, 0)) → o + i + vs.length ≤ cur.size → (∀ v ∈ vs, v.oneCell' = true) →
    (storeCells ⟨g, o, none⟩ vs i).run P w = .ok () (w.setRow g (setMany cur (o + i) vs))
  | [], i, cur, w, hg, _, _ => by
    simp only [storeCells, setMany]
    rw [setRow_self w g cur t (0, 0) hg]
    rfl
  | v :: rest, i, cur, w, hg, hl, h1 => by
    have hi : o + i < cur.size := by simp at hl; omega
    have hcell : w.cell? ⟨g, o + i, none⟩ = some cur[o + i] := by simp [World.cell?, hg, hi]
    have hfro : w.frozen? ⟨g, o + i, none⟩ = false := by simp [World.frozen?, hg]
    have hst : (store ((⟨g, o, none⟩ : Addr).add i) v).run P w = .ok () (w.setRow g (cur.setIfInBounds (o + i) v)) := by
      rw [add_at, run_store P w _ v _ (h1 v (by simp)), hcell]
      simp [hfro, setCell_eq_setRow w g (o + i) cur t (0, 0) v hg]
    have ih := run_storeMany g o t rest (i + 1) (cur.setIfInBounds (o + i) v) (w.setRow g (cur.setIfInBounds (o + i) v)) (setRow_heap w g cur _ t _ hg) (by simp at hl ⊢; omega) (fun x hx => h1 x (by simp [hx]))
    simp only [storeCells, Sem.run_bind, hst, Result.andThen_ok, ih, setRow_setRow, setMany, Nat.add_assoc]
theorem kept_setRow (w : World) (g : Nat) (cs : Array Value) {F : Nat → Prop} (hF : F g) : Kept F w (w.setRow g cs) :=
  ⟨rfl, rfl, rfl, by simp [World.setRow], fun k _ hn => setRow_other w g k cs (fun e => hn (e ▸ hF))⟩
def oneL : List Value → Bool
  | [] => true
  | v :: l => v.oneCell' && oneL l
theorem oneL_mem {l : List Value} (h : oneL l = true) : ∀ v ∈ l, v.oneCell' = true := by
  induction l with
  | nil => intro v hv; cases hv
  | cons u l ih =>
    simp only [oneL, Bool.and_eq_true] at h
    intro v hv
    rcases List.mem_cons.1 hv with rfl | hv
    · exact h.1
    · exact ih h.2 v hv
/-- a value in one cell of an element -/
def setCol (t : Value) (c : Col) (e : Nat) (v : Value) : Option Col :=
  match t, v with
  | .int k _, .int k' x => if k = k' then some { c with i := c.i.set e x } else none
  | .bool _, .bool x => some { c with b := c.b.set e x }
  | .string _, .string x => some { c with s := c.s.set e x }
  | _, _ => none
def setCols (tm : List Value) (cols : List Col) (e : Nat) : Nat → List Value → Option (List Col)
  | _, [] => some cols
  | f, v :: l =>
    match tm[f]?, cols[f]? with
    | some t, some c => match setCol t c e v with
      | some c' => setCols tm (cols.set f c') e (f + 1) l
      | none => none
    | _, _ => none
theorem setCol_ok {t : Value} {c c' : Col} {e n : Nat} {v : Value} (h : setCol t c e v = some c') (hc : colOk t c n) (he : e < n) :
    colOk t c' n ∧ flat v = true ∧ v.oneCell' = true ∧ ∀ e', e' < n → cellVal t c' e' = if e' = e then v else cellVal t c e' := by
  unfold setCol at h
  split at h
  · split at h
    · rename_i k _ k' x hk
      subst hk
      injection h with h
      subst h
      refine ⟨by simpa [colOk] using hc, rfl, rfl, fun e' he' => ?_⟩
      simp only [colOk] at hc
      simp only [cellVal, List.getD_eq_getElem?_getD, List.getElem?_set]
      by_cases heq : e = e'
      · subst heq; simp [hc, he]
      · simp [heq, Ne.symm heq, fun h => heq (Eq.symm h)]
    · cases h
  · injection h with h
    subst h
    refine ⟨by simpa [colOk] using hc, rfl, rfl, fun e' he' => ?_⟩
    simp only [colOk] at hc
    simp only [cellVal, List.getD_eq_getElem?_getD, List.getElem?_set]
    by_cases heq : e = e'
    · subst heq; simp [hc, he]
    · simp [heq, Ne.symm heq, fun h => heq (Eq.symm h)]
  · injection h with h
    subst h
    refine ⟨by simpa [colOk] using hc, rfl, rfl, fun e' he' => ?_⟩
    simp only [colOk] at hc
    simp only [cellVal, List.getD_eq_getElem?_getD, List.getElem?_set]
    by_cases heq : e = e'
    · subst heq; simp [hc, he]
    · simp [heq, Ne.symm heq, fun h => heq (Eq.symm h)]
  · cases h
/-- two places of a row -/
theorem place_eq {s e e' f f' : Nat} (hf : f < s) (hf' : f' < s) (h : e * s + f = e' * s + f') : e = e' ∧ f = f' := by
  have h1 : (e * s + f) / s = e := by rw [Nat.add_comm, Nat.add_mul_div_right _ _ (by omega), Nat.div_eq_of_lt hf, Nat.zero_add]
  have h2 : (e' * s + f') / s = e' := by rw [Nat.add_comm, Nat.add_mul_div_right _ _ (by omega), Nat.div_eq_of_lt hf', Nat.zero_add]
  have : e = e' := by rw [← h1, ← h2, h]
  subst this
  exact ⟨rfl, by omega⟩
theorem setCol_row {r : Row} {arr : Array Value} {o e f : Nat} {t : Value} {c c' : Col} {v : Value} (hr : RowIn r arr o) (ht : r.tm[f]? = some t) (hc : r.cols[f]? = some c) (he : e < r.n)
    (hs : setCol t c e v = some c') : RowIn { r with cols := r.cols.set f c' } (arr.setIfInBounds (o + (e * r.tm.length + f)) v) o := by
  obtain ⟨k1, k2, k3, k4⟩ := setCol_ok hs (hr.col f t c ht hc) he
  have hfl : f < r.tm.length := (List.getElem?_eq_some_iff.1 ht).1
  have hcl : f < r.cols.length := (List.getElem?_eq_some_iff.1 hc).1
  refine ⟨by simpa using hr.len, fun f' t' c1 h1 h2 => ?_, fun f' t' c1 e' h1 h2 h3 => ?_⟩
  · simp only at h1 h2
    by_cases hff : f = f'
    · subst hff
      rw [ht] at h1; injection h1 with h1; subst h1
      rw [List.getElem?_set_self hcl] at h2; injection h2 with h2; subst h2
      exact k1
    · rw [List.getElem?_set_ne hff] at h2
      exact hr.col f' t' c1 h1 h2
  · simp only at h1 h2 h3 ⊢
    have hfl' : f' < r.tm.length := (List.getElem?_eq_some_iff.1 h1).1
    rw [Array.getElem?_setIfInBounds]
    have hold := hr.cell f' t'
    by_cases hff : f = f'
    · subst hff
      rw [ht] at h1; injection h1 with h1; subst h1
      rw [List.getElem?_set_self hcl] at h2; injection h2 with h2; subst h2
      rw [k4 e' h3]
      have h5 := hr.cell f t c e' ht hc h3
      have hlt : o + (e' * r.tm.length + f) < arr.size := (Array.getElem?_eq_some_iff.1 h5).1
      by_cases hee : e' = e
      · subst hee
        simp [hlt]
      · rw [if_neg hee, if_neg (fun hh => hee (place_eq hfl hfl (by omega : e' * r.tm.length + f = e * r.tm.length + f)).1)]
        exact h5
    · rw [List.getElem?_set_ne hff] at h2
      rw [if_neg (fun hh => hff (place_eq hfl hfl' (by omega : e * r.tm.length + f = e' * r.tm.length + f')).2)]
      exact hr.cell f' t' c1 e' h1 h2 h3
theorem setCols_row {tm : List Value} {n o e : Nat} (he : e < n) : ∀ {vs : List Value} {f : Nat} {cols cols' : List Col} {arr : Array Value}, RowIn ⟨tm, n, cols⟩ arr o → setCols tm cols e f vs = some cols' →
    RowIn ⟨tm, n, cols'⟩ (setMany arr (o + (e * tm.length + f)) vs) o ∧ (∀ v ∈ vs, flat v = true ∧ v.oneCell' = true) ∧ (vs = [] ∨ f + vs.length ≤ tm.length)
  | [], f, cols, cols', arr, hr, h => by
    simp only [setCols] at h
    injection h with h
    subst h
    exact ⟨hr, (fun v hv => by cases hv), Or.inl rfl⟩
  | v :: l, f, cols, cols', arr, hr, h => by
    simp only [setCols] at h
    split at h
    · rename_i t c ht hc
      split at h
      · rename_i c' hs
        obtain ⟨h1, h2, h3⟩ := setCols_row (tm := tm) (n := n) (o := o) (e := e) he (f := f + 1) (setCol_row hr ht hc he hs) h
        obtain ⟨_, k2, k3, _⟩ := setCol_ok hs (hr.col f t c ht hc) he
        have hfl : f < tm.length := (List.getElem?_eq_some_iff.1 ht).1
        refine ⟨h1, fun u hu => ?_, Or.inr ?_⟩
        · rcases List.mem_cons.1 hu with rfl | hu
          · exact ⟨k2, k3⟩
          · exact h2 u hu
        · rcases h3 with rfl | h3
          · simp only [List.length_cons, List.length_nil]; omega
          · simp only [List.length_cons]; omega
      · cases h
    · cases h
def opStore (P : Program) (σ : SS R) (t : TypeId) (y z : Operand) : Option (Out R) :=
  match ev σ.tm y, ev σ.tm z with
  | some (.pointer (some ⟨i, e, none⟩)), some v =>
    match σ.hp[i]?, P.info? t with
    | some (some (.inl (ty, cs))), some inf =>
      if Nat.beq v.cells.toList.length inf.size && Nat.ble (e + inf.size) cs.length && oneL v.cells.toList then
        some ⟨True, undef, none, σ.hp.set i (some (.inl (ty, setL cs e v.cells.toList))), [], locs i e inf.size⟩
      else none
    | _, _ => none
  | some (.pointer (some ⟨i, e, some q⟩)), some v =>
    match σ.hp[i]?, P.info? t with
    | some (some (.inr (.inl (ty, r)))), some inf =>
      if Nat.beq v.cells.toList.length inf.size && Nat.beq (q / 1000) r.tm.length && Nat.blt q 1000000 && Nat.blt 0 inf.size then
        match setCols r.tm r.cols e (q % 1000) v.cells.toList with
        | some cols => some ⟨e < r.n, undef, none, σ.hp.set i (some (.inr (.inl (ty, { r with cols := cols })))), [], locs i (q % 1000) inf.size⟩
        | none => none
      else none
    | _, _ => none
  | _, _ => none
theorem cells_inb {n : Nat} {v : Value} (h : inb n v = true) : inbL n v.cells.toList = true := by
  cases v with
  | agg cs => obtain ⟨l⟩ := cs; simpa [inb, Value.cells] using h
  | _ => simp only [Value.cells, inbL, h]; rfl
theorem opStore_ok {σ : SS R} {o : Oper} {t : TypeId} {y z : Operand} {x : Out R} (ho : o.op = .store t y z) (hd : o.dst = none) (h : opStore P σ t y z = some x) : OpOk D P o σ x := by
  unfold opStore at h
  split at h
  · rename_i i e v ha hb
    split at h
    · rename_i ty cs inf hi hinf
      split at h
      · rename_i hc
        simp only [Bool.and_eq_true] at hc
        have hsz := Nat.eq_of_beq_eq_true hc.1.1
        have hle := Nat.le_of_ble_eq_true hc.1.2
        have hone := oneL_mem hc.2
        injection h with h
        subst h
        refine ⟨fun C ρ ft ac w K Q ht hli hm _ hK => ?_, by simp, fun _ b hb => by cases hb⟩
        have h1 := (ev_eval ht ha).1
        obtain ⟨h2, h2'⟩ := ev_eval ht hb
        simp only [ren, renA, cellOf] at h1
        obtain ⟨g1, g2, g3⟩ := (hm.at_ i _ hi).1
        have hvl : ((ren ρ v).cells.toList) = v.cells.toList.map (ren ρ) := by rw [cells_ren]; simp
        have hst := run_storeMany (P := P) (ρ i).blk e ty (v.cells.toList.map (ren ρ)) 0 _ w g3 (by have := hsz; simp only [Array.length_toList] at this; simp; omega) (fun u hu => by
          obtain ⟨u', hu', rfl⟩ := List.mem_map.1 hu
          rw [oneCell_ren]
          exact hone u' hu')
        simp only [Nat.add_zero] at hst
        rw [setMany_map] at hst
        have hrun : (execOp ac.eval o).run P w = .ok .skip (w.setRow (ρ i).blk ((setL cs e v.cells.toList).map (ren ρ)).toArray) := by
          have hsz2 : (ren ρ v).cells.size = inf.size := by rw [← Array.length_toList, hvl]; simpa using hsz
          simp only [execOp, ho, h1, h2, Instr.storeAt, Instr.sureAddr, storeVar, Sem.run_bind, Sem.run_pure, Result.andThen_ok, sizeOf, typeInfo, run_program, hinf, hsz2, ne_eq, not_true_eq_false, if_false, g1, Nat.zero_add, hvl, hst]
        refine wp_skip' hrun (hK ρ (upd ft i (ft i)) _ (fun _ _ => rfl) ?_)
        refine hm.put hi (kept_setRow _ _ _ ((g2 _).2 rfl)) _ _ ⟨g1, g2, setRow_heap w _ _ _ _ _ g3⟩ (setL_inb _ _ (hm.at_ i _ hi).2 (cells_inb h2')) (fun k hk => ⟨Or.inl hk, by simpa [World.setRow] using hm.lt i k hk⟩)
      · cases h
    · cases h
  · rename_i i e q v ha hb
    split at h
    · rename_i ty r inf hi hinf
      split at h
      · rename_i hc
        simp only [Bool.and_eq_true, Nat.blt_eq] at hc
        have hsz := Nat.eq_of_beq_eq_true hc.1.1.1
        have hq := Nat.eq_of_beq_eq_true hc.1.1.2
        have hq2 := hc.1.2
        have hq3 := hc.2
        split at h
        · rename_i cols hcols
          injection h with h
          subst h
          refine ⟨fun C ρ ft ac w K Q ht hli hm he hK => ?_, by simp, fun _ b hb => by cases hb⟩
          have h1 := (ev_eval ht ha).1
          obtain ⟨h2, h2'⟩ := ev_eval ht hb
          have e1 : q % 1000000 / 1000 = r.tm.length := by omega
          simp only [ren, renA, cellOf, e1] at h1
          obtain ⟨g1, g2, g3, g4, g4', arr, g56, g7⟩ := (hm.at_ i _ hi).1
          have hnn : (ρ i).nil = false := by
            cases hqq : (ρ i).nil with
            | false => rfl
            | true => have := g4' hqq; have : e < r.n := he; omega
          obtain ⟨g5, g6⟩ := g56 hnn
          obtain ⟨k1, k2, k3⟩ := setCols_row (tm := r.tm) (n := r.n) he (arr := arr) g7 hcols
          have hvl : ((ren ρ v).cells.toList) = v.cells.toList := by
            rw [cells_ren]
            rw [Array.toList_map]
            conv => rhs; rw [← List.map_id v.cells.toList]
            exact List.map_congr_left fun u hu => flat_ren u (k2 u hu).1
          have hfit : (ρ i).off + (e * r.tm.length + q % 1000) + 0 + v.cells.toList.length ≤ arr.size := by
            have hmul : (e + 1) * r.tm.length ≤ (ρ i).cap * r.tm.length := Nat.mul_le_mul_right _ (by have : e < r.n := he; omega)
            rw [Nat.add_mul, Nat.one_mul] at hmul
            rw [g6]
            rcases k3 with k3 | k3
            · rw [k3] at hsz; simp at hsz; omega
            · omega
          have hst := run_storeMany (P := P) (ρ i).blk ((ρ i).off + (e * r.tm.length + q % 1000)) ty v.cells.toList 0 arr w g5 hfit (fun u hu => (k2 u hu).2)
          simp only [Nat.add_zero] at hst
          have hrun : (execOp ac.eval o).run P w = .ok .skip (w.setRow (ρ i).blk (setMany arr ((ρ i).off + (e * r.tm.length + q % 1000)) v.cells.toList)) := by
            have hsz2 : (ren ρ v).cells.size = inf.size := by rw [← Array.length_toList, hvl]; exact hsz
            simp only [execOp, ho, h1, h2, Instr.storeAt, Instr.sureAddr, storeVar, Sem.run_bind, Sem.run_pure, Result.andThen_ok, sizeOf, typeInfo, run_program, hinf, hsz2, ne_eq, not_true_eq_false, if_false, hvl, hst]
          refine wp_skip' hrun (hK ρ (upd ft i (ft i)) _ (fun _ _ => rfl) ?_)
          exact hm.put hi (kept_setRow _ _ _ ((g1 _).2 ⟨hnn, rfl⟩)) _ _ ⟨g1, g2, g3, g4, g4', _, fun _ => ⟨setRow_heap w _ _ _ _ _ g5, by rw [setMany_size]; exact g6⟩, k1⟩ trivial (fun k hk => ⟨Or.inl hk, by simpa [World.setRow] using hm.lt i k hk⟩)
        · cases h
      · cases h
    · cases h
  · cases h
end
end Go.Proofs.Ytloibbakklenbaa.Rx
