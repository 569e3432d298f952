/- Symbolic runs: slices: literals, made ones, lengths, cuts, append. Nothing of the program. -/
import Derived.Test.YtloibbakklenbaaRxNew
namespace Go.Proofs.Ytloibbakklenbaa.Rx
open Go.RowKit Go.Proofs.Ytloibbakklenbaa.State
set_option linter.unusedVariables false
set_option linter.unusedSimpArgs false
section
variable {R : Type} {D : Res R} {P : Program} {C : Ctx} {ρ : Env} {ft : Nat → Nat → Prop} {w w' : World}
/-- a column out of its values -/
def takeCol (t : Value) : List Value → Option Col
  | [] => match t with
    | .int _ _ | .bool _ | .string _ => some noCol
    | _ => none
  | v :: l =>
    match t, v, takeCol t l with
    | .int k _, .int k' x, some c => if k = k' then some { c with i := x :: c.i } else none
    | .bool _, .bool x, some c => some { c with b := x :: c.b }
    | .string _, .string x, some c => some { c with s := x :: c.s }
    | _, _, _ => none
theorem takeCol_ok {t : Value} : ∀ {l : List Value} {c : Col}, takeCol t l = some c → colOk t c l.length ∧ ∀ (e : Nat), e < l.length → l[e]? = some (cellVal t c e)
  | [], c, h => by
    simp only [takeCol] at h
    split at h
    · injection h with h; subst h; exact ⟨rfl, fun e he => by simp at he⟩
    · injection h with h; subst h; exact ⟨rfl, fun e he => by simp at he⟩
    · injection h with h; subst h; exact ⟨rfl, fun e he => by simp at he⟩
    · cases h
  | v :: l, c, h => by
    simp only [takeCol] at h
    split at h
    · rename_i k _ k' x c' hc
      split at h
      · rename_i hk
        subst hk
        injection h with h
        subst h
        obtain ⟨h1, h2⟩ := takeCol_ok hc
        refine ⟨by simpa [colOk] using h1, fun e he => ?_⟩
        cases e with
        | zero => simp [cellVal]
        | succ e =>
          have := h2 e (by simpa using he)
          simpa [cellVal] using this
      · cases h
    · rename_i x c' hc
      injection h with h
      subst h
      obtain ⟨h1, h2⟩ := takeCol_ok hc
      refine ⟨by simpa [colOk] using h1, fun e he => ?_⟩
      cases e with
      | zero => simp [cellVal]
      | succ e =>
        have := h2 e (by simpa using he)
        simpa [cellVal] using this
    · rename_i x c' hc
      injection h with h
      subst h
      obtain ⟨h1, h2⟩ := takeCol_ok hc
      refine ⟨by simpa [colOk] using h1, fun e he => ?_⟩
      cases e with
      | zero => simp [cellVal]
      | succ e =>
        have := h2 e (by simpa using he)
        simpa [cellVal] using this
    · cases h
/-- each s-th of a list's cells, from f on -/
def stride (cells : List Value) (s f : Nat) : Nat → List Value
  | 0 => []
  | n + 1 => stride cells s f n ++ [(cells[n * s + f]?).getD undef]
theorem stride_get (cells : List Value) (s f : Nat) : ∀ (n : Nat), (stride cells s f n).length = n ∧ ∀ e, e < n → (stride cells s f n)[e]? = some ((cells[e * s + f]?).getD undef)
  | 0 => ⟨rfl, fun e he => by omega⟩
  | n + 1 => by
    obtain ⟨h1, h2⟩ := stride_get cells s f n
    refine ⟨by simp [stride, h1], fun e he => ?_⟩
    simp only [stride]
    rcases Nat.lt_or_ge e n with hlt | hge
    · rw [List.getElem?_append_left (by omega)]
      exact h2 e hlt
    · have : e = n := by omega
      subst this
      rw [List.getElem?_append_right (by omega), h1]
      simp
def takeCols (cells : List Value) (s n : Nat) : Nat → List Value → Option (List Col)
  | _, [] => some []
  | f, t :: tm =>
    match takeCol t (stride cells s f n), takeCols cells s n (f + 1) tm with
    | some c, some r => some (c :: r)
    | _, _ => none
theorem takeCols_ok {cells : List Value} {s n : Nat} : ∀ {tm : List Value} {f0 : Nat} {cols : List Col}, takeCols cells s n f0 tm = some cols →
    cols.length = tm.length ∧ ∀ (f : Nat) (t : Value) (c : Col), tm[f]? = some t → cols[f]? = some c → colOk t c n ∧ ∀ e, e < n → (cells[e * s + (f0 + f)]?).getD undef = cellVal t c e
  | [], f0, cols, h => by
    simp only [takeCols] at h
    injection h with h
    subst h
    exact ⟨rfl, fun f t c h1 h2 => by simp at h1⟩
  | t0 :: tm, f0, cols, h => by
    simp only [takeCols] at h
    split at h
    · rename_i c r hc hr
      injection h with h
      subst h
      obtain ⟨h1, h2⟩ := takeCols_ok hr
      refine ⟨by simp [h1], fun f t c' g1 g2 => ?_⟩
      cases f with
      | zero =>
        simp only [List.getElem?_cons_zero, Option.some.injEq] at g1 g2
        subst g1; subst g2
        obtain ⟨k1, k2⟩ := takeCol_ok hc
        obtain ⟨s1, s2⟩ := stride_get cells s f0 n
        rw [s1] at k1 k2
        refine ⟨k1, fun e he => ?_⟩
        have := k2 e he
        rw [s2 e he] at this
        exact Option.some.inj this
      | succ f =>
        simp only [List.getElem?_cons_succ] at g1 g2
        have := h2 f t c' g1 g2
        rw [show f0 + (f + 1) = f0 + 1 + f by omega]
        exact this
    · cases h
/-- a new row of elements, its cells known -/
theorem HM.pushRow {h : Hp R} (hm : HM D C ρ ft h w) (t : TypeId) (r : Row) (arr : Array Value) (cap : Nat) (h0 : 0 < r.tm.length) (hn : r.n ≤ cap) (hc : cap ≤ maxLen) (hs : arr.size = cap * r.tm.length) (hr : RowIn r arr 0) :
    HM D C (upd ρ h.length ⟨w.heap.size, 0, cap, false⟩) (upd ft h.length (fun k => k = w.heap.size)) (h ++ [some (.inr (.inl (t, r)))]) (w.alloc (.cells arr t)) := by
  refine hm.push ⟨w.heap.size, 0, cap, false⟩ (.cells arr t) rfl (.inr (.inl (t, r))) ?_ trivial
  simp only [hold, upd_same]
  exact ⟨fun k => by simp, h0, hn, hc, (fun h => by cases h), arr, fun _ => ⟨heap_alloc_new w _, by omega⟩, hr⟩
/-- a row that is nil -/
theorem HM.pushNil {h : Hp R} (hm : HM D C ρ ft h w) (t : TypeId) (r : Row) (h0 : 0 < r.tm.length) (hn : r.n = 0) (hl : r.cols.length = r.tm.length) (hc : ∀ (f : Nat) (t : Value) (c : Col), r.tm[f]? = some t → r.cols[f]? = some c → colOk t c r.n) (b o : Nat) :
    HM D C (upd ρ h.length ⟨b, o, 0, true⟩) ft (h ++ [some (.inr (.inl (t, r)))]) w := by
  have hno : ∀ k, ¬ ft h.length k := fun k hk => by
    obtain ⟨B, hB⟩ := hm.some_ _ _ hk
    have := (List.getElem?_eq_some_iff.1 hB).1
    omega
  refine hm.step (fun _ => False) (Kept.refl _ _) (fun i hi => upd_lt _ _ _ hi) (by simp) ?_ ?_ ?_ ?_
  · intro i B' hi hB'
    have hge : h.length ≤ i := Nat.le_of_not_lt hi
    rw [List.getElem?_append_right hge] at hB'
    have : i = h.length := by
      rcases Nat.lt_or_ge h.length i with hlt | hle
      · rw [List.getElem?_eq_none (by simp; omega)] at hB'; cases hB'
      · omega
    subst this
    simp at hB'
    subst hB'
    refine ⟨?_, trivial⟩
    simp only [hold, upd_same]
    exact ⟨fun k => by simp [hno k], h0, by omega, by unfold maxLen; omega, fun _ => trivial, #[], (fun h => by cases h), hl, hc, fun f t c e _ _ he => by omega⟩
  · intro i hi _
    exact ⟨List.getElem?_append_left hi, fun k => Iff.rfl⟩
  · intro i k hi hk
    obtain ⟨B', hB'⟩ := hm.some_ i k hk
    exact absurd (List.getElem?_eq_some_iff.1 hB').1 hi
  · intro i j k hi hj hki hkj
    exact hm.apart i j k hki hkj
/-- the like of zero cells, n times -/
def repL (tm : List Value) : Nat → List Value
  | 0 => []
  | n + 1 => repL tm n ++ tm
theorem repL_length (tm : List Value) : ∀ n, (repL tm n).length = n * tm.length
  | 0 => by simp [repL]
  | n + 1 => by simp [repL, repL_length tm n, Nat.add_mul]
theorem repL_get (tm : List Value) (h0 : 0 < tm.length) : ∀ (n j : Nat), j < n * tm.length → (repL tm n)[j]? = tm[j % tm.length]?
  | 0, j, hj => by omega
  | n + 1, j, hj => by
    simp only [repL]
    rcases Nat.lt_or_ge j (n * tm.length) with hlt | hge
    · rw [List.getElem?_append_left (by rw [repL_length]; exact hlt)]
      exact repL_get tm h0 n j hlt
    · rw [List.getElem?_append_right (by rw [repL_length]; exact hge), repL_length]
      have : j % tm.length = j - n * tm.length := by
        rw [Nat.add_mul, Nat.one_mul] at hj
        obtain ⟨d, rfl⟩ : ∃ d, j = n * tm.length + d := ⟨j - n * tm.length, by omega⟩
        rw [Nat.add_comm, Nat.add_mul_mod_self_right, Nat.mod_eq_of_lt (by omega)]
        omega
      rw [this]
theorem rep_eq (z : Array Value) (h0 : 0 < z.size) (n : Nat) : ((Array.range (n * z.size)).map (z[· % z.size]!)) = (repL z.toList n).toArray := by
  apply Array.ext'
  apply List.ext_getElem?
  intro j
  simp only [Array.toList_map, Array.toList_range, List.getElem?_map]
  by_cases hj : j < n * z.size
  · rw [repL_get z.toList (by simpa using h0) n j (by simpa using hj)]
    have hm : j % z.size < z.size := Nat.mod_lt _ h0
    simp [hj, hm]
  · rw [List.getElem?_eq_none (by simpa using hj), List.getElem?_eq_none (by rw [repL_length]; simpa using hj)]
    simp
def flatParts : List (Nat × Value) → Bool
  | [] => true
  | (_, v) :: l => flat v && flatParts l
theorem flatParts_map {l : List (Nat × Value)} (h : flatParts l = true) : l.map (fun (i, v) => (i, ren ρ v)) = l := by
  induction l with
  | nil => rfl
  | cons p l ih =>
    obtain ⟨i, v⟩ := p
    simp only [flatParts, Bool.and_eq_true] at h
    simp [ih h.2, flat_ren v h.1]
/-- what the elements of a slice type are: their type, their zero cells, their bytes -/
def elemOf (P : Program) (t : TypeId) : Option (TypeId × List Value × Nat) :=
  match P.underlying t with
  | some (.slice el) =>
    match P.info? el with
    | some inf => match inf.zero with
      | some z => if flatL z.cells.toList && Nat.beq inf.size z.cells.toList.length && Nat.blt 0 inf.size && Nat.blt inf.size 1000 then some (el, z.cells.toList, inf.bytes) else none
      | none => none
    | none => none
  | _ => none
theorem elemOf_ok {t el : TypeId} {tm : List Value} {by_ : Nat} (h : elemOf P t = some (el, tm, by_)) :
    ∃ inf z, P.underlying t = some (.slice el) ∧ P.info? el = some inf ∧ inf.zero = some z ∧ z.cells.toList = tm ∧ inf.size = tm.length ∧ inf.bytes = by_ ∧ flatL tm = true ∧ 0 < tm.length ∧ tm.length < 1000 := by
  unfold elemOf at h
  split at h
  · rename_i el' hu
    split at h
    · rename_i inf hi
      split at h
      · rename_i z hz
        split at h
        · rename_i hc
          simp only [Bool.and_eq_true, Nat.blt_eq] at hc
          have h1 := Nat.eq_of_beq_eq_true hc.1.1.2
          injection h with h
          injection h with h2 h3
          injection h3 with h3 h4
          subst h2; subst h3; subst h4
          exact ⟨inf, z, hu, hi, hz, rfl, h1, rfl, hc.1.1.1, by omega, by omega⟩
        · cases h
      · cases h
    · cases h
  · cases h
def opBuildSlice (P : Program) (σ : SS R) (t : TypeId) (len : Nat) (parts : List (Nat × Operand)) : Option (Out R) :=
  match elemOf P t, evParts σ.tm parts with
  | some (el, tm, _), some ps =>
    if flatParts ps && Nat.ble (len * tm.length) 1000000 then
      match fillL (fun i => some (i * tm.length, tm.length)) (repL tm len) ps with
      | some cells => match takeCols cells tm.length len 0 tm with
        | some cols => some ⟨True, .slice (some ⟨σ.hp.length, 0, some (1000 * tm.length)⟩) len len, none, σ.hp ++ [some (.inr (.inl (el, ⟨tm, len, cols⟩)))], [], [(σ.hp.length, 0)]⟩
        | none => none
      | none => none
    else none
  | _, _ => none
theorem opBuildSlice_ok {σ : SS R} {o : Oper} {t : TypeId} {len : Nat} {parts : Array (Nat × Operand)} {x : Out R} (ho : o.op = .buildSlice t len parts) (h : opBuildSlice P σ t len parts.toList = some x) : OpOk D P o σ x := by
  unfold opBuildSlice at h
  split at h
  · rename_i el tm by_ ps he hps
    obtain ⟨inf, z, hu, hi, hz, htm, hsz, _, hfl, h0, h1k⟩ := elemOf_ok he
    split at h
    · rename_i hc
      simp only [Bool.and_eq_true] at hc
      have hle := Nat.le_of_ble_eq_true hc.2
      split at h
      · rename_i cells hcells
        split at h
        · rename_i cols hcols
          injection h with h
          subst h
          refine ⟨fun C ρ ft a w K Q ht hli hm _ hK => ?_, by simp, fun _ b hb => by cases hb⟩
          obtain ⟨h1, h2⟩ := evParts_map ht hps
          rw [flatParts_map hc.1] at h1
          obtain ⟨h3, h4⟩ := fillL_fill (ρ := ρ) hcells
          rw [flatParts_map hc.1] at h3
          have hrepf : flatL (repL tm len) = true := by
            rw [flatL_iff]
            intro v hv
            obtain ⟨j, hj⟩ := List.getElem?_of_mem hv
            have hjl := (List.getElem?_eq_some_iff.1 hj).1
            rw [repL_length] at hjl
            rw [repL_get tm h0 len j hjl] at hj
            exact flatL_iff.1 hfl v (List.mem_of_getElem? hj)
          rw [flat_map hrepf] at h3
          have hpl : (parts.map fun (i, y) => (i, a.eval y)).toList = ps := by
            rw [Array.toList_map]; exact h1
          have hzs : z.cells.size = tm.length := by rw [← htm]; simp
          have harr : (if len * inf.size = 0 then #[] else z.cells : Array Value) = if len * tm.length = 0 then #[] else z.cells := by rw [hsz]
          have hzero : (Array.range (len * tm.length)).map ((if len * tm.length = 0 then (#[] : Array Value) else z.cells)[· % (if len * tm.length = 0 then (#[] : Array Value) else z.cells).size]!) = (repL tm len).toArray := by
            by_cases hz0 : len * tm.length = 0
            · have : len = 0 := by
                rcases Nat.mul_eq_zero.1 hz0 with h | h
                · exact h
                · omega
              subst this
              simp [repL]
            · rw [if_neg hz0]
              have := rep_eq z.cells (by omega) len
              rw [hzs, htm] at this
              rw [hzs]
              exact this
          have hclen : cells.length = len * tm.length := by rw [h4, repL_length]
          obtain ⟨c1, c2⟩ := takeCols_ok hcols
          have hcm : cells.map (ren ρ) = cells.map (ren ρ) := rfl
          have hrow : RowIn ⟨tm, len, cols⟩ (cells.map (ren ρ)).toArray 0 := by
            refine ⟨c1, fun f t c g1 g2 => (c2 f t c g1 g2).1, fun f t c e g1 g2 g3 => ?_⟩
            have hfl' : f < tm.length := (List.getElem?_eq_some_iff.1 g1).1
            have hlt : e * tm.length + f < cells.length := by
              rw [hclen]
              have := Nat.mul_le_mul_right tm.length (show e + 1 ≤ len from g3)
              rw [Nat.add_mul, Nat.one_mul] at this
              omega
            obtain ⟨k1, k2⟩ := c2 f t c g1 g2
            have := k2 e g3
            rw [Nat.zero_add, List.getElem?_eq_getElem hlt, Option.getD_some] at this
            rw [Nat.zero_add, List.getElem?_toArray, List.getElem?_map, List.getElem?_eq_getElem hlt, this]
            simp [flat_ren _ (cellVal_flat k1 e)]
          have hrun : (execOp a.eval o).run P w = .ok (.value (.slice (some ⟨w.heap.size, 0, none⟩) len len)) (w.alloc (.cells (cells.map (ren ρ)).toArray el)) := by
            have hbig : ¬ len * tm.length > 2 ^ 24 := by omega
            simp only [execOp, ho, Instr.buildSlice, Sem.run_bind, run_underlying hu, Result.andThen_ok, sizeOf, typeInfo, run_program, hi, Sem.run_pure, hsz, if_neg hbig, hpl]
            by_cases hz0 : len * tm.length = 0
            · rw [if_pos hz0] at hzero
              rw [hz0] at hzero
              simp only [hz0, if_true, Sem.run_bind, Sem.run_pure, Result.andThen_ok]
              rw [hzero, h3]
              simp [newRow]
            · rw [if_neg hz0] at hzero
              simp only [hz0, if_false, Sem.run_bind, zeroValue, typeInfo, run_program, Result.andThen_ok, hi, hz, Sem.run_pure]
              rw [hzero, h3]
              simp [newRow]
          refine wp_value hrun ?_
          have hp := hm.pushRow el ⟨tm, len, cols⟩ (cells.map (ren ρ)).toArray len h0 (Nat.le_refl _) (by
            have : len ≤ len * tm.length := Nat.le_mul_of_pos_right _ h0
            unfold maxLen; omega) (by simp [hclen]) hrow
          have := hK _ _ _ (fun i hi => upd_lt ρ σ.hp.length ⟨w.heap.size, 0, len, false⟩ hi) hp
          have e1 : 1000 * tm.length / 1000000 = 0 := by omega
          have e2 : 1000 * tm.length % 1000 = 0 := by omega
          simpa [ren, renS, renA, upd_same, cellOf, e1, e2] using this
        · cases h
      · cases h
    · cases h
  · cases h
/-- a column of zeros -/
def zeroCol (t : Value) (n : Nat) : Option Col :=
  match t with
  | .int _ x => some { noCol with i := List.replicate n x }
  | .bool x => some { noCol with b := List.replicate n x }
  | .string x => some { noCol with s := List.replicate n x }
  | _ => none
def zeroCols : List Value → Nat → Option (List Col)
  | [], _ => some []
  | t :: tm, n =>
    match zeroCol t n, zeroCols tm n with
    | some c, some r => some (c :: r)
    | _, _ => none
theorem zeroCol_ok {t : Value} {n : Nat} {c : Col} (h : zeroCol t n = some c) : colOk t c n ∧ ∀ e, e < n → cellVal t c e = t := by
  unfold zeroCol at h
  split at h
  · injection h with h; subst h
    exact ⟨by simp [colOk], fun e he => by simp [cellVal, List.getD_eq_getElem?_getD, he]⟩
  · injection h with h; subst h
    exact ⟨by simp [colOk], fun e he => by simp [cellVal, List.getD_eq_getElem?_getD, he]⟩
  · injection h with h; subst h
    exact ⟨by simp [colOk], fun e he => by simp [cellVal, List.getD_eq_getElem?_getD, he]⟩
  · cases h
theorem zeroCols_ok : ∀ {tm : List Value} {n : Nat} {cols : List Col}, zeroCols tm n = some cols → cols.length = tm.length ∧ ∀ (f : Nat) (t : Value) (c : Col), tm[f]? = some t → cols[f]? = some c → colOk t c n ∧ ∀ e, e < n → cellVal t c e = t
  | [], n, cols, h => by
    simp only [zeroCols] at h
    injection h with h
    subst h
    exact ⟨rfl, fun f t c h1 _ => by simp at h1⟩
  | t0 :: tm, n, cols, h => by
    simp only [zeroCols] at h
    split at h
    · rename_i c r hc hr
      injection h with h
      subst h
      obtain ⟨h1, h2⟩ := zeroCols_ok hr
      refine ⟨by simp [h1], fun f t c' g1 g2 => ?_⟩
      cases f with
      | zero =>
        simp only [List.getElem?_cons_zero, Option.some.injEq] at g1 g2
        subst g1; subst g2
        exact zeroCol_ok hc
      | succ f =>
        simp only [List.getElem?_cons_succ] at g1 g2
        exact h2 f t c' g1 g2
    · cases h
/-- nil, as a row without elements -/
def opNilSlice (P : Program) (σ : SS R) (t : TypeId) : Option (Out R) :=
  match elemOf P t with
  | some (el, tm, _) => match zeroCols tm 0 with
    | some cols => some ⟨True, .slice (some ⟨σ.hp.length, 0, some (1000 * tm.length)⟩) 0 0, none, σ.hp ++ [some (.inr (.inl (el, ⟨tm, 0, cols⟩)))], [], [(σ.hp.length, 0)]⟩
    | none => none
  | none => none
theorem opNilSlice_ok {σ : SS R} {o : Oper} {t : TypeId} {n c : Nat} {y : Operand} {x : Out R} (ho : o.op = .move y ∨ o.op = .assign y) (hy : ev σ.tm y = some (.slice none 0 0)) (h : opNilSlice P σ t = some x) : OpOk D P o σ x := by
  unfold opNilSlice at h
  split at h
  · rename_i el tm by_ he
    obtain ⟨inf, z, hu, hi, hz, htm, hsz, _, hfl, h0, h1k⟩ := elemOf_ok he
    split at h
    · rename_i cols hcols
      injection h with h
      subst h
      refine ⟨fun C ρ ft a w K Q ht hli hm _ hK => ?_, by simp, fun _ b hb => by cases hb⟩
      obtain ⟨c1, c2⟩ := zeroCols_ok hcols
      have hv := (ev_eval ht hy).1
      have hrun : (execOp a.eval o).run P w = .ok (.value (.slice none 0 0)) w := by
        simp only [ren] at hv
        rcases ho with ho | ho <;> simp [execOp, ho, hv]
      refine wp_value hrun ?_
      have hp := hm.pushNil el ⟨tm, 0, cols⟩ h0 rfl c1 (fun f t c g1 g2 => (c2 f t c g1 g2).1) 0 0
      have := hK _ _ _ (fun i hi => upd_lt ρ σ.hp.length ⟨0, 0, 0, true⟩ hi) hp
      simpa [ren, renS, upd_same] using this
    · cases h
  · cases h
def opMakeSlice (P : Program) (σ : SS R) (t : TypeId) (y z : Operand) : Option (Out R) :=
  match elemOf P t, ev σ.tm y, ev σ.tm z with
  | some (el, tm, by_), some (.int _ l), some (.int _ c) =>
    match zeroCols tm l.toNat with
    | some cols => some ⟨0 ≤ l ∧ l ≤ c ∧ c * by_ ≤ 140737488355328 ∧ c ≤ 140737488355328, .slice (some ⟨σ.hp.length, 0, some (1000 * tm.length)⟩) l.toNat c.toNat, none, σ.hp ++ [some (.inr (.inl (el, ⟨tm, l.toNat, cols⟩)))], [], [(σ.hp.length, 0)]⟩
    | none => none
  | _, _, _ => none
theorem opMakeSlice_ok {σ : SS R} {o : Oper} {t : TypeId} {y z : Operand} {x : Out R} (ho : o.op = .makeSlice t y z) (h : opMakeSlice P σ t y z = some x) : OpOk D P o σ x := by
  unfold opMakeSlice at h
  split at h
  · rename_i el tm by_ k l k' c he hl hcp
    obtain ⟨inf, zv, hu, hi, hz, htm, hsz, hby, hfl, h0, h1k⟩ := elemOf_ok he
    split at h
    · rename_i cols hcols
      injection h with h
      subst h
      refine ⟨fun C ρ ft a w K Q ht hli hm hv hK => ?_, by simp, fun _ b hb => by cases hb⟩
      obtain ⟨v0, v1, v2, v3⟩ := hv
      obtain ⟨c1, c2⟩ := zeroCols_ok hcols
      have h1 := (ev_eval ht hl).1
      have h2 := (ev_eval ht hcp).1
      simp only [ren_int] at h1 h2
      obtain ⟨ln, rfl⟩ := Int.eq_ofNat_of_zero_le v0
      obtain ⟨cn, rfl⟩ := Int.eq_ofNat_of_zero_le (Int.le_trans v0 v1)
      simp only [Int.toNat_natCast] at *
      have hzs : zv.cells.size = tm.length := by rw [← htm]; simp
      have hw1 : IntKind.i64.wrap (ln : Int) = ln := fits_wrap ⟨by omega, by omega⟩
      have hw2 : IntKind.i64.wrap (cn : Int) = cn := fits_wrap ⟨by omega, by omega⟩
      have harr : (Array.range (cn * tm.length)).map ((if cn * tm.length = 0 then (#[] : Array Value) else zv.cells)[· % (if cn * tm.length = 0 then (#[] : Array Value) else zv.cells).size]!) = (repL tm cn).toArray := by
        by_cases hz0 : cn * tm.length = 0
        · have : cn = 0 := by
            rcases Nat.mul_eq_zero.1 hz0 with h | h
            · exact h
            · omega
          subst this
          simp [repL]
        · rw [if_neg hz0]
          have := rep_eq zv.cells (by omega) cn
          rw [hzs, htm] at this
          rw [hzs]
          exact this
      have hb2 : (by_ : Int) * (cn : Int) ≤ 281474976710656 := by rw [Int.mul_comm]; omega
      have hrun : (execOp a.eval o).run P w = .ok (.value (.slice (some ⟨w.heap.size, 0, none⟩) ln cn)) (w.alloc (.cells (repL tm cn).toArray el)) := by
        simp only [execOp, ho, h1, h2, Instr.makeSlice, Sem.run_bind, run_underlying hu, Result.andThen_ok, asInt, asIntOf, Sem.run_pure, typeInfo, run_program, hi, hw1, hw2, hby]
        have hcond : (decide ((cn : Int) < 0) || decide ((by_ : Int) * (cn : Int) > 2 ^ 48) || decide ((ln : Int) < 0) || decide ((ln : Int) > (cn : Int))) = false := by
          have e1 : decide ((cn : Int) < 0) = false := decide_eq_false (by omega)
          have e2 : decide ((by_ : Int) * (cn : Int) > 2 ^ 48) = false := decide_eq_false (by omega)
          have e3 : decide ((ln : Int) < 0) = false := decide_eq_false (by omega)
          have e4 : decide ((ln : Int) > (cn : Int)) = false := decide_eq_false (by omega)
          rw [e1, e2, e3, e4]; rfl
        simp only [hcond, Bool.false_eq_true, if_false, Sem.run_pure, Result.andThen_ok, run_askRoom, sizeOf, typeInfo, Sem.run_bind, run_program, hi, hsz, Int.toNat_natCast]
        by_cases hz0 : cn * tm.length = 0
        · rw [if_pos hz0] at harr
          rw [hz0] at harr
          simp only [hz0, if_true, Sem.run_bind, Sem.run_pure, Result.andThen_ok]
          rw [harr]
          simp [newRow]
        · rw [if_neg hz0] at harr
          simp only [hz0, if_false, Sem.run_bind, zeroValue, typeInfo, run_program, Result.andThen_ok, hi, hz, Sem.run_pure]
          rw [harr]
          simp [newRow]
      refine wp_value hrun ?_
      have hrow : RowIn ⟨tm, ln, cols⟩ (repL tm cn).toArray 0 := by
        refine ⟨c1, fun f t c g1 g2 => (c2 f t c g1 g2).1, fun f t c e g1 g2 g3 => ?_⟩
        have hfl' : f < tm.length := (List.getElem?_eq_some_iff.1 g1).1
        have hlt : e * tm.length + f < cn * tm.length := by
          have := Nat.mul_le_mul_right tm.length (show e + 1 ≤ cn by have : e < ln := g3; omega)
          rw [Nat.add_mul, Nat.one_mul] at this
          omega
        rw [Nat.zero_add, List.getElem?_toArray, repL_get tm h0 cn _ hlt, (c2 f t c g1 g2).2 e g3]
        have : (e * tm.length + f) % tm.length = f := by rw [Nat.add_comm, Nat.add_mul_mod_self_right, Nat.mod_eq_of_lt hfl']
        rw [this, g1]
      have hp := hm.pushRow el ⟨tm, ln, cols⟩ (repL tm cn).toArray cn h0 (by simp only; omega) (by unfold maxLen; omega) (by simp [repL_length]) hrow
      have := hK _ _ _ (fun i hi => upd_lt ρ σ.hp.length ⟨w.heap.size, 0, cn, false⟩ hi) hp
      have e1 : 1000 * tm.length / 1000000 = 0 := by omega
      have e2 : 1000 * tm.length % 1000 = 0 := by omega
      simpa [ren, renS, renA, upd_same, cellOf, e1, e2] using this
    · cases h
  · cases h
end
end Go.Proofs.Ytloibbakklenbaa.Rx
