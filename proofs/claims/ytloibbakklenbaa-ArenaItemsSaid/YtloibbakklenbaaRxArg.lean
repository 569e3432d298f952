/- Symbolic runs: arguments that are slices of plain cells, as rows that are only read. Nothing of the program. -/
import Derived.Test.YtloibbakklenbaaRxFun
import Derived.Below
import Derived.Deep.Slices
import Derived.ChangeArms
import Derived.WideShapes
import Derived.DataReads
import Derived.OpenShut
import Derived.ProofKit
namespace Go.Proofs.Ytloibbakklenbaa.Rx
open Go.ChangeShapes Go.WideShapes Go.ChangeAt Go.RowKit Go.Deep Go.Proofs.Ytloibbakklenbaa.State
set_option linter.unusedVariables false
set_option linter.unusedSimpArgs false
/-- a cell like another, its number in its kind -/
def okCell : Value → Value → Prop
  | .int k _, .int k' x => k = k' ∧ (Lit.int k x).wf = true
  | .bool _, .bool _ => True
  | .string _, .string s => s.size ≤ maxLen
  | _, _ => False
def okCells : List Value → List Value → Prop
  | [], [] => True
  | t :: tm, v :: l => okCell t v ∧ okCells tm l
  | _, _ => False
theorem okCells_append : ∀ {a b c d : List Value}, okCells a c → okCells b d → okCells (a ++ b) (c ++ d)
  | [], b, [], d, _, h => h
  | [], b, _ :: _, d, h, _ => h.elim
  | _ :: _, b, [], d, h, _ => h.elim
  | t :: a, b, v :: c, d, h, h' => ⟨h.1, okCells_append h.2 h'⟩
theorem okCells_length : ∀ {a c : List Value}, okCells a c → c.length = a.length
  | [], [], _ => rfl
  | [], _ :: _, h => h.elim
  | _ :: _, [], h => h.elim
  | t :: a, v :: c, h => by simp [okCells_length h.2]
theorem okCells_get : ∀ {a c : List Value} {f : Nat} {t : Value}, okCells a c → a[f]? = some t → ∃ v, c[f]? = some v ∧ okCell t v
  | [], _, f, t, _, h => by simp at h
  | _ :: _, [], f, t, h, _ => h.elim
  | u :: a, v :: c, f, t, h, ht => by
    cases f with
    | zero => simp only [List.getElem?_cons_zero, Option.some.injEq] at ht ⊢; subst ht; exact ⟨v, rfl, h.1⟩
    | succ f => simp only [List.getElem?_cons_succ] at ht ⊢; exact okCells_get h.2 ht
/-- the zero cells of a plain type -/
def tmFs (P : Program) (rec : TypeId → Option (List Value)) : Nat → List Field → Option (List Value)
  | _, [] => some []
  | off, f :: fs =>
    match rec f.type with
    | some tm => if Nat.beq f.offset off && Nat.beq (P.cellsOf f.type) tm.length then
        match tmFs P rec (off + tm.length) fs with
        | some r => some (tm ++ r)
        | none => none
      else none
    | none => none
def tmOf (P : Program) : Nat → TypeId → Option (List Value)
  | 0, _ => none
  | n + 1, t =>
    match P.underlying t with
    | some (.int k) => some [.int k 0]
    | some .bool => some [.bool false]
    | some .string => some [.string ⟨#[]⟩]
    | some (.struct fs) =>
      match tmFs P (tmOf P n) 0 fs.toList with
      | some tm => if Nat.beq (P.cellsOf t) tm.length then some tm else none
      | none => none
    | _ => none
section
variable {H : Type} {enc : TypeId × Value → H} {P : Program} {w : World} {base : Nat} {spare : Nat → Bool} {held : Bool}
theorem tmFs_ok {rec : TypeId → Option (List Value)} {cs : List Value} {n : Nat}
    (ih : ∀ (t : TypeId) (tm cs : List Value) (x : DataW H × List MemPlace), rec t = some tm → DataW.trod enc P w base spare held n t cs = some x → okCells tm cs) :
    ∀ (fs : List Field) (off : Nat) (tm : List Value), tmFs P rec off fs = some tm → (∀ f ∈ fs, ∃ y, DataW.trod enc P w base spare held n f.type ((cs.drop f.offset).take (P.cellsOf f.type)) = some y) → okCells tm ((cs.drop off).take tm.length)
  | [], off, tm, h, _ => by simp only [tmFs, Option.some.injEq] at h; subst h; simp [okCells]
  | f :: fs, off, tm, h, hy => by
    simp only [tmFs] at h
    split at h
    · rename_i tm1 h1
      split at h
      · rename_i hc
        simp only [Bool.and_eq_true] at hc
        have e1 := Nat.eq_of_beq_eq_true hc.1
        have e2 := Nat.eq_of_beq_eq_true hc.2
        split at h
        · rename_i r hr
          injection h with h
          subst h
          obtain ⟨y, hy1⟩ := hy f List.mem_cons_self
          have a1 := ih _ _ _ _ h1 hy1
          rw [e1, e2] at a1
          have a2 := tmFs_ok ih fs (off + tm1.length) r hr fun g hg => hy g (List.mem_cons_of_mem _ hg)
          have := okCells_append a1 a2
          rw [List.length_append, List.take_add, List.drop_drop]
          exact this
        · cases h
      · cases h
    · cases h
theorem tmOf_ok : ∀ (m : Nat) (t : TypeId) (tm cs : List Value) (fuel : Nat) (x : DataW H × List MemPlace), tmOf P m t = some tm → DataW.trod enc P w base spare held fuel t cs = some x → okCells tm cs
  | 0, _, _, _, _, _, h, _ => by simp [tmOf] at h
  | m + 1, t, tm, cs, fuel, x, h, ht => by
    simp only [tmOf] at h
    split at h
    · rename_i k hk
      injection h with h
      subst h
      obtain ⟨n, rfl, _, hw⟩ := DataW.trod_int hk ht
      exact ⟨⟨rfl, hw⟩, trivial⟩
    · rename_i hk
      injection h with h
      subst h
      obtain ⟨b, rfl, _⟩ := DataW.trod_bool hk ht
      exact ⟨trivial, trivial⟩
    · rename_i hk
      injection h with h
      subst h
      obtain ⟨s, rfl, _, hs⟩ := DataW.trod_string hk ht
      exact ⟨hs, trivial⟩
    · rename_i fs hk
      split at h
      · rename_i tm1 h1
        split at h
        · rename_i hc
          injection h with h
          subst h
          have hc := Nat.eq_of_beq_eq_true hc
          obtain ⟨xs, n, rfl, _, hl, hxs, hf⟩ := DataW.trod_struct hk ht
          have := tmFs_ok (fun t tm cs x h1 h2 => tmOf_ok m t tm cs n x h1 h2) fs.toList 0 tm1 h1 (cs := cs) fun f hf' => by
            obtain ⟨i, hi⟩ := List.mem_iff_getElem?.1 hf'
            have hi' : fs[i]? = some f := by simpa using hi
            have hlt : i < xs.length := by rw [hxs]; exact (Array.getElem?_eq_some_iff.1 hi').1
            exact ⟨xs[i], by rw [hf i f hi', List.getElem?_eq_getElem hlt]⟩
          rw [List.drop_zero, List.take_of_length_le (by omega)] at this
          exact this
        · cases h
      · cases h
    · cases h
end
/-- a row in a world's memory -/
structure ViewOk (W : World) (p : Place) (r : Row) : Prop where
  ne : 0 < r.tm.length
  n : r.n ≤ p.cap
  cap : p.cap ≤ maxLen
  nil : p.nil = true → p.cap = 0
  ex : ∃ arr, (p.nil = false → 0 < r.n → p.blk < W.heap.size ∧ ∃ t fz, W.heap[p.blk]? = some (.cells arr t fz)) ∧ RowIn r arr p.off
/-- its numbers in their kinds, and no other columns -/
def wfCol : Value → Col → Nat → Prop
  | .int k _, c, n => c = colI c.i ∧ c.i.length = n ∧ ∀ x ∈ c.i, (Lit.int k x).wf = true
  | .bool _, c, n => c = colB c.b ∧ c.b.length = n
  | .string _, c, n => c = colS c.s ∧ c.s.length = n ∧ ∀ x ∈ c.s, x.size ≤ maxLen
  | _, _, _ => False
def wfCols : List Value → List Col → Nat → Prop
  | [], [], _ => True
  | t :: tm, c :: cs, n => wfCol t c n ∧ wfCols tm cs n
  | _, _, _ => False
def cellAt (W : World) (a : Addr) : Value := (W.cell? a).getD undef
/-- a column out of memory -/
def colAt (W : World) (b o s n f : Nat) (t : Value) : Col :=
  match t with
  | .int _ _ => colI ((List.range n).map fun e => match cellAt W ⟨b, o + (e * s + f), none⟩ with
    | .int _ x => x
    | _ => 0)
  | .bool _ => colB ((List.range n).map fun e => match cellAt W ⟨b, o + (e * s + f), none⟩ with
    | .bool x => x
    | _ => false)
  | .string _ => colS ((List.range n).map fun e => match cellAt W ⟨b, o + (e * s + f), none⟩ with
    | .string x => x
    | _ => ⟨#[]⟩)
  | _ => noCol
def colsAt (W : World) (b o s n : Nat) : Nat → List Value → List Col
  | _, [] => []
  | f, t :: tm => colAt W b o s n f t :: colsAt W b o s n (f + 1) tm
theorem colsAt_get (W : World) (b o s n : Nat) : ∀ (tm : List Value) (f0 f : Nat), (colsAt W b o s n f0 tm).length = tm.length ∧ (colsAt W b o s n f0 tm)[f]? = (tm[f]?).map (colAt W b o s n (f0 + f))
  | [], f0, f => ⟨rfl, by simp [colsAt]⟩
  | t :: tm, f0, f => by
    obtain ⟨h1, h2⟩ := colsAt_get W b o s n tm (f0 + 1) (f - 1)
    refine ⟨by simp [colsAt, h1], ?_⟩
    cases f with
    | zero => simp [colsAt]
    | succ f =>
      simp only [colsAt, List.getElem?_cons_succ]
      simp only [Nat.add_sub_cancel] at h2
      rw [h2, show f0 + 1 + f = f0 + (f + 1) by omega]
theorem wfCols_of : ∀ {tm : List Value} {cs : List Col} {n : Nat}, cs.length = tm.length → (∀ (f : Nat) (t : Value) (c : Col), tm[f]? = some t → cs[f]? = some c → wfCol t c n) → wfCols tm cs n
  | [], [], _, _, _ => trivial
  | [], _ :: _, _, h, _ => by simp at h
  | _ :: _, [], _, h, _ => by simp at h
  | t :: tm, c :: cs, n, h, hf => ⟨hf 0 t c rfl rfl, wfCols_of (by simpa using h) fun f t c h1 h2 => hf (f + 1) t c h1 h2⟩
theorem tm_plain {P : Program} : ∀ (m : Nat) (t : TypeId) (tm : List Value), tmOf P m t = some tm → ∀ v ∈ tm, (∃ k, v = .int k 0) ∨ v = .bool false ∨ v = .string ⟨#[]⟩
  | 0, _, _, h => by simp [tmOf] at h
  | m + 1, t, tm, h => by
    simp only [tmOf] at h
    split at h
    · injection h with h; subst h; intro v hv; simp at hv; exact Or.inl ⟨_, hv⟩
    · injection h with h; subst h; intro v hv; simp at hv; exact Or.inr (Or.inl hv)
    · injection h with h; subst h; intro v hv; simp at hv; exact Or.inr (Or.inr hv)
    · rename_i fs hk
      have key : ∀ (fs : List Field) (off : Nat) (tm : List Value), tmFs P (tmOf P m) off fs = some tm → ∀ v ∈ tm, (∃ k, v = .int k 0) ∨ v = .bool false ∨ v = .string ⟨#[]⟩ := by
        intro fs
        induction fs with
        | nil => intro off tm h v hv; simp only [tmFs, Option.some.injEq] at h; subst h; cases hv
        | cons f fs ih =>
          intro off tm h v hv
          simp only [tmFs] at h
          split at h
          · rename_i tm1 h1
            split at h
            · split at h
              · rename_i r hr
                injection h with h
                subst h
                rcases List.mem_append.1 hv with hv | hv
                · exact tm_plain m _ _ h1 v hv
                · exact ih _ _ hr v hv
              · cases h
            · cases h
          · cases h
      split at h
      · rename_i tm1 h1
        split at h
        · injection h with h; subst h; exact key _ _ _ h1
        · cases h
      · cases h
    · cases h
/-- an argument that is a slice of plain elements -/
theorem slice_arg {H : Type} {enc : TypeId × Value → H} {P : Program} {W : World} {base : Nat} {t el : TypeId} {v : Value} {d : DataW H} {pl : List MemPlace} {tm : List Value} {m : Nat}
    (ht : P.underlying t = some (.slice el)) (htm : tmOf P m el = some tm) (hne : 0 < tm.length) (hcl : P.cellsOf el = tm.length) (hmx : 0 < tm.length ∧ tm.length < 1000)
    (hv : Value.okWide P W .any base t v) (h : DataW.Trod enc P W 0 (fun _ => true) true t v d pl) :
    ∃ (p : Place) (r : Row), r.tm = tm ∧ wfCols tm r.cols r.n ∧ ViewOk W p r ∧ ∀ (ρ : Env) (i : Nat), ρ i = p → v = ren ρ (.slice (some ⟨i, 0, some (1000 * tm.length)⟩) r.n 0) := by
  obtain ⟨a0, len, cap, rfl⟩ := okWide_slice ht hv
  obtain ⟨fuel, hf⟩ := h
  rcases open_slice ht hf with ⟨hcs, _⟩ | ⟨a, l, c, mm, n, D, Pl, hcs, _, hl, hm, hmm, _, hi⟩
  · simp [Value.cells] at hcs
    obtain ⟨rfl, rfl, rfl⟩ := hcs
    refine ⟨⟨0, 0, 0, true⟩, ⟨tm, 0, colsAt W 0 0 tm.length 0 0 tm⟩, rfl, ?_, ⟨hne, Nat.le_refl _, Nat.zero_le _, fun _ => rfl, ⟨#[], (fun h => by cases h), ?_⟩⟩, fun ρ i hρ => ?_⟩
    · refine wfCols_of (colsAt_get W 0 0 tm.length 0 tm 0 0).1 fun f t c h1 h2 => ?_
      have h3 := (colsAt_get W 0 0 tm.length 0 tm 0 f).2
      rw [h1, h2] at h3
      simp only [Option.map_some, Option.some.injEq] at h3
      subst h3
      rcases tm_plain _ _ _ htm t (List.mem_of_getElem? h1) with ⟨k, rfl⟩ | rfl | rfl <;> simp [colAt, wfCol, colI, colB, colS]
    · refine ⟨(colsAt_get W 0 0 tm.length 0 tm 0 0).1, fun f t c h1 h2 => ?_, fun f t c e h1 h2 he => by simp at he⟩
      have h3 := (colsAt_get W 0 0 tm.length 0 tm 0 f).2
      simp only at h1 h2
      rw [h1, h2] at h3
      simp only [Option.map_some, Option.some.injEq] at h3
      subst h3
      rcases tm_plain _ _ _ htm t (List.mem_of_getElem? h1) with ⟨k, rfl⟩ | rfl | rfl <;> simp [colAt, colOk, colI, colB, colS]
    · simp [ren, renS, hρ]
  · simp [Value.cells] at hcs
    obtain ⟨rfl, rfl, rfl⟩ := hcs
    have hmc : mm = cap := by simpa using hmm
    have hel : ∀ e, e < cap → ∃ cs, okCells tm cs ∧ ∀ f, f < tm.length → W.cell? ((a.add (e * tm.length)).add f) = cs[f]? := by
      intro e he
      obtain ⟨cs', hc, ht'⟩ := hi e (by omega)
      rw [hcl] at hc
      obtain ⟨_, hlen, hat⟩ := World.cells?_some hc
      exact ⟨cs', tmOf_ok _ _ _ _ _ _ htm ht', hat⟩
    have hspot : a.spot = none := by
      simp only [Value.okWide, ht, Cell.okWide, Cell.ok] at hv
      exact hv.2.2.2.1
    obtain ⟨b, o, spot⟩ := a
    simp only at hspot
    subst hspot
    have hat : ∀ e f, e < cap → f < tm.length → ∃ t v, tm[f]? = some t ∧ W.cell? ⟨b, o + (e * tm.length + f), none⟩ = some v ∧ okCell t v := by
      intro e f he hf
      obtain ⟨cs, hok, hc⟩ := hel e he
      obtain ⟨v, hv, hk⟩ := okCells_get hok (List.getElem?_eq_getElem hf)
      refine ⟨tm[f], v, List.getElem?_eq_getElem hf, ?_, hk⟩
      have := hc f hf
      rw [hv] at this
      rw [add_at, add_at] at this
      rw [← Nat.add_assoc]
      exact this
    have hwf : ∀ (f : Nat) (t : Value), tm[f]? = some t → wfCol t (colAt W b o tm.length len f t) len ∧ ∀ e, e < len → W.cell? ⟨b, o + (e * tm.length + f), none⟩ = some (cellVal t (colAt W b o tm.length len f t) e) := by
      intro f t ht1
      have hf : f < tm.length := (List.getElem?_eq_some_iff.1 ht1).1
      have hall : ∀ e, e < len → ∃ v, W.cell? ⟨b, o + (e * tm.length + f), none⟩ = some v ∧ okCell t v := fun e he => by
        obtain ⟨t', v, h1, h2, h3⟩ := hat e f (by omega) hf
        rw [ht1] at h1
        injection h1 with h1
        subst h1
        exact ⟨v, h2, h3⟩
      rcases tm_plain _ _ _ htm t (List.mem_of_getElem? ht1) with ⟨k, rfl⟩ | rfl | rfl
      · refine ⟨⟨rfl, by simp [colAt, colI], fun x hx => ?_⟩, fun e he => ?_⟩
        · simp only [colAt, colI, List.mem_map, List.mem_range] at hx
          obtain ⟨e, he, rfl⟩ := hx
          obtain ⟨v, h1, h2⟩ := hall e he
          cases v <;> simp only [okCell] at h2
          obtain ⟨rfl, h2⟩ := h2
          simp only [cellAt, h1, Option.getD_some]
          exact h2
        · obtain ⟨v, h1, h2⟩ := hall e he
          cases v <;> simp only [okCell] at h2
          obtain ⟨rfl, h2⟩ := h2
          rw [h1]
          simp [cellVal, colAt, colI, he, cellAt, h1]
      · refine ⟨⟨rfl, by simp [colAt, colB]⟩, fun e he => ?_⟩
        obtain ⟨v, h1, h2⟩ := hall e he
        cases v <;> simp only [okCell] at h2
        rw [h1]
        simp [cellVal, colAt, colB, he, cellAt, h1]
      · refine ⟨⟨rfl, by simp [colAt, colS], fun x hx => ?_⟩, fun e he => ?_⟩
        · simp only [colAt, colS, List.mem_map, List.mem_range] at hx
          obtain ⟨e, he, rfl⟩ := hx
          obtain ⟨v, h1, h2⟩ := hall e he
          cases v <;> simp only [okCell] at h2
          simp only [cellAt, h1, Option.getD_some]
          exact h2
        · obtain ⟨v, h1, h2⟩ := hall e he
          cases v <;> simp only [okCell] at h2
          rw [h1]
          simp [cellVal, colAt, colS, he, cellAt, h1]
    have hcol : ∀ (f : Nat) (t : Value) (c : Col), tm[f]? = some t → (colsAt W b o tm.length len 0 tm)[f]? = some c → c = colAt W b o tm.length len f t := fun f t c h1 h2 => by
      have h3 := (colsAt_get W b o tm.length len tm 0 f).2
      rw [h1, h2] at h3
      simpa using h3
    have hlen := (colsAt_get W b o tm.length len tm 0 0).1
    have hrow : ∀ arr, (0 < len → ∃ t fz, W.heap[b]? = some (.cells arr t fz)) → RowIn ⟨tm, len, colsAt W b o tm.length len 0 tm⟩ arr o := by
      intro arr harr
      refine ⟨hlen, fun f t c h1 h2 => ?_, fun f t c e h1 h2 he => ?_⟩
      · rw [hcol f t c h1 h2]
        have := (hwf f t h1).1
        rcases tm_plain _ _ _ htm t (List.mem_of_getElem? h1) with ⟨k, rfl⟩ | rfl | rfl <;> simp [colAt, colOk, colI, colB, colS]
      · rw [hcol f t c h1 h2]
        obtain ⟨t', fz, hb⟩ := harr (by simp only at he; omega)
        rw [← (hwf f t h1).2 e he, cell_of_row W b _ arr t' fz hb]
    refine ⟨⟨b, o, cap, false⟩, ⟨tm, len, colsAt W b o tm.length len 0 tm⟩, rfl, wfCols_of hlen fun f t c h1 h2 => by rw [hcol f t c h1 h2]; exact (hwf f t h1).1, ⟨hne, hl, hm, (fun h => by cases h), ?_⟩, fun ρ i hρ => ?_⟩
    · by_cases h0 : 0 < len
      · obtain ⟨t, v, _, h2, _⟩ := hat 0 0 (by omega) hne
        unfold World.cell? at h2
        simp only [Option.isSome_none, Bool.false_eq_true, if_false] at h2
        split at h2
        · rename_i arr t' fz hb
          exact ⟨arr, fun _ _ => ⟨by have := Array.getElem?_eq_some_iff.1 hb; exact this.1, _, _, hb⟩, hrow arr fun _ => ⟨_, _, hb⟩⟩
        · cases h2
      · exact ⟨#[], fun _ h => absurd h h0, hrow #[] fun h => absurd h h0⟩
    · simp [ren, renS, hρ, renA, cellOf]
      omega
/-- rows in a world's memory, as a heap of rows that are only read -/
def viewsHp {R : Type} : List (Place × Row) → Hp R
  | [] => []
  | x :: l => some (.inr (.inr (.inl x.2))) :: viewsHp l
theorem viewsHp_get {R : Type} : ∀ {l : List (Place × Row)} {i : Nat} {B : SB R}, (viewsHp l : Hp R)[i]? = some (some B) → ∃ x, l[i]? = some x ∧ B = .inr (.inr (.inl x.2))
  | [], i, B, h => by simp [viewsHp] at h
  | x :: l, i, B, h => by
    cases i with
    | zero => simp only [viewsHp, List.getElem?_cons_zero, Option.some.injEq] at h ⊢; exact ⟨x, rfl, h.symm⟩
    | succ i => simp only [viewsHp, List.getElem?_cons_succ] at h ⊢; exact viewsHp_get h
def viewsE (l : List (Place × Row)) : Env := fun i => match l[i]? with
  | some x => x.1
  | none => ⟨0, 0, 0, true⟩
theorem views_HM {R : Type} {D : Res R} {W : World} {l : List (Place × Row)} (h : ∀ x ∈ l, ViewOk W x.1 x.2) (n : Nat) : HM D ⟨W, fun _ => False, viewsE l, n⟩ (viewsE l) (fun _ _ => False) (viewsHp l) W where
  at_ i B hB := by
    obtain ⟨x, hx, rfl⟩ := viewsHp_get hB
    obtain ⟨h1, h2, h3, h4, arr, h5, h6⟩ := h x (List.mem_of_getElem? hx)
    have e : viewsE l i = x.1 := by simp [viewsE, hx]
    refine ⟨?_, trivial⟩
    simp only [hold, e]
    exact ⟨fun k hk => hk, h1, h2, h3, h4, arr, fun hn h0 => ⟨(h5 hn h0).1, fun hf => hf, (h5 hn h0).2⟩, h6⟩
  lt i k hk := hk.elim
  fresh i k hk := hk.elim
  apart i j k hk := hk.elim
  some_ i k hk := hk.elim
  kept := Kept.refl _ _
theorem Kept.below {W W' : World} (h : Kept (fun _ => False) W W') : Below W.heap.size W W' := ⟨h.os, h.tape, h.output, h.size, fun k hk => h.block k hk fun hf => hf⟩
/-- a law, out of its run -/
theorem law_calls {R : Type} {D : Res R} {P : Program} {f : FuncId} {fn : Func} {root : Code} {args : List Value} {W : World} (l : List (Place × Row)) (hf : P.funcs[f]? = some fn) (hb : fn.body = some root)
    (hW : ∀ x ∈ l, ViewOk W x.1 x.2) (hi : inbL (viewsHp l : Hp R).length args = true)
    (h : At D P root (viewsHp l : Hp R).length (retK P fn.results.toList fun v _ => v = .bool true) [.inl []] ⟨someL args ++ List.replicate (fn.ntmps - args.length) none, [], viewsHp l⟩) :
    Calls P f (args.map (ren (viewsE l))).toArray W fun e W' => e = .returned (.bool true) ∧ Below W.heap.size W W' := by
  refine (calls_At hf hb h (views_HM hW 0) hi).mono fun e w' ⟨ρ', ft', v, hp', _, h2, h3, h4⟩ => ?_
  subst h3
  exact ⟨by rw [h2]; simp, Kept.below h4.kept⟩
end Go.Proofs.Ytloibbakklenbaa.Rx
