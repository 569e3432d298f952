/- Symbolic runs: append. Nothing of the program. -/
import Derived.Test.YtloibbakklenbaaRxCut
namespace Go.Proofs.Ytloibbakklenbaa.Rx
open Go.RowKit Go.Proofs.Ytloibbakklenbaa.State
set_option linter.unusedVariables false
set_option linter.unusedSimpArgs false
/-- n of a list from e on -/
def cut {α : Type} (l : List α) (e n : Nat) : List α := (l.drop e).take n
theorem cut_length {α : Type} {l : List α} {e n : Nat} (h : e + n ≤ l.length) : (cut l e n).length = n := by simp [cut]; omega
theorem cut_get {α : Type} {l : List α} {e n i : Nat} (h : i < n) : (cut l e n)[i]? = l[e + i]? := by simp [cut, List.getElem?_take, h]
@[simp] theorem cut_all {α : Type} (l : List α) : cut l 0 l.length = l := by simp [cut]
def catCol (t : Value) (c0 : Col) (e0 n : Nat) (c1 : Col) (e1 m : Nat) : Col :=
  match t with
  | .int _ _ => ⟨cut c0.i e0 n ++ cut c1.i e1 m, [], []⟩
  | .bool _ => ⟨[], cut c0.b e0 n ++ cut c1.b e1 m, []⟩
  | _ => ⟨[], [], cut c0.s e0 n ++ cut c1.s e1 m⟩
/-- the same kind of cell -/
def likeV : Value → Value → Bool
  | .int k _, .int k' _ => decide (k = k')
  | .bool _, .bool _ => true
  | .string _, .string _ => true
  | _, _ => false
def likeL : List Value → List Value → Bool
  | [], [] => true
  | a :: l, b :: r => likeV a b && likeL l r
  | _, _ => false
theorem likeL_length : ∀ {l r : List Value}, likeL l r = true → l.length = r.length
  | [], [], _ => rfl
  | [], _ :: _, h => by simp [likeL] at h
  | _ :: _, [], h => by simp [likeL] at h
  | a :: l, b :: r, h => by
    simp only [likeL, Bool.and_eq_true] at h
    simp [likeL_length h.2]
theorem likeL_get : ∀ {l r : List Value} {f : Nat} {a b : Value}, likeL l r = true → l[f]? = some a → r[f]? = some b → likeV a b = true
  | [], r, f, a, b, _, h1, _ => by simp at h1
  | _ :: _, [], f, a, b, h, _, h2 => by simp at h2
  | a0 :: l, b0 :: r, f, a, b, h, h1, h2 => by
    simp only [likeL, Bool.and_eq_true] at h
    cases f with
    | zero => simp only [List.getElem?_cons_zero, Option.some.injEq] at h1 h2; subst h1; subst h2; exact h.1
    | succ f => simp only [List.getElem?_cons_succ] at h1 h2; exact likeL_get h.2 h1 h2
theorem like_cell {a b : Value} (h : likeV a b = true) (c : Col) (e : Nat) : cellVal a c e = cellVal b c e := by
  cases a <;> cases b <;> simp [likeV, cellVal] at h ⊢
  exact h
theorem like_ok {a b : Value} (h : likeV a b = true) (c : Col) (n : Nat) : colOk a c n ↔ colOk b c n := by
  cases a <;> cases b <;> simp [likeV, colOk] at h ⊢
theorem cat_ok {a : Value} {c0 c1 : Col} {e0 n e1 m N0 N1 : Nat} (hk : likeV a a = true) (h0 : colOk a c0 N0) (h1 : colOk a c1 N1) (hn : e0 + n ≤ N0) (hm : e1 + m ≤ N1) :
    colOk a (catCol a c0 e0 n c1 e1 m) (n + m) ∧ ∀ e, e < n + m → cellVal a (catCol a c0 e0 n c1 e1 m) e = if e < n then cellVal a c0 (e0 + e) else cellVal a c1 (e1 + (e - n)) := by
  cases a <;> simp only [likeV] at hk <;> try (cases hk)
  all_goals
    simp only [colOk] at h0 h1
    refine ⟨by simp only [colOk, catCol, List.length_append]; rw [cut_length (by omega), cut_length (by omega)], fun e he => ?_⟩
    simp only [cellVal, catCol, List.getD_eq_getElem?_getD]
    by_cases hlt : e < n
    · rw [if_pos hlt, List.getElem?_append_left (by rw [cut_length (by omega)]; exact hlt), cut_get hlt]
    · rw [if_neg hlt, List.getElem?_append_right (by rw [cut_length (by omega)]; omega), cut_length (by omega), cut_get (by omega)]
def catCols (e0 n e1 m : Nat) : List Value → List Col → List Col → List Col
  | t :: tm, c0 :: l0, c1 :: l1 => catCol t c0 e0 n c1 e1 m :: catCols e0 n e1 m tm l0 l1
  | _, _, _ => []
theorem catCols_get {e0 n e1 m : Nat} : ∀ {tm : List Value} {l0 l1 : List Col}, tm.length = l0.length → l0.length = l1.length → (catCols e0 n e1 m tm l0 l1).length = l0.length ∧
    ∀ (f : Nat) (c : Col), (catCols e0 n e1 m tm l0 l1)[f]? = some c → ∃ t c0 c1, tm[f]? = some t ∧ l0[f]? = some c0 ∧ l1[f]? = some c1 ∧ c = catCol t c0 e0 n c1 e1 m
  | [], [], [], _, _ => ⟨rfl, fun f c h => by simp [catCols] at h⟩
  | [], _ :: _, _, h, _ => by simp at h
  | _ :: _, [], _, h, _ => by simp at h
  | _, [], _ :: _, _, h => by simp at h
  | _, _ :: _, [], _, h => by simp at h
  | t :: tm, c0 :: l0, c1 :: l1, h0, h => by
    obtain ⟨h1, h2⟩ := catCols_get (e0 := e0) (n := n) (e1 := e1) (m := m) (tm := tm) (l0 := l0) (l1 := l1) (by simpa using h0) (by simpa using h)
    refine ⟨by simp [catCols, h1], fun f c hc => ?_⟩
    cases f with
    | zero =>
      simp only [catCols, List.getElem?_cons_zero, Option.some.injEq] at hc
      exact ⟨t, c0, c1, rfl, rfl, rfl, hc.symm⟩
    | succ f =>
      simp only [catCols, List.getElem?_cons_succ] at hc ⊢
      exact h2 f c hc
theorem setMany_get : ∀ (l : List Value) (cur : Array Value) (k j : Nat), k + l.length ≤ cur.size → (setMany cur k l)[j]? = if k ≤ j ∧ j < k + l.length then l[j - k]? else cur[j]?
  | [], cur, k, j, h => by
    simp only [setMany, List.length_nil]
    rw [if_neg (by omega)]
  | v :: l, cur, k, j, h => by
    simp only [setMany]
    rw [setMany_get l _ (k + 1) j (by simp at h ⊢; omega), Array.getElem?_setIfInBounds]
    simp only [List.length_cons] at h ⊢
    by_cases h1 : k + 1 ≤ j ∧ j < k + 1 + l.length
    · rw [if_pos h1, if_pos (by omega)]
      rw [show j - k = (j - (k + 1)) + 1 by omega, List.getElem?_cons_succ]
    · rw [if_neg h1]
      by_cases h2 : k = j
      · subst h2
        rw [if_pos rfl, if_pos (by omega), if_pos (by omega)]
        simp
      · rw [if_neg h2, if_neg (by omega)]
section
variable {R : Type} {D : Res R} {P : Program} {C : Ctx} {ρ : Env} {ft : Nat → Nat → Prop} {w w' : World}
/-- what is appended: the row that it lies in, from which element on, how many -/
def srcRow (σ : SS R) (tm : List Value) (y : Operand) : Option (Row × Nat × Nat) :=
  match ev σ.tm y with
  | some (.slice none 0 0) => match zeroCols tm 0 with
    | some cols => some (⟨tm, 0, cols⟩, 0, 0)
    | none => none
  | some (.slice (some ⟨j, e1, some q⟩) m _) =>
    match rowOf σ.hp[j]? with
    | some r => if Nat.beq (q % 1000000) (1000 * tm.length) && likeL r.tm tm then some (r, e1, m) else none
    | none => none
  | _ => none
theorem rowOf_nil {h : Hp R} {i : Nat} {r : Row} (hm : HM D C ρ ft h w) (hr : rowOf h[i]? = some r) : (ρ i).nil = true → (ρ i).cap = 0 := by
  intro hz
  unfold rowOf at hr
  split at hr
  · rename_i t0 r0 hi; exact (hm.at_ i _ hi).1.2.2.2.2.1 hz
  · rename_i r0 hi; exact (hm.at_ i _ hi).1.2.2.2.2.1 hz
  · cases hr
theorem srcRow_ok {σ : SS R} {tm : List Value} {y : Operand} {r : Row} {e1 m : Nat} {a : Act} (h : srcRow σ tm y = some (r, e1, m)) (ht : TM ρ σ.hp.length σ.tm a) (hm : HM D C ρ ft σ.hp w) (hv : e1 + m ≤ r.n) (h0 : 0 < tm.length) (h1k : tm.length < 1000) :
    r.cols.length = tm.length ∧ (∀ (f : Nat) (t : Value) (c : Col), tm[f]? = some t → r.cols[f]? = some c → colOk t c r.n) ∧
    ∃ A c', a.eval y = .slice A m c' ∧ ∃ news : List Value, news.length = m * tm.length ∧ (∀ w2 : World, w2.heap = w.heap → (Builtin.firstCells tm.length m (a.eval y)).run P w2 = .ok news.toArray w2) ∧ (∀ v ∈ news, v.oneCell' = true) ∧
      ∀ (f : Nat) (t : Value) (c : Col) (e : Nat), tm[f]? = some t → r.cols[f]? = some c → e < m → news[e * tm.length + f]? = some (cellVal t c (e1 + e)) := by
  unfold srcRow at h
  split at h
  · rename_i ha
    split at h
    · rename_i cols hcols
      injection h with h
      injection h with h2 h3
      injection h3 with h3 h4
      subst h2; subst h3; subst h4
      obtain ⟨c1, c2⟩ := zeroCols_ok hcols
      have hv1 := (ev_eval ht ha).1
      simp only [ren] at hv1
      refine ⟨c1, fun f t c g1 g2 => (c2 f t c g1 g2).1, none, 0, hv1, [], by simp, (fun w2 _ => by rw [hv1]; simp [Builtin.firstCells]), (fun v hv => by cases hv), fun f t c e _ _ he => by omega⟩
    · cases h
  · rename_i j e1' q m' c ha
    split at h
    · rename_i r' hr
      split at h
      · rename_i hc
        simp only [Bool.and_eq_true] at hc
        have hq := Nat.eq_of_beq_eq_true hc.1
        injection h with h
        injection h with h2 h3
        injection h3 with h3 h4
        subst h2; subst h3; subst h4
        have hlen := likeL_length hc.2
        obtain ⟨g1, g2, g3, g4, g5, g6⟩ := row_reads hm hr
        have hnil := rowOf_nil hm hr
        have hv1 := (ev_eval ht ha).1
        simp only [ren] at hv1
        have hok : ∀ (f : Nat) (t : Value) (c : Col), tm[f]? = some t → r'.cols[f]? = some c → colOk t c r'.n := fun f t c k1 k2 => by
          have hfl : f < r'.tm.length := by rw [hlen]; exact (List.getElem?_eq_some_iff.1 k1).1
          have k3 := List.getElem?_eq_getElem hfl
          exact (like_ok (likeL_get hc.2 k3 k1) c _).1 (g5 f _ c k3 k2)
        refine ⟨by rw [g4, hlen], hok, ?_⟩
        have hreal : ∀ (A : Option Addr) (c' : Nat), a.eval y = .slice A m' c' → (m' = 0 ∨ A = some ⟨(ρ j).blk, (ρ j).off + e1' * tm.length, none⟩) → ∃ A c', a.eval y = .slice A m' c' ∧ ∃ news : List Value, news.length = m' * tm.length ∧ (∀ w2 : World, w2.heap = w.heap → (Builtin.firstCells tm.length m' (a.eval y)).run P w2 = .ok news.toArray w2) ∧ (∀ v ∈ news, v.oneCell' = true) ∧
            ∀ (f : Nat) (t : Value) (c : Col) (e : Nat), tm[f]? = some t → r'.cols[f]? = some c → e < m' → news[e * tm.length + f]? = some (cellVal t c (e1' + e)) := by
          intro A c' hA hcase
          refine ⟨A, c', hA, ?_⟩
          rcases hcase with hm0 | hA2
          · subst hm0
            refine ⟨[], by simp, fun w2 _ => ?_, (fun v hv => by cases hv), fun f t c e _ _ he => by omega⟩
            rw [hA]
            cases A <;> simp [Builtin.firstCells, loadCells, loadCellsFrom]
          · subst hA2
            refine ⟨(List.range (m' * tm.length)).map fun k => match r'.tm[k % tm.length]?, r'.cols[k % tm.length]? with | some t, some c => cellVal t c (e1' + k / tm.length) | _, _ => undef, by simp, ?_, ?_, ?_⟩
            · intro w2 hw2
              rw [hA]
              refine run_firstCells_some w2 tm.length m' _ m' c' _ (by simp) (fun k v hk => ?_)
              have hkl : k < m' * tm.length := by have := (List.getElem?_eq_some_iff.1 hk).1; simpa using this
              simp only [List.getElem?_map, List.getElem?_range hkl, Option.map_some, Option.some.injEq] at hk
              have hmod : k % tm.length < r'.tm.length := by rw [hlen]; exact Nat.mod_lt _ h0
              have hmod2 : k % tm.length < r'.cols.length := by rw [g4]; exact hmod
              have q1 := List.getElem?_eq_getElem hmod
              have q2 := List.getElem?_eq_getElem hmod2
              rw [q1, q2] at hk
              have hdiv : k / tm.length < m' := Nat.div_lt_of_lt_mul (by rw [Nat.mul_comm]; exact hkl)
              have := g6 _ _ _ (e1' + k / tm.length) q1 q2 (by omega)
              rw [World.cell?_of_block (w := w) (by rw [hw2]), add_at, ← hk, ← this]
              have hdm : k / tm.length * tm.length + k % tm.length = k := by rw [Nat.mul_comm]; exact Nat.div_add_mod k tm.length
              congr 2
              rw [hlen, Nat.add_mul, Nat.add_assoc, Nat.add_assoc, hdm]
            · intro v hv
              obtain ⟨k, hk, rfl⟩ := List.mem_map.1 hv
              have hmod : k % tm.length < r'.tm.length := by rw [hlen]; exact Nat.mod_lt _ h0
              have hmod2 : k % tm.length < r'.cols.length := by rw [g4]; exact hmod
              rw [List.getElem?_eq_getElem hmod, List.getElem?_eq_getElem hmod2]
              exact cellVal_one (g5 _ _ _ (List.getElem?_eq_getElem hmod) (List.getElem?_eq_getElem hmod2)) _
            · intro f t c e k1 k2 he
              have hfl : f < tm.length := (List.getElem?_eq_some_iff.1 k1).1
              have hlt : e * tm.length + f < m' * tm.length := by
                have := Nat.mul_le_mul_right tm.length (show e + 1 ≤ m' from he)
                rw [Nat.add_mul, Nat.one_mul] at this
                omega
              have d1 : (e * tm.length + f) % tm.length = f := by rw [Nat.add_comm, Nat.add_mul_mod_self_right, Nat.mod_eq_of_lt hfl]
              have d2 : (e * tm.length + f) / tm.length = e := by rw [Nat.add_comm, Nat.add_mul_div_right _ _ h0, Nat.div_eq_of_lt hfl, Nat.zero_add]
              have k3 := List.getElem?_eq_getElem (show f < r'.tm.length by rw [hlen]; exact hfl)
              simp only [List.getElem?_map, List.getElem?_range hlt, Option.map_some, d1, d2, k3, k2]
              rw [like_cell (likeL_get hc.2 k3 k1)]
        have e1 : q % 1000000 / 1000 = tm.length := by omega
        have e2 : q % 1000 = 0 := by omega
        unfold renS at hv1
        simp only at hv1
        by_cases hn : (ρ j).nil = true
        · rw [if_pos hn] at hv1
          exact hreal _ _ hv1 (Or.inl (by have := hnil hn; omega))
        · rw [if_neg hn] at hv1
          by_cases hex : q / 1000000 ≠ 0 ∧ (ρ j).cap ≤ e1'
          · rw [if_pos hex] at hv1
            exact hreal _ _ hv1 (Or.inl (by omega))
          · rw [if_neg hex] at hv1
            refine hreal _ _ hv1 (Or.inr ?_)
            simp only [renA, cellOf, e1, e2, Nat.add_zero]
      · cases h
    · cases h
  · cases h
section
variable (w : World)
theorem append_room {t t2 ty e : TypeId} {i : TypeInfo} {el2 : TypeId} (ht : P.underlying t = some (.slice e)) (ht2 : P.underlying t2 = some (.slice el2)) (hi : P.info? e = some i) {g o sLen sCap m c : Nat} {A : Option Addr} {cur : Array Value} {news : List Value}
    (hg : w.heap[g]? = some (.cells cur e (0, 0))) (hf : (Builtin.firstCells i.size m (.slice A m c)).run P w = .ok news.toArray w) (h1 : ∀ u ∈ news, u.oneCell' = true) (hroom : sLen + m ≤ sCap) (hfit : o + sLen * i.size + news.length ≤ cur.size) :
    (Builtin.append_ #[t, t2] ty #[.slice (some ⟨g, o, none⟩) sLen sCap, .slice A m c]).run P w = .ok (.slice (some ⟨g, o, none⟩) (sLen + m) sCap) (w.setRow g (setMany cur (o + sLen * i.size) news)) := by
  have hst := run_storeMany (P := P) g (o + sLen * i.size) e news 0 cur w hg (by simpa using hfit) h1
  simp only [Nat.add_zero] at hst
  simp [Builtin.append_, run_underlying ht, run_underlying ht2, sizeOf, typeInfo, hi, Builtin.lenOf, hroom, hf, add_at, hst]
theorem append_grow {t t2 ty e : TypeId} {i : TypeInfo} {z : Value} {el2 : TypeId} (ht : P.underlying t = some (.slice e)) (ht2 : P.underlying t2 = some (.slice el2)) (hi : P.info? e = some i) (hz : i.zero = some z) {sLen sCap m c : Nat} {A B : Option Addr} {olds news : List Value}
    (hf0 : (Builtin.firstCells i.size sLen (.slice B sLen sCap)).run P w.drew = .ok olds.toArray w.drew) (hf : (Builtin.firstCells i.size m (.slice A m c)).run P w.drew = .ok news.toArray w.drew)
    (hg : sCap < sLen + m) (h63 : sLen + m ≤ 140737488355328) (hfit : (sLen + m) * i.bytes ≤ 140737488355328) :
    (Builtin.append_ #[t, t2] ty #[.slice B sLen sCap, .slice A m c]).run P w =
      .ok (.slice (some ⟨w.heap.size, 0, none⟩) (sLen + m) (grownCap w (sLen + m) sCap e)) (w.drew.alloc (.cells (olds ++ news ++ (Builtin.zeroCells z.cells (grownCap w (sLen + m) sCap e - (sLen + m))).toList).toArray e)) := by
  have hn : ¬ (sLen + m ≤ sCap) := by omega
  have h63' : ¬ (9223372036854775807 < ((sLen : Int) + (m : Int))) := by omega
  have h48 := growslice_fits (need := sLen + m) (old := sCap) (bytes := i.bytes) hg hfit
  have h48' : ¬ (281474976710656 < Builtin.nextslicecap (sLen + m) sCap * i.bytes) := by omega
  simp [Builtin.append_, run_underlying ht, run_underlying ht2, sizeOf, typeInfo, zeroValue, hi, hz, Builtin.lenOf, hn, h63', h48', Question.forced, hf, hf0, newRow, grownCap]
  congr 2
  apply Array.ext'
  simp [List.append_assoc]
end
/-- the old row renounced, a new one in its place -/
theorem HM.moveRow {h : Hp R} (hm : HM D C ρ ft h w) (i : Nat) (t : TypeId) (r : Row) (p : Place) (hk : Kept (ft i) w w') (hp : p.nil = false) (hblk : (ft i p.blk ∨ w.heap.size ≤ p.blk) ∧ p.blk < w'.heap.size) (h0 : 0 < r.tm.length) (hn : r.n ≤ p.cap) (hc : p.cap ≤ maxLen)
    (arr : Array Value) (harr : w'.heap[p.blk]? = some (.cells arr t (0, 0))) (hs : arr.size = p.off + p.cap * r.tm.length) (hr : RowIn r arr p.off) :
    HM D C (upd ρ h.length p) (upd (upd ft i (fun _ => False)) h.length (fun k => k = p.blk)) (h.set i none ++ [some (.inr (.inl (t, r)))]) w' := by
  have key : ∀ l k, h.length ≤ l → upd (upd ft i (fun _ => False)) h.length (fun k => k = p.blk) l k → l = h.length ∧ k = p.blk := fun l k hl hlk => by
    by_cases he : l = h.length
    · subst he; rw [upd_same] at hlk; exact ⟨rfl, hlk⟩
    · rw [upd_ne _ _ _ he] at hlk
      by_cases hli : l = i
      · subst hli; rw [upd_same] at hlk; exact hlk.elim
      · rw [upd_ne _ _ _ hli] at hlk
        obtain ⟨B', hB'⟩ := hm.some_ l k hlk
        have := (List.getElem?_eq_some_iff.1 hB').1
        omega
  have keyi : ∀ k, i < h.length → ¬ upd (upd ft i (fun _ => False)) h.length (fun k => k = p.blk) i k := fun k hi hk => by
    rw [upd_ne _ _ _ (by omega), upd_same] at hk; exact hk
  refine hm.step (fun j => j = i) (hk.mono fun k hk => ⟨i, rfl, hk⟩) (fun j hj => upd_lt _ _ _ hj) (by simp) ?_ ?_ ?_ ?_
  · intro j B' hj hB'
    rcases Nat.lt_or_ge j h.length with hl | hge
    · have := hj hl
      subst this
      rw [List.getElem?_append_left (by simpa using hl), List.getElem?_set_self hl] at hB'
      injection hB' with hB'; cases hB'
    · have : j = h.length := by
        rcases Nat.lt_or_ge h.length j with hlt | hle
        · rw [List.getElem?_eq_none (by simp; omega)] at hB'; cases hB'
        · omega
      subst this
      rw [List.getElem?_append_right (by simp)] at hB'
      simp at hB'
      subst hB'
      refine ⟨?_, trivial⟩
      simp only [hold, upd_same]
      exact ⟨fun k => by simp [hp], h0, hn, hc, (fun hz => by rw [hp] at hz; cases hz), arr, fun _ => ⟨harr, hs⟩, hr⟩
  · intro j hj hne
    refine ⟨by rw [List.getElem?_append_left (by simpa using hj), List.getElem?_set_ne (fun e => hne e.symm)], fun k => by rw [upd_lt _ _ _ hj, upd_ne _ _ _ hne]⟩
  · intro j k hj hk'
    rcases Nat.lt_or_ge j h.length with hl | hge
    · have := hj hl
      subst this
      exact absurd hk' (keyi k hl)
    · obtain ⟨rfl, rfl⟩ := key j k hge hk'
      refine ⟨hblk.1.imp (fun hh => ⟨i, rfl, hh⟩) id, hblk.2, _, List.getElem?_append_right (by simp) |>.trans (by simp; rfl)⟩
  · intro a b k ha hb hka hkb
    have red : ∀ l, (l < h.length → l = i) → upd (upd ft i (fun _ => False)) h.length (fun k => k = p.blk) l k → l = h.length := fun l hl hlk => by
      rcases Nat.lt_or_ge l h.length with hlt | hge
      · have := hl hlt
        subst this
        exact absurd hlk (keyi k hlt)
      · exact (key l k hge hlk).1
    rw [red a ha hka, red b hb hkb]
theorem like_self {a b : Value} (h : likeV a b = true) : likeV a a = true := by
  cases a <;> cases b <;> simp [likeV] at h ⊢
theorem like_symm {a b : Value} (h : likeV a b = true) : likeV b a = true := by
  cases a <;> cases b <;> simp [likeV] at h ⊢
  exact h.symm
/-- the joined row lies there -/
theorem cat_row {tm0 tm : List Value} {cols0 cols1 : List Col} {e0 n e1 m N0 N1 o : Nat} {arr : Array Value} (hl : likeL tm0 tm = true) (hc0 : cols0.length = tm0.length) (hc1 : cols1.length = tm.length)
    (h0 : ∀ (f : Nat) (t : Value) (c : Col), tm0[f]? = some t → cols0[f]? = some c → colOk t c N0) (h1 : ∀ (f : Nat) (t : Value) (c : Col), tm[f]? = some t → cols1[f]? = some c → colOk t c N1) (hn : e0 + n ≤ N0) (hm : e1 + m ≤ N1)
    (g0 : ∀ (f : Nat) (t : Value) (c : Col) (e : Nat), tm0[f]? = some t → cols0[f]? = some c → e < n → arr[o + (e * tm.length + f)]? = some (cellVal t c (e0 + e)))
    (g1 : ∀ (f : Nat) (t : Value) (c : Col) (e : Nat), tm[f]? = some t → cols1[f]? = some c → e < m → arr[o + ((n + e) * tm.length + f)]? = some (cellVal t c (e1 + e))) :
    RowIn ⟨tm0, n + m, catCols e0 n e1 m tm0 cols0 cols1⟩ arr o := by
  have hlen := likeL_length hl
  obtain ⟨k1, k2⟩ := catCols_get (e0 := e0) (n := n) (e1 := e1) (m := m) (tm := tm0) (l0 := cols0) (l1 := cols1) hc0.symm (by rw [hc0, hc1, hlen])
  have main : ∀ (f : Nat) (t : Value) (c : Col), tm0[f]? = some t → (catCols e0 n e1 m tm0 cols0 cols1)[f]? = some c → ∃ t' c0 c1, tm[f]? = some t' ∧ cols0[f]? = some c0 ∧ cols1[f]? = some c1 ∧ c = catCol t c0 e0 n c1 e1 m ∧ likeV t t' = true := fun f t c ht hc => by
    obtain ⟨t2, c0, c1, qt, q0, q1, rfl⟩ := k2 f c hc
    rw [ht] at qt
    injection qt with qt
    subst qt
    have hfl : f < tm.length := by rw [← hlen]; exact (List.getElem?_eq_some_iff.1 ht).1
    exact ⟨_, c0, c1, List.getElem?_eq_getElem hfl, q0, q1, rfl, likeL_get hl ht (List.getElem?_eq_getElem hfl)⟩
  refine ⟨by rw [k1, hc0], fun f t c ht hc => ?_, fun f t c e ht hc he => ?_⟩
  · obtain ⟨t', c0, c1, q, q0, q1, rfl, hk⟩ := main f t c ht hc
    exact (cat_ok (like_self hk) (h0 f t c0 ht q0) ((like_ok hk c1 _).2 (h1 f t' c1 q q1)) hn hm).1
  · obtain ⟨t', c0, c1, q, q0, q1, rfl, hk⟩ := main f t c ht hc
    simp only at he ⊢
    rw [(cat_ok (like_self hk) (h0 f t c0 ht q0) ((like_ok hk c1 _).2 (h1 f t' c1 q q1)) hn hm).2 e he, hlen]
    by_cases hlt : e < n
    · rw [if_pos hlt]
      exact g0 f t c0 e ht q0 hlt
    · rw [if_neg hlt]
      have := g1 f t' c1 (e - n) q q1 (by omega)
      rw [show n + (e - n) = e by omega] at this
      rw [this, like_cell hk]
/-- a new block: the old ones, the new ones, room -/
theorem joined_get {n m s : Nat} {olds news zs : List Value} (h0 : olds.length = n * s) (h1 : news.length = m * s) : ∀ (f e : Nat), f < s →
    (e < n → (olds ++ news ++ zs).toArray[0 + (e * s + f)]? = olds[e * s + f]?) ∧ (e < m → (olds ++ news ++ zs).toArray[0 + ((n + e) * s + f)]? = news[e * s + f]?) := by
  intro f e hf
  refine ⟨fun he => ?_, fun he => ?_⟩
  · have := Nat.mul_le_mul_right s (show e + 1 ≤ n from he)
    rw [Nat.add_mul, Nat.one_mul] at this
    rw [Nat.zero_add, List.getElem?_toArray, List.append_assoc, List.getElem?_append_left (by omega)]
  · have := Nat.mul_le_mul_right s (show e + 1 ≤ m from he)
    rw [Nat.add_mul, Nat.one_mul] at this
    rw [Nat.zero_add, List.getElem?_toArray, List.append_assoc, List.getElem?_append_right (by rw [h0, Nat.add_mul]; omega), List.getElem?_append_left (by rw [h0, Nat.add_mul]; omega)]
    congr 1
    rw [h0, Nat.add_mul]; omega
def need (tagged : Bool) (m : Nat) (p : Prop) : Prop :=
  match tagged with
  | true => p
  | false => 0 < m ∧ p
theorem need_out {b : Bool} {m : Nat} {p : Prop} (h : need b m p) : (b = false → 0 < m) ∧ p := by
  cases b with
  | true => exact ⟨(fun h => by cases h), h⟩
  | false => exact ⟨fun _ => h.1, h.2⟩
def opAppend (P : Program) (σ : SS R) (t t2 : TypeId) (y z : Operand) : Option (Out R) :=
  match elemOf P t, P.underlying t2 with
  | some (el, tm, by_), some (.slice _) =>
    match srcRow σ tm z, ev σ.tm y with
    | some (r1, e1, m), some (.slice none 0 0) =>
      match zeroCols tm 0 with
      | some zc => some ⟨e1 + m ≤ r1.n ∧ m * by_ ≤ 140737488355328 ∧ m ≤ 140737488355328, .slice (some ⟨σ.hp.length, 0, some (1000 * tm.length)⟩) (0 + m) 0, none, σ.hp ++ [some (.inr (.inl (el, ⟨tm, 0 + m, catCols 0 0 e1 m tm zc r1.cols⟩)))], [], [(σ.hp.length, 0)]⟩
      | none => none
    | some (r1, e1, m), some (.slice (some ⟨i, e0, some q⟩) n _) =>
      match σ.hp[i]? with
      | some (some (.inr (.inl (t', r)))) =>
        if Nat.beq (q % 1000000) (1000 * tm.length) && likeL r.tm tm && Nat.beq t' el then
          some ⟨need (Nat.blt q 1000000) m (e0 + n ≤ r.n ∧ e1 + m ≤ r1.n ∧ (n + m) * by_ ≤ 140737488355328 ∧ n + m ≤ 140737488355328), .slice (some ⟨σ.hp.length, 0, some (1000 * tm.length)⟩) (n + m) 0, none,
            σ.hp.set i none ++ [some (.inr (.inl (el, ⟨r.tm, n + m, catCols e0 n e1 m r.tm r.cols r1.cols⟩)))], [], [(i, 0), (σ.hp.length, 0)]⟩
        else none
      | _ => none
    | _, _ => none
  | _, _ => none
theorem zeroCols_like : ∀ {tm : List Value} {n : Nat} {cols : List Col}, zeroCols tm n = some cols → likeL tm tm = true
  | [], _, _, _ => rfl
  | t :: tm, n, cols, h => by
    simp only [zeroCols] at h
    split at h
    · rename_i c r hc hr
      simp only [likeL, Bool.and_eq_true]
      refine ⟨?_, zeroCols_like hr⟩
      cases t <;> simp [zeroCol, likeV] at hc ⊢
    · cases h
theorem zeroCells_length (z : Array Value) (n : Nat) : (Builtin.zeroCells z n).toList.length = n * z.size := by rw [Array.length_toList, size_zeroCells]
theorem opAppend_ok {σ : SS R} {o : Oper} {t t2 : TypeId} {y z : Operand} {x : Out R} (ho : o.op = .call { callee := .builtin .append, args := #[y, z], argTypes := #[t, t2] }) (h : opAppend P σ t t2 y z = some x) : OpOk D P o σ x := by
  unfold opAppend at h
  split at h
  · rename_i el tm by_ el2 he hu2
    obtain ⟨inf, zv, hu, hi, hz, htm, hsz, hby, hfl, h0, h1k⟩ := elemOf_ok he
    have hzs : zv.cells.size = tm.length := by rw [← htm]; simp
    have e1' : 1000 * tm.length / 1000000 = 0 := by omega
    have e2' : 1000 * tm.length % 1000 = 0 := by omega
    split at h
    · rename_i r1 e1 m hsrc hy
      split at h
      · rename_i zc hzc
        injection h with h
        subst h
        refine ⟨fun C ρ ft a w K Q ht hli hm hv hK => ?_, by simp, fun _ b hb => by cases hb⟩
        obtain ⟨v0, v1, v2⟩ := hv
        obtain ⟨s1, s2, A, c', s3, news, s4, s5, s6, s7⟩ := srcRow_ok hsrc ht hm v0 h0 h1k
        obtain ⟨c1, c2⟩ := zeroCols_ok hzc
        have hy1 := (ev_eval ht hy).1
        simp only [ren] at hy1
        have hself : likeL tm tm = true := zeroCols_like hzc
        by_cases hm0 : m = 0
        · subst hm0
          have hrun : (execOp a.eval o).run P w = .ok (.value (.slice none 0 0)) w := by
            have hf := s5 w rfl
            rw [s3] at hf
            simp only [execOp, ho, resolve, invoke, builtin, Sem.run_bind, Sem.run_pure, Result.andThen_ok, List.map_toArray, List.map_cons, List.map_nil, hy1, s3]
            have hn0 : news = [] := List.eq_nil_of_length_eq_zero (by omega)
            subst hn0
            simp [Builtin.append_, run_underlying hu, run_underlying hu2, sizeOf, typeInfo, hi, Builtin.lenOf, hsz]
            rw [hf]; rfl
          have hrow : RowIn ⟨tm, 0 + 0, catCols 0 0 e1 0 tm zc r1.cols⟩ #[] 0 :=
            cat_row hself c1 s1 (fun f t c g1 g2 => (c2 f t c g1 g2).1) s2 (Nat.le_refl 0) v0 (fun f t c e _ _ he => by omega) (fun f t c e _ _ he => by omega)
          have hp := hm.pushNil el ⟨tm, 0 + 0, catCols 0 0 e1 0 tm zc r1.cols⟩ h0 rfl hrow.len hrow.col 0 0
          have := hK _ _ _ (fun i hi => upd_lt ρ σ.hp.length ⟨0, 0, 0, true⟩ hi) hp
          refine wp_value hrun ?_
          simpa [ren, renS, upd_same] using this
        · have hf := s5 w.drew rfl
          rw [s3] at hf
          have hrun : (execOp a.eval o).run P w = .ok (.value (.slice (some ⟨w.heap.size, 0, none⟩) (0 + m) (grownCap w (0 + m) 0 el))) (w.drew.alloc (.cells ([] ++ news ++ (Builtin.zeroCells zv.cells (grownCap w (0 + m) 0 el - (0 + m))).toList).toArray el)) := by
            have hr := append_grow (P := P) (t := t) (t2 := t2) (ty := o.type) w hu hu2 hi hz (sLen := 0) (sCap := 0) (m := m) (c := c') (A := A) (B := none) (olds := []) (news := news) (by simp [Builtin.firstCells]) (by rw [hsz]; exact hf) (by omega) (by omega) (by rw [hby, Nat.zero_add]; exact v1)
            simp only [execOp, ho, resolve, invoke, builtin, Sem.run_bind, Sem.run_pure, Result.andThen_ok, List.map_toArray, List.map_cons, List.map_nil, hy1, s3, hr]
          have hcap := grownCap_ge w (0 + m) 0 el
          have hcap2 := grownCap_le_maxLen w (0 + m) 0 el (by unfold maxLen; omega)
          have hrow : RowIn ⟨tm, 0 + m, catCols 0 0 e1 m tm zc r1.cols⟩ ([] ++ news ++ (Builtin.zeroCells zv.cells (grownCap w (0 + m) 0 el - (0 + m))).toList).toArray 0 := by
            refine cat_row hself c1 s1 (fun f t c g1 g2 => (c2 f t c g1 g2).1) s2 (Nat.le_refl 0) v0 (fun f t c e _ _ he => by omega) (fun f t c e g1 g2 he => ?_)
            have hfl' : f < tm.length := (List.getElem?_eq_some_iff.1 g1).1
            rw [(joined_get (n := 0) (m := m) (s := tm.length) (by simp) s4 f e hfl').2 he]
            exact s7 f t c e g1 g2 he
          have hp := hm.drew.pushRow el ⟨tm, 0 + m, catCols 0 0 e1 m tm zc r1.cols⟩ _ (grownCap w (0 + m) 0 el) h0 hcap hcap2 (by
            simp only [List.nil_append, List.size_toArray, List.length_append, s4, zeroCells_length, hzs, ← Nat.add_mul]
            congr 1; omega) hrow
          have := hK _ _ _ (fun i hi => upd_lt ρ σ.hp.length ⟨w.heap.size, 0, grownCap w (0 + m) 0 el, false⟩ hi) hp
          refine wp_value hrun ?_
          simpa [ren, renS, renA, upd_same, cellOf, e1', e2'] using this
      · cases h
    · rename_i r1 e1 m i e0 q n c hsrc hy
      split at h
      · rename_i t' r hir
        split at h
        · rename_i hc
          simp only [Bool.and_eq_true] at hc
          have hq := Nat.eq_of_beq_eq_true hc.1.1
          have hlike := hc.1.2
          have hte := Nat.eq_of_beq_eq_true hc.2
          subst hte
          have hlen := likeL_length hlike
          have hq1 : q % 1000000 / 1000 = tm.length := by omega
          have hq2 : q % 1000 = 0 := by omega
          injection h with h
          subst h
          refine ⟨fun C ρ ft a w K Q ht hli hm hv hK => ?_, by simp, fun _ b hb => by cases hb⟩
          obtain ⟨v0, v1, v2, v3, v4⟩ := need_out hv
          obtain ⟨s1, s2, A, c', s3, news, s4, s5, s6, s7⟩ := srcRow_ok hsrc ht hm v2 h0 h1k
          obtain ⟨hy1, hy2⟩ := ev_eval ht hy
          simp only [ren] at hy1
          simp only [inb, Bool.and_eq_true, Nat.blt_eq] at hy2
          have hil : i < σ.hp.length := hy2.1
          obtain ⟨g1, g2, g3, g4, g4', arr, g5, g6⟩ := (hm.at_ i _ hir).1
          have hq0 : ¬ Nat.blt q 1000000 = true → 1 ≤ q / 1000000 := fun hh => by
            have : ¬ q < 1000000 := fun hlt => hh (by rw [Nat.blt_eq]; exact hlt)
            omega
          have hqt : q / 1000000 ≠ 0 → 0 < m := fun hh => v0 (by
            cases hb : Nat.blt q 1000000 with
            | false => rfl
            | true => rw [Nat.blt_eq] at hb; omega)
          have h0' : 0 < r.tm.length := g2
          -- behind a growth
          have grow : ∀ (B : Option Addr) (cap0 : Nat) (olds : List Value), a.eval y = .slice B n cap0 → olds.length = n * tm.length → (∀ w2 : World, w2.heap = w.heap → (Builtin.firstCells tm.length n (.slice B n cap0)).run P w2 = .ok olds.toArray w2) →
              (∀ (f : Nat) (t : Value) (c : Col) (e : Nat), r.tm[f]? = some t → r.cols[f]? = some c → e < n → olds[e * tm.length + f]? = some (cellVal t c (e0 + e))) → cap0 < n + m → o.wp P a w K Q := by
            intro B cap0 olds hB hol hof hog hlt
            have hf := s5 w.drew rfl
            rw [s3] at hf
            have hr := append_grow (P := P) (t := t) (t2 := t2) (ty := o.type) w hu hu2 hi hz (sLen := n) (sCap := cap0) (m := m) (c := c') (A := A) (B := B) (olds := olds) (news := news) (by rw [hsz]; exact hof w.drew rfl) (by rw [hsz]; exact hf) hlt (by omega) (by rw [hby]; exact v3)
            have hrun : (execOp a.eval o).run P w = .ok (.value (.slice (some ⟨w.heap.size, 0, none⟩) (n + m) (grownCap w (n + m) cap0 t'))) (w.drew.alloc (.cells (olds ++ news ++ (Builtin.zeroCells zv.cells (grownCap w (n + m) cap0 t' - (n + m))).toList).toArray t')) := by
              simp only [execOp, ho, resolve, invoke, builtin, Sem.run_bind, Sem.run_pure, Result.andThen_ok, List.map_toArray, List.map_cons, List.map_nil, hB, s3, hr]
            have hcap := grownCap_ge w (n + m) cap0 t'
            have hcap2 := grownCap_le_maxLen w (n + m) cap0 t' (by unfold maxLen; omega)
            have hrow : RowIn ⟨r.tm, n + m, catCols e0 n e1 m r.tm r.cols r1.cols⟩ (olds ++ news ++ (Builtin.zeroCells zv.cells (grownCap w (n + m) cap0 t' - (n + m))).toList).toArray 0 := by
              refine cat_row hlike g6.len s1 g6.col s2 v1 v2 (fun f t c e k1 k2 he => ?_) (fun f t c e k1 k2 he => ?_)
              · have hfl' : f < tm.length := by rw [← hlen]; exact (List.getElem?_eq_some_iff.1 k1).1
                rw [(joined_get hol s4 f e hfl').1 he]
                exact hog f t c e k1 k2 he
              · have hfl' : f < tm.length := (List.getElem?_eq_some_iff.1 k1).1
                rw [(joined_get hol s4 f e hfl').2 he]
                exact s7 f t c e k1 k2 he
            have hp := hm.moveRow (w' := w.drew.alloc (.cells (olds ++ news ++ (Builtin.zeroCells zv.cells (grownCap w (n + m) cap0 t' - (n + m))).toList).toArray t')) i t' ⟨r.tm, n + m, catCols e0 n e1 m r.tm r.cols r1.cols⟩ ⟨w.heap.size, 0, grownCap w (n + m) cap0 t', false⟩ ((Kept.refl _ _).drew.alloc _) rfl ⟨Or.inr (Nat.le_refl _), by simp⟩ h0' hcap hcap2 _ (heap_alloc_new w.drew _) (by
              simp only [List.size_toArray, List.length_append, hol, s4, zeroCells_length, hzs, hlen, ← Nat.add_mul, Nat.zero_add]
              congr 1; omega) hrow
            have := hK _ _ _ (fun j hj => upd_lt ρ σ.hp.length ⟨w.heap.size, 0, grownCap w (n + m) cap0 t', false⟩ hj) hp
            refine wp_value hrun ?_
            simpa [ren, renS, renA, upd_same, cellOf, e1', e2'] using this
          unfold renS at hy1
          simp only at hy1
          by_cases hn : (ρ i).nil = true
          · rw [if_pos hn] at hy1
            have hcap0 := g4' hn
            have hn0 : n = 0 := by omega
            subst hn0
            by_cases hm0 : m = 0
            · subst hm0
              have hrun : (execOp a.eval o).run P w = .ok (.value (.slice none 0 0)) w := by
                have hf := s5 w rfl
                rw [s3] at hf
                simp only [execOp, ho, resolve, invoke, builtin, Sem.run_bind, Sem.run_pure, Result.andThen_ok, List.map_toArray, List.map_cons, List.map_nil, hy1, s3]
                have hn0 : news = [] := List.eq_nil_of_length_eq_zero (by omega)
                subst hn0
                simp [Builtin.append_, run_underlying hu, run_underlying hu2, sizeOf, typeInfo, hi, Builtin.lenOf, hsz]
                rw [hf]; rfl
              have hrow : RowIn ⟨r.tm, 0 + 0, catCols e0 0 e1 0 r.tm r.cols r1.cols⟩ #[] 0 :=
                cat_row hlike g6.len s1 g6.col s2 v1 v2 (fun f t c e _ _ he => by omega) (fun f t c e _ _ he => by omega)
              have hp := (hm.drop i).pushNil t' ⟨r.tm, 0 + 0, catCols e0 0 e1 0 r.tm r.cols r1.cols⟩ h0' rfl hrow.len hrow.col 0 0
              rw [List.length_set] at hp
              have := hK _ _ _ (fun i hi => upd_lt ρ σ.hp.length ⟨0, 0, 0, true⟩ hi) hp
              refine wp_value hrun ?_
              simpa [ren, renS, upd_same] using this
            · exact grow none 0 [] hy1 (by simp) (fun w2 _ => by simp [Builtin.firstCells]) (fun f t c e _ _ he => by omega) (by omega)
          · have hnf : (ρ i).nil = false := by simpa using hn
            obtain ⟨g7, g8⟩ := g5 hnf
            rw [if_neg hn] at hy1
            by_cases hex : q / 1000000 ≠ 0 ∧ (ρ i).cap ≤ e0
            · rw [if_pos hex] at hy1
              have hm0 := hqt hex.1
              have hn0 : n = 0 := by omega
              subst hn0
              exact grow _ 0 [] hy1 (by simp) (fun w2 _ => by simp [Builtin.firstCells, loadCells, loadCellsFrom]) (fun f t c e _ _ he => by omega) (by omega)
            · rw [if_neg hex] at hy1
              have hA : renA ρ ⟨i, e0, some q⟩ = ⟨(ρ i).blk, (ρ i).off + e0 * tm.length, none⟩ := by simp only [renA, cellOf, hq1, hq2, Nat.add_zero]
              rw [hA] at hy1
              rw [hlen] at g8
              by_cases hroom : n + m ≤ (ρ i).cap - e0
              · have hf := s5 w rfl
                rw [s3] at hf
                have hmul : (e0 + n + m) * tm.length ≤ (ρ i).cap * tm.length := Nat.mul_le_mul_right _ (by omega)
                rw [Nat.add_mul, Nat.add_mul] at hmul
                have hfit : (ρ i).off + e0 * tm.length + n * tm.length + news.length ≤ arr.size := by rw [s4, g8]; omega
                have hr := append_room (P := P) (t := t) (t2 := t2) (ty := o.type) w hu hu2 hi (g := (ρ i).blk) (o := (ρ i).off + e0 * tm.length) (sLen := n) (sCap := (ρ i).cap - e0) (m := m) (c := c') (A := A) (cur := arr) (news := news) g7 (by rw [hsz]; exact hf) s6 hroom (by rw [hsz]; exact hfit)
                rw [hsz] at hr
                have hrun : (execOp a.eval o).run P w = .ok (.value (.slice (some ⟨(ρ i).blk, (ρ i).off + e0 * tm.length, none⟩) (n + m) ((ρ i).cap - e0))) (w.setRow (ρ i).blk (setMany arr ((ρ i).off + e0 * tm.length + n * tm.length) news)) := by
                  simp only [execOp, ho, resolve, invoke, builtin, Sem.run_bind, Sem.run_pure, Result.andThen_ok, List.map_toArray, List.map_cons, List.map_nil, hy1, s3, hr]
                have hrow : RowIn ⟨r.tm, n + m, catCols e0 n e1 m r.tm r.cols r1.cols⟩ (setMany arr ((ρ i).off + e0 * tm.length + n * tm.length) news) ((ρ i).off + e0 * tm.length) := by
                  refine cat_row hlike g6.len s1 g6.col s2 v1 v2 (fun f t c e k1 k2 he => ?_) (fun f t c e k1 k2 he => ?_)
                  · have hfl' : f < tm.length := by rw [← hlen]; exact (List.getElem?_eq_some_iff.1 k1).1
                    have hle := Nat.mul_le_mul_right tm.length (show e + 1 ≤ n from he)
                    rw [Nat.add_mul, Nat.one_mul] at hle
                    rw [setMany_get _ _ _ _ hfit, if_neg (by omega)]
                    have := g6.cell f t c (e0 + e) k1 k2 (by omega)
                    rw [hlen, Nat.add_mul] at this
                    rw [← this]
                    congr 1
                    omega
                  · have hfl' : f < tm.length := (List.getElem?_eq_some_iff.1 k1).1
                    have hle := Nat.mul_le_mul_right tm.length (show e + 1 ≤ m from he)
                    rw [Nat.add_mul, Nat.one_mul] at hle
                    rw [setMany_get _ _ _ _ hfit, Nat.add_mul, if_pos (by rw [s4]; omega)]
                    rw [← s7 f t c e k1 k2 he]
                    congr 1
                    omega
                have hp := hm.moveRow (w' := w.setRow (ρ i).blk (setMany arr ((ρ i).off + e0 * tm.length + n * tm.length) news)) i t' ⟨r.tm, n + m, catCols e0 n e1 m r.tm r.cols r1.cols⟩ ⟨(ρ i).blk, (ρ i).off + e0 * tm.length, (ρ i).cap - e0, false⟩
                  (kept_setRow _ _ _ ((g1 _).2 ⟨hnf, rfl⟩)) rfl ⟨Or.inl ((g1 _).2 ⟨hnf, rfl⟩), by
                    have := hm.lt i _ ((g1 _).2 ⟨hnf, rfl⟩)
                    simpa [World.setRow] using this⟩ h0' hroom (by simp only; omega) _ (setRow_heap w _ _ _ _ _ g7) (by
                      have hcm : e0 * tm.length + ((ρ i).cap - e0) * tm.length = (ρ i).cap * tm.length := by rw [← Nat.add_mul]; congr 1; omega
                      rw [setMany_size, g8, hlen]
                      simp only
                      omega) hrow
                have := hK _ _ _ (fun j hj => upd_lt ρ σ.hp.length ⟨(ρ i).blk, (ρ i).off + e0 * tm.length, (ρ i).cap - e0, false⟩ hj) hp
                refine wp_value hrun ?_
                simpa [ren, renS, renA, upd_same, cellOf, e1', e2'] using this
              · have hmul : (e0 + n) * tm.length ≤ (ρ i).cap * tm.length := Nat.mul_le_mul_right _ (by omega)
                rw [Nat.add_mul] at hmul
                refine grow _ _ ((arr.toList.drop ((ρ i).off + e0 * tm.length)).take (n * tm.length)) hy1 (by simp; omega) (fun w2 hw2 => ?_) (fun f t c e k1 k2 he => ?_) (by omega)
                · refine run_firstCells_some w2 tm.length n _ n _ _ (by simp; omega) (fun j v hj => ?_)
                  rw [World.cell?_of_block (w := w) (by rw [hw2]), add_at, cell_of_row w _ _ arr _ _ g7]
                  have hjl : j < n * tm.length := by have := (List.getElem?_eq_some_iff.1 hj).1; simp at this; omega
                  simpa [List.getElem?_take, hjl, List.getElem?_drop] using hj
                · have hfl' : f < tm.length := by rw [← hlen]; exact (List.getElem?_eq_some_iff.1 k1).1
                  have hle := Nat.mul_le_mul_right tm.length (show e + 1 ≤ n from he)
                  rw [Nat.add_mul, Nat.one_mul] at hle
                  have := g6.cell f t c (e0 + e) k1 k2 (by omega)
                  rw [hlen, Nat.add_mul] at this
                  rw [List.getElem?_take, if_pos (by omega), List.getElem?_drop, ← this]
                  simp only [Array.getElem?_toList]
                  congr 1
                  omega
        · cases h
      · cases h
    · cases h
  · cases h
end
end Go.Proofs.Ytloibbakklenbaa.Rx
