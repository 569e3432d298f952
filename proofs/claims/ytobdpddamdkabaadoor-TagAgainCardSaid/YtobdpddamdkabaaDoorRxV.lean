/- Symbolic runs: slices that a callee only reads, whatever they were cut from. Nothing of the program. -/
import Derived.Test.YtobdpddamdkabaaDoorRxC
namespace Go.Proofs.YtobdpddamdkabaaDoor.Rx
open Go.RowKit Go.Proofs.YtobdpddamdkabaaDoor.State
set_option linter.unusedVariables false
set_option linter.unusedSimpArgs false
def cutCol (t : Value) (c : Col) (e n : Nat) : Col :=
  match t with
  | .int _ _ => ⟨cut c.i e n, [], []⟩
  | .bool _ => ⟨[], cut c.b e n, []⟩
  | .string _ => ⟨[], [], cut c.s e n⟩
  | _ => noCol
def cutCols : List Value → List Col → Nat → Nat → List Col
  | t :: tm, c :: cs, e, n => cutCol t c e n :: cutCols tm cs e n
  | _, _, _, _ => []
theorem cutCols_get : ∀ {tm : List Value} {cs : List Col} {e n f : Nat}, cs.length = tm.length → (cutCols tm cs e n).length = tm.length ∧ ∀ t c', tm[f]? = some t → (cutCols tm cs e n)[f]? = some c' → ∃ c, cs[f]? = some c ∧ c' = cutCol t c e n
  | [], [], e, n, f, _ => ⟨rfl, fun t c' h => by simp at h⟩
  | [], _ :: _, e, n, f, h => by simp at h
  | _ :: _, [], e, n, f, h => by simp at h
  | t :: tm, c :: cs, e, n, f, h => by
    obtain ⟨h1, h2⟩ := cutCols_get (tm := tm) (cs := cs) (e := e) (n := n) (f := f - 1) (by grind)
    grind[cutCols]
theorem cut_getD {α : Type} {l : List α} {e n i : Nat} {d : α} (hi : i < n) : (cut l e n).getD i d = l.getD (e + i) d := by simp_all[cut]
theorem cut_len {α : Type} {l : List α} {e n : Nat} (h : e + n ≤ l.length) : (cut l e n).length = n := by grind[cut]
theorem RowIn.cut {r : Row} {arr : Array Value} {o e n : Nat} (h : RowIn r arr o) (hn : e + n ≤ r.n) : RowIn ⟨r.tm, n, cutCols r.tm r.cols e n⟩ arr (o + e * r.tm.length) := by
  obtain ⟨h1, h2, h3⟩ := h
  refine ⟨(cutCols_get (f := 0) h1).1, fun f t c ht hc => ?_, fun f t c i ht hc hi => ?_⟩
  · obtain ⟨c0, hc0, rfl⟩ := (cutCols_get h1).2 t c ht hc
    have := h2 f t c0 ht hc0
    cases t <;> simp only [colOk, cutCol] at this ⊢ <;> first | exact cut_len (by omega) | exact this
  · obtain ⟨c0, hc0, rfl⟩ := (cutCols_get h1).2 t c ht hc
    have hi' : i < n := hi
    have := h3 f t c0 (e + i) ht hc0 (by omega)
    rw [show o + e * r.tm.length + (i * r.tm.length + f) = o + ((e + i) * r.tm.length + f) by grind, this]
    cases t <;> simp only [cellVal, cutCol] <;> simp only [cut_getD hi']
/-- what a row that is only read says of its place -/
def ViewH (C : Ctx) (p : Place) (r : Row) : Prop := 0 < r.tm.length ∧ r.n ≤ p.cap ∧ p.cap ≤ maxLen ∧ (p.nil = true → p.cap = 0) ∧
  ∃ arr, (p.nil = false → 0 < r.n → p.blk < C.w0.heap.size ∧ ¬ C.U p.blk ∧ ∃ t fz, C.w0.heap[p.blk]? = some (.cells arr t fz)) ∧ RowIn r arr p.off
def andP (a b : Prop) : Prop := a ∧ b
section
variable {R : Type} {D : Res R} {P : Program} {T : Tab R} {C : Ctx} {ρ ρ' : Env} {ft : Nat → Nat → Prop} {w w' : World}
/-- the arguments that are only read, as rows of their own -/
def viewArgs (ro : Nat → Bool) (hl : Hp R) : Nat → Nat → List Value → Option (List Value × Hp R × Prop)
  | _, _, [] => some ([], [], True)
  | j, k, v :: l =>
    match ro j with
    | false =>
      match viewArgs ro hl (j + 1) k l with
      | some (a, h, p) => some (v :: a, h, p)
      | none => none
    | true =>
      match v with
      | .slice (some ⟨b, e, some q⟩) n _ =>
        match at2 hl b with
        | some (.inr (.inr (.inl r))) =>
          if Nat.beq (q % 1000000) (1000 * r.tm.length) then
            match viewArgs ro hl (j + 1) (k + 1) l with
            | some (a, h, p) => some (.slice (some ⟨k, 0, some (1000 * r.tm.length)⟩) n 0 :: a, some (.inr (.inr (.inl ⟨r.tm, n, cutCols r.tm r.cols e n⟩))) :: h, e + n ≤ r.n ∧ p)
            | none => none
          else none
        | _ => none
      | _ => none
theorem viewArgs_ok {ro : Nat → Bool} {hl : Hp R} (hm : HM D C ρ ft hl w) : ∀ (l : List Value) (j k : Nat) (a : List Value) (h : Hp R) (p : Prop), viewArgs ro hl j k l = some (a, h, p) → p → hl.length ≤ k → inbL hl.length l = true → (∀ (b : Nat) (r : Row), at2 hl b = some (.inr (.inr (.inl r)) : SB R) → r.tm.length < 1000) →
    ∃ pl : List Place, pl.length = h.length ∧ inbL (k + h.length) a = true ∧
      (∀ ρ2 : Env, (∀ i, i < hl.length → ρ2 i = ρ i) → (∀ i q, pl[i]? = some q → ρ2 (k + i) = q) → a.map (ren ρ2) = l.map (ren ρ)) ∧
      (∀ (i : Nat) (B : SB R), h[i]? = some (some B) → ∃ (r : Row) (q : Place), B = .inr (.inr (.inl r)) ∧ pl[i]? = some q ∧ ViewH C q r)
  | [], j, k, a, h, p, hv, _, _, _, _ => by
    obtain ⟨rfl, rfl, _⟩ := hv
    exact ⟨[], rfl, rfl, fun _ _ _ => rfl, fun i B hB => by simp at hB⟩
  | v :: l, j, k, a, h, p, hv, hp, hk, hin, hsm => by
    simp only [inbL, Bool.and_eq_true] at hin
    simp only [viewArgs] at hv
    split at hv
    · split at hv
      · rename_i a1 h1 p1 he
        obtain ⟨rfl, rfl, rfl⟩ := hv
        obtain ⟨pl, q1, q2, q3, q4⟩ := viewArgs_ok hm l _ _ _ _ _ he hp hk hin.2 hsm
        refine ⟨pl, q1, ?_, fun ρ2 e1 e2 => ?_, q4⟩
        · simp only [inbL, Bool.and_eq_true]
          exact ⟨inb_mono (by omega) v hin.1, q2⟩
        grind[ren_congr]
      grind
    · split at hv
      · rename_i b e q n c
        split at hv
        · rename_i r hr
          split at hv
          · rename_i hq
            have hq := Nat.eq_of_beq_eq_true hq
            split at hv
            · rename_i a1 h1 p1 he
              obtain ⟨rfl, rfl, rfl⟩ := hv
              obtain ⟨hp1, hp2⟩ := hp
              obtain ⟨pl, q1, q2, q3, q4⟩ := viewArgs_ok hm l _ _ _ _ _ he hp2 (by omega) hin.2 hsm
              have hb := at2_some hr
              obtain ⟨_, g1, g2, g3, g4, arr, g5, g6⟩ := (hm.at_ b _ hb).1
              have hcut := g6.cut hp1
              have main : ∃ pp : Place, ViewH C pp ⟨r.tm, n, cutCols r.tm r.cols e n⟩ ∧ ∀ ρ2 : Env, ρ2 k = pp → ren ρ2 (.slice (some ⟨k, 0, some (1000 * r.tm.length)⟩) n 0) = ren ρ (.slice (some ⟨b, e, some q⟩) n c) := by
                have hz : 1000 * r.tm.length / 1000000 = 0 := by omega
                by_cases hn : (ρ b).nil = true
                · have hc := g4 hn
                  refine ⟨⟨0, (ρ b).off + e * r.tm.length, 0, true⟩, ⟨g1, (by grind), Nat.zero_le _, (fun _ => rfl), arr, (fun h => by cases h), hcut⟩, fun ρ2 e2 => ?_⟩
                  simp_all[ren,renS_some]
                · have hn' : (ρ b).nil = false := by grind
                  by_cases hc : q / 1000000 ≠ 0 ∧ (ρ b).cap ≤ e
                  · have hn0 : n = 0 := by omega
                    subst hn0
                    refine ⟨⟨(ρ (q / 1000000 - 1)).blk, (ρ (q / 1000000 - 1)).off, 0, false⟩, ⟨g1, Nat.le_refl _, Nat.zero_le _, (fun h => by cases h), arr, (fun _ h => absurd h (Nat.lt_irrefl 0)), ?_⟩, fun ρ2 e2 => ?_⟩
                    · obtain ⟨z1, z2, z3⟩ := hcut
                      exact ⟨z1, z2, fun f t c i _ _ hi => absurd hi (Nat.not_lt_zero i)⟩
                    simp_all[ren,renS_some,renA,cellOf]
                  · refine ⟨⟨(ρ b).blk, (ρ b).off + e * r.tm.length, (ρ b).cap - e, false⟩, ⟨g1, (by grind), (by grind), (fun h => by cases h), arr, (fun _ h0 => g5 hn' (by grind)), hcut⟩, fun ρ2 e2 => ?_⟩
                    simp_all[ren,renS_some,renA,cellOf,if_neg]
              obtain ⟨pp, v1, v2⟩ := main
              refine ⟨pp :: pl, by simp [q1], ?_, fun ρ2 e1 e2 => ?_, fun i B hB => ?_⟩
              · simp only [inbL, inb, tagB, Bool.and_eq_true, Nat.blt_eq, Nat.ble_eq, List.length_cons]
                grind
              · simp only [List.map_cons]
                rw [v2 ρ2 (e2 0 pp rfl), q3 ρ2 e1 fun i q hi => by rw [show k + 1 + i = k + (i + 1) by omega]; simp[*]]
              grind
            grind
          grind
        grind
      grind
/-- some blocks of a heap left out -/
def blankAt : Nat → Nat → Hp R → Hp R
  | _, _, [] => []
  | 0, 0, l => l
  | 0, k + 1, _ :: l => none :: blankAt 0 k l
  | n + 1, k, x :: l => x :: blankAt n k l
theorem blankAt_get : ∀ {n k : Nat} {l : Hp R}, (blankAt n k l).length = l.length ∧ ∀ (i : Nat) (B : SB R), (blankAt n k l)[i]? = some (some B) → l[i]? = some (some B)
  | n, k, [] => by grind[blankAt]
  | 0, 0, x :: l => ⟨rfl, fun i B h => h⟩
  | 0, k + 1, x :: l => by
    obtain ⟨h1, h2⟩ := blankAt_get (n := 0) (k := k) (l := l)
    grind[blankAt]
  | n + 1, k, x :: l => by
    obtain ⟨h1, h2⟩ := blankAt_get (n := n) (k := k) (l := l)
    grind[blankAt]
def smallRows (hl : Hp R) : Bool :=
  match hl with
  | [] => true
  | some (.inr (.inr (.inl r))) :: l => Nat.blt r.tm.length 1000 && smallRows l
  | _ :: l => smallRows l
theorem smallRows_get : ∀ {l : Hp R} {b : Nat} {r : Row}, smallRows l = true → at2 l b = some (.inr (.inr (.inl r))) → r.tm.length < 1000
  | [], b, r, _, h => by simp [at2] at h
  | x :: l, b, r, hs, h => by
    have hl : smallRows l = true ∧ (x = some (.inr (.inr (.inl r))) → r.tm.length < 1000) := by
      rcases x with _ | ⟨t, cs⟩ | ⟨t, r0⟩ | r0 | x
      · exact ⟨hs, fun e => by cases e⟩
      · exact ⟨hs, fun e => by cases e⟩
      · exact ⟨hs, fun e => by cases e⟩
      · simp only [smallRows, Bool.and_eq_true, Nat.blt_eq] at hs
        grind
      · exact ⟨hs, fun e => by cases e⟩
    cases b with
    | zero => grind[at2]
    | succ b => exact smallRows_get hl.1 (by simpa [at2] using h)
/-- a contract whose arguments ro are only read, cut as they may be -/
def viewP (ro : Nat → Bool) (spec : Prim R) : Prim R := fun args hl =>
  match viewArgs ro hl 0 hl.length args with
  | some (a, hv, p) =>
    if smallRows hl then
      match spec a (hl ++ hv) with
      | some x => match x.wr with
        | [] => if inb hl.length x.v then some ⟨p ∧ x.vc, x.v, x.lit, hl, [], []⟩ else none
        | _ => if hpIn x.hp.length (blankAt hl.length hv.length x.hp) then some ⟨p ∧ x.vc, x.v, x.lit, blankAt hl.length hv.length x.hp, [], [(0, 0)]⟩ else none
      | none => none
    else none
  | none => none
theorem HM.part {h r : Hp R} (hm : HM D C ρ ft h w) (hl : ∀ (i : Nat) (B : SB R), r[i]? = some (some B) → h[i]? = some (some B)) (hi : hpIn r.length r = true) : HM D C ρ (fun i k => (∃ B, r[i]? = some (some B)) ∧ ft i k) r w where
  at_ i B hB := by
    obtain ⟨h1, h2⟩ := hm.at_ i B (hl i B hB)
    refine ⟨?_, hpIn_get hi hB⟩
    simp[*]
  lt i k hk := hm.lt i k hk.2
  fresh i k hk := hm.fresh i k hk.2
  apart i j k hi hj := hm.apart i j k hi.2 hj.2
  some_ i k hk := hk.1
  kept := hm.kept
  gl := hm.gl
theorem HM.views {hl hv : Hp R} (hm : HM D C ρ ft hl w) (ρ2 : Env) (pl : List Place) (h1 : ∀ i, i < hl.length → ρ2 i = ρ i) (h2 : ∀ i q, pl[i]? = some q → ρ2 (hl.length + i) = q)
    (hv_ : ∀ (i : Nat) (B : SB R), hv[i]? = some (some B) → ∃ (r : Row) (q : Place), B = .inr (.inr (.inl r)) ∧ pl[i]? = some q ∧ ViewH C q r) : HM D C ρ2 ft (hl ++ hv) w where
  at_ i B hB := by
    rcases Nat.lt_or_ge i hl.length with hlt | hge
    · rw [List.getElem?_append_left hlt] at hB
      obtain ⟨g1, g2⟩ := hm.at_ i B hB
      exact ⟨hold_env g1 h1 hlt g2, inside_mono (by simp) g2⟩
    · rw [List.getElem?_append_right hge] at hB
      obtain ⟨r, q, rfl, hq, hr⟩ := hv_ _ _ hB
      have e := h2 _ _ hq
      rw [show hl.length + (i - hl.length) = i by omega] at e
      refine ⟨?_, trivial⟩
      simp only [hold, e]
      refine ⟨fun k hk => ?_, hr⟩
      obtain ⟨B', hB'⟩ := hm.some_ i k hk
      grind
  lt := hm.lt
  fresh := hm.fresh
  apart := hm.apart
  some_ i k hk := by
    obtain ⟨B, hB⟩ := hm.some_ i k hk
    grind
  kept := hm.kept
  gl := hm.gl
theorem hpIn_of {n : Nat} : ∀ {r : Hp R}, (∀ (i : Nat) (B : SB R), r[i]? = some (some B) → inside n B) → hpIn n r = true
  | [], _ => rfl
  | x :: r, h => by
    have hr : hpIn n r = true := hpIn_of fun i B hB => h (i + 1) B (by grind)
    rcases x with _ | ⟨t, cs⟩ | ⟨t, ro⟩ | ro | x
    · exact hr
    · simp only [hpIn, Bool.and_eq_true]; exact ⟨h 0 _ rfl, hr⟩
    · exact hr
    · exact hr
    · exact hr
def viewOn (ro : Nat → Bool) (on : List Value → Hp R → Prop) (args : List Value) (hl : Hp R) : Prop := ∀ a hv p, viewArgs ro hl 0 hl.length args = some (a, hv, p) → on a (hl ++ hv)
theorem viewP_ok {f : FuncId} {on : List Value → Hp R → Prop} {spec : Prim R} (ro : Nat → Bool) (ok : PrimOk D P f on spec) : PrimOk D P f (viewOn ro on) (viewP ro spec) where
  known := ok.known
  run args hl x hon hx C ρ ft w hm hv hi := by
    unfold viewP at hx
    split at hx
    · rename_i a hvs p he
      split at hx
      · rename_i hs
        split at hx
        · rename_i y hy
          have main : p ∧ y.vc → Calls P f (args.map (ren ρ)).toArray w fun e w' => ∃ ρ' ft', (∀ i, i < (hl ++ hvs).length → i < hl.length → ρ' i = ρ i) ∧ e = .returned (ren ρ' y.v) ∧ HM D C ρ' ft' y.hp w' := by
            intro ⟨hp, hyv⟩
            obtain ⟨pl, q1, q2, q3, q4⟩ := viewArgs_ok hm args 0 hl.length a hvs p he hp (Nat.le_refl _) hi fun b r hb => smallRows_get hs hb
            let ρ2 : Env := fun i => if i < hl.length then ρ i else (pl[i - hl.length]?).getD ⟨0, 0, 0, true⟩
            have e1 : ∀ i, i < hl.length → ρ2 i = ρ i := fun i hi => by grind
            have e2 : ∀ i q, pl[i]? = some q → ρ2 (hl.length + i) = q := fun i q hq => by
              grind
            have hm2 := hm.views ρ2 pl e1 e2 q4
            have := ok.run a (hl ++ hvs) y (hon a hvs p he) hy C ρ2 ft w hm2 hyv (by grind)
            rw [q3 ρ2 e1 e2] at this
            refine this.mono fun e w' ⟨ρ', ft', r1, r2, r3⟩ => ⟨ρ', ft', fun i hi hi' => (r1 i hi).trans (e1 i hi'), r2, r3⟩
          split at hx
          · rename_i hw
            split at hx
            · injection hx with hx
              subst hx
              have hst := ok.still _ _ _ hy hw
              refine (main hv).mono fun e w' ⟨ρ', ft', r1, r2, r3⟩ => ?_
              rw [hst] at r3
              have hsub : ∀ (i : Nat) (B : SB R), hl[i]? = some (some B) → (hl ++ hvs)[i]? = some (some B) := fun i B hB => by
                grind
              refine ⟨ρ', _, fun i hi => r1 i (by grind) hi, r2, r3.part hsub (hpIn_of fun i B hB => (hm.at_ i B hB).2)⟩
            grind
          · split at hx
            · rename_i hin
              injection hx with hx
              subst hx
              refine (main hv).mono fun e w' ⟨ρ', ft', r1, r2, r3⟩ => ?_
              refine ⟨ρ', _, fun i hi => r1 i (by grind) hi, r2, r3.part (fun i B hB => blankAt_get.2 i B hB) (by grind[blankAt_get])⟩
            grind
        grind
      grind
    grind
  len args hl x hx := by
    unfold viewP at hx
    split at hx
    · split at hx
      · split at hx
        · rename_i a hvs p he hs y hy
          have := ok.len _ _ _ hy
          split at hx
          · grind
          grind[blankAt_get]
        grind
      grind
    grind
  lit args hl x hx b hb := by
    unfold viewP at hx
    split at hx
    · split at hx
      · split at hx
        · rename_i a hvs p he hs y hy
          split at hx
          · split at hx
            · injection hx with hx; subst hx; exact ok.lit _ _ _ hy b hb
            grind
          · split at hx
            · injection hx with hx; subst hx; exact ok.lit _ _ _ hy b hb
            grind
        grind
      grind
    grind
  still args hl x hx hw := by
    grind[viewP]
def viewW (ro : Nat → Bool) (when : List Value → Hp R → Option Bool) (args : List Value) (hl : Hp R) : Option Bool :=
  match viewArgs ro hl 0 hl.length args with
  | some (a, hv, _) => when a (hl ++ hv)
  | none => none
def viewC (ro : Nat → Bool) (c : Con R) : Con R := ⟨viewW ro c.when, viewP ro c.yes, viewP ro c.no⟩
theorem viewC_ok {f : FuncId} {c : Con R} (ro : Nat → Bool) (ok : ConOk D P f c) : ConOk D P f (viewC ro c) := by
  intro b
  have := viewP_ok ro (ok b)
  have e : (viewC ro c).go b = viewP ro (c.go b) := by cases b <;> rfl
  rw [e]
  refine ⟨this.known, fun args h x hon => this.run args h x fun a hv p he => ?_, this.len, this.lit, this.still⟩
  simp_all[way,viewC,viewW]
/-- a contract whose arguments ro are only read, on any heap: all rows that it sees are lent -/
def liftV (ro : Nat → Bool) (d : Nat) (c : Con R) : Con R := liftC (fun _ => true) d (viewC ro (liftC (fun _ => false) d c))
theorem liftV_ok {f : FuncId} {c : Con R} (ro : Nat → Bool) (d : Nat) (ok : ConOk D P f c) : ConOkK D P f (liftV ro d c) := liftC_ok _ _ (viewC_ok _ (liftC_ok0 _ _ ok))
end
end Go.Proofs.YtobdpddamdkabaaDoor.Rx
