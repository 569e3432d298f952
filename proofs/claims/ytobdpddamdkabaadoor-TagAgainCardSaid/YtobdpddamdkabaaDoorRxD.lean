/- Symbolic runs, third part: regions whose order is open. Nothing of the program. -/
import Derived.Test.YtobdpddamdkabaaDoorRxB
namespace Go.Proofs.YtobdpddamdkabaaDoor.Rx
open Go.RowKit Go.Proofs.YtobdpddamdkabaaDoor.State
set_option linter.unusedVariables false
set_option linter.unusedSimpArgs false
/-- the block behind which a cut stands is one of f's -/
def knQ (f : Nat → Bool) (q : Nat) : Bool :=
  match Nat.blt q 1000000 with
  | true => true
  | false => f (q / 1000000 - 1)
def knS (f : Nat → Bool) : Option Nat → Bool
  | none => true
  | some q => knQ f q
mutual
/-- every block in it is one of f's -/
def knV (f : Nat → Bool) : Value → Bool
  | .pointer (some a) => f a.block
  | .slice (some a) _ _ => f a.block && knS f a.spot
  | .map (some r) | .chan (some r) => f r
  | .agg ⟨l⟩ => knL f l
  | .tuple ⟨l⟩ => knL f l
  | .func _ ⟨g⟩ ⟨c⟩ => knL f g && knL f c
  | .iface _ v => knV f v
  | _ => true
def knL (f : Nat → Bool) : List Value → Bool
  | [] => true
  | v :: l => knV f v && knL f l
end
section
variable {ρ ρ' : Env} {f g : Nat → Bool} {n : Nat}
theorem knQ_tag {q : Nat} (h : knQ f q = true) (h0 : q / 1000000 ≠ 0) : f (q / 1000000 - 1) = true := by grind[knQ,Nat.blt_eq]
theorem knQ_of {q : Nat} (h : q / 1000000 ≠ 0 → f (q / 1000000 - 1) = true) : knQ f q = true := by grind[knQ,Nat.blt_eq]
theorem knS_mono {s : Option Nat} (h : ∀ b, f b = true → g b = true) (hv : knS f s = true) : knS g s = true := by
  cases s with
  | none => rfl
  | some q => exact knQ_of fun h0 => h _ (knQ_tag hv h0)
theorem renS_kn {a : Addr} {k c : Nat} (h : ∀ b, f b = true → ρ b = ρ' b) (ha : f a.block = true) (hs : knS f a.spot = true) : renS ρ a k c = renS ρ' a k c := by
  have hA : renA ρ a = renA ρ' a := by grind[renA]
  unfold renS
  rw [hA, h _ ha]
  cases hq : a.spot with
  | none => rfl
  | some q =>
    rw [hq] at hs
    simp only
    split
    · rfl
    · split
      · rename_i h0
        rw [h (q / 1000000 - 1) (knQ_tag hs h0.1)]
      · rfl
mutual
theorem ren_kn (h : ∀ b, f b = true → ρ b = ρ' b) : ∀ v, knV f v = true → ren ρ v = ren ρ' v
  | .pointer (some a), hv => by
    grind[knV,ren,renA]
  | .pointer none, _ => by rfl
  | .slice (some a) k c, hv => by
    simp only [knV, Bool.and_eq_true] at hv
    grind[ren,renS_kn]
  | .slice none _ _, _ => by rfl
  | .map (some r), hv => by grind[knV,ren]
  | .map none, _ => by rfl
  | .chan (some r), hv => by grind[knV,ren]
  | .chan none, _ => by rfl
  | .agg ⟨l⟩, hv => by simp only [ren, renL_kn h l hv]
  | .tuple ⟨l⟩, hv => by simp only [ren, renL_kn h l hv]
  | .func fn ⟨l⟩ ⟨c⟩, hv => by
    simp only [knV, Bool.and_eq_true] at hv
    simp only [ren, renL_kn h l hv.1, renL_kn h c hv.2]
  | .iface t v, hv => by simp only [ren, ren_kn h v hv]
  | .int _ _, _ => by simp
  | .bool _, _ => by simp
  | .string _, _ => by simp
  | .float _ _, _ => by rfl
  | .complex _ _ _, _ => by rfl
  | .nilFunc, _ => by rfl
  | .nilIface, _ => by rfl
theorem renL_kn (h : ∀ b, f b = true → ρ b = ρ' b) : ∀ l, knL f l = true → renL ρ l = renL ρ' l
  | [], _ => rfl
  | v :: l, hv => by
    simp only [knL, Bool.and_eq_true] at hv
    simp only [renL, ren_kn h v hv.1, renL_kn h l hv.2]
end
mutual
theorem inb_kn (h : ∀ b, b < n → f b = true) : ∀ v, inb n v = true → knV f v = true
  | .pointer (some a), hv => by grind[inb,Nat.blt_eq,knV]
  | .pointer none, _ => by rfl
  | .slice (some a) k c, hv => by
    simp only [inb, Bool.and_eq_true, Nat.blt_eq, Nat.ble_eq] at hv
    simp only [knV, Bool.and_eq_true]
    refine ⟨h _ hv.1, ?_⟩
    cases hs : a.spot with
    | none => rfl
    | some q =>
      rw [hs] at hv
      simp only [tagB] at hv
      exact knQ_of fun h0 => h _ (by omega)
  | .slice none _ _, _ => by rfl
  | .map (some r), hv => by grind[inb,Nat.blt_eq,knV]
  | .map none, _ => by rfl
  | .chan (some r), hv => by grind[inb,Nat.blt_eq,knV]
  | .chan none, _ => by rfl
  | .agg ⟨l⟩, hv => by exact inbL_kn h l hv
  | .tuple ⟨l⟩, hv => by exact inbL_kn h l hv
  | .func fn ⟨l⟩ ⟨c⟩, hv => by
    simp only [inb, Bool.and_eq_true] at hv
    simp only [knV, Bool.and_eq_true]
    exact ⟨inbL_kn h l hv.1, inbL_kn h c hv.2⟩
  | .iface t v, hv => by exact inb_kn h v hv
  | .int _ _, _ => by rfl
  | .bool _, _ => by rfl
  | .string _, _ => by rfl
  | .float _ _, _ => by rfl
  | .complex _ _ _, _ => by rfl
  | .nilFunc, _ => by rfl
  | .nilIface, _ => by rfl
theorem inbL_kn (h : ∀ b, b < n → f b = true) : ∀ l, inbL n l = true → knL f l = true
  | [], _ => by rfl
  | v :: l, hv => by
    simp only [inbL, Bool.and_eq_true] at hv
    simp only [knL, Bool.and_eq_true]
    exact ⟨inb_kn h v hv.1, inbL_kn h l hv.2⟩
end
mutual
theorem knV_mono (h : ∀ b, f b = true → g b = true) : ∀ v, knV f v = true → knV g v = true
  | .pointer (some a), hv => by grind[knV]
  | .pointer none, _ => by rfl
  | .slice (some a) k c, hv => by
    simp only [knV, Bool.and_eq_true] at *
    grind[knS_mono]
  | .slice none _ _, _ => by rfl
  | .map (some r), hv => by grind[knV]
  | .map none, _ => by rfl
  | .chan (some r), hv => by grind[knV]
  | .chan none, _ => by rfl
  | .agg ⟨l⟩, hv => by exact knL_mono h l hv
  | .tuple ⟨l⟩, hv => by exact knL_mono h l hv
  | .func fn ⟨l⟩ ⟨c⟩, hv => by
    simp only [knV, Bool.and_eq_true] at *
    exact ⟨knL_mono h l hv.1, knL_mono h c hv.2⟩
  | .iface t v, hv => by exact knV_mono h v hv
  | .int _ _, _ => by rfl
  | .bool _, _ => by rfl
  | .string _, _ => by rfl
  | .float _ _, _ => by rfl
  | .complex _ _ _, _ => by rfl
  | .nilFunc, _ => by rfl
  | .nilIface, _ => by rfl
theorem knL_mono (h : ∀ b, f b = true → g b = true) : ∀ l, knL f l = true → knL g l = true
  | [], _ => by rfl
  | v :: l, hv => by
    simp only [knL, Bool.and_eq_true] at *
    exact ⟨knV_mono h v hv.1, knL_mono h l hv.2⟩
end
end
section
variable {R : Type} {D : Res R} {C : Ctx} {ρ ρ' : Env} {ft ft' : Nat → Nat → Prop} {w w' : World} {h hr hx h' : Hp R}
/-- other numbers for what no block names -/
theorem HM.reenv (hm : HM D C ρ ft h w) {f : Nat → Bool} (hρ : ∀ b, f b = true → ρ' b = ρ b) (hh : ∀ (b : Nat) (X : SB R), h[b]? = some (some X) → f b = true) (hc : ∀ (b : Nat) (t : TypeId) (cs : List Value), h[b]? = some (some (.inl (t, cs))) → knL f cs = true) : HM D C ρ' ft h w where
  at_ i B hi := by
    obtain ⟨h1, h2⟩ := hm.at_ i B hi
    refine ⟨?_, h2⟩
    have e := hρ i (hh i B hi)
    rcases B with ⟨t, cs⟩ | ⟨t, r⟩ | r | x
    · simp only [hold, e] at h1 ⊢
      have : cs.map (ren ρ') = cs.map (ren ρ) := by
        rw [← renL_eq, ← renL_eq]
        grind[renL_kn]
      grind
    all_goals grind[hold]
  lt := hm.lt
  fresh := hm.fresh
  apart := hm.apart
  some_ := hm.some_
  kept := hm.kept
  gl := hm.gl
/-- numbers that no block has -/
theorem HM.grow (hm : HM D C ρ ft h w) (k : Nat) : HM D C ρ ft (h ++ List.replicate k none) w := by
  refine hm.step (fun _ => False) (Kept.refl _ _) (fun _ _ => rfl) (by simp) ?_ ?_ ?_ ?_
  · grind
  · grind
  · intro i k hi hk
    obtain ⟨B', hB'⟩ := hm.some_ i k hk
    grind
  · intro i j k hi hj hki hkj
    exact hm.apart i j k hki hkj
/-- and back, where what is new lies at numbers that no block had -/
theorem HM.back2 {ρ0 : Env} (hm : HM D C ρ ft h w) (hsub : ∀ (b : Nat) (X : SB R), hr[b]? = some (some X) → h[b]? = some (some X)) {n : Nat}
    (hm' : HM D (localC w hr ft ρ0 n) ρ' ft' hx w') (hρ : ∀ b, b < hx.length → ρ b = ρ' b) (hle : hx.length ≤ h.length)
    (hv : ∀ (b : Nat) (X : SB R), hx[b]? = some (some X) → (b < hr.length → ∃ Y, hr[b]? = some (some Y)) ∧ (isView X = false ∨ ∃ Y, hr[b]? = some (some Y) ∧ isView Y = true))
    (hlen : h'.length = h.length)
    (hnew : ∀ (b : Nat), (∃ Y, hr[b]? = some (some Y) ∧ isView Y = false) ∨ (hr.length ≤ b ∧ b < hx.length) → h'[b]? = if b < hx.length then hx[b]? else some none)
    (hold_ : ∀ (b : Nat), b < h.length → ¬ ((∃ Y, hr[b]? = some (some Y) ∧ isView Y = false) ∨ (hr.length ≤ b ∧ b < hx.length)) → h'[b]? = h[b]?) :
    ∃ ft2, HM D C ρ ft2 h' w' := by
  let T : Nat → Prop := fun b => (∃ Y, hr[b]? = some (some Y) ∧ isView Y = false) ∨ (hr.length ≤ b ∧ b < hx.length)
  refine ⟨fun b k => (T b ∧ ft' b k) ∨ (¬ T b ∧ ft b k), ?_⟩
  have eT : ∀ {b}, T b → (fun k => (T b ∧ ft' b k) ∨ (¬ T b ∧ ft b k)) = ft' b := fun {b} hb => funext fun k => propext ⟨fun h => h.elim (fun h => h.2) (fun h => absurd hb h.1), fun h => Or.inl ⟨hb, h⟩⟩
  have hseen : ∀ b k, (∃ X, hr[b]? = some (some X)) → ft b k → ∃ j, T j ∧ ft j k := fun b k ⟨X, hX⟩ hb => by
    refine ⟨b, Or.inl ⟨X, hX, ?_⟩, hb⟩
    cases hX2 : isView X with
    | false => rfl
    | true =>
      have := (hm.at_ b X (hsub b X hX)).1
      rcases X with ⟨t, cs⟩ | ⟨t, r⟩ | r | x <;> simp [isView] at hX2
      exact absurd hb (this.1 k)
  -- past the end there is nothing
  have hin : ∀ i B, h'[i]? = some (some B) → i < h.length := fun i B hB => by
    grind
  refine hm.step T ?_ (fun _ _ => rfl) (Nat.le_of_eq hlen.symm) ?_ ?_ ?_ ?_
  · exact ⟨hm'.kept.os, hm'.kept.tape, hm'.kept.output, hm'.kept.size, fun k hk hn => hm'.kept.block k hk fun ⟨b, hX, hb⟩ => hn (hseen b k hX hb)⟩
  · intro i B hi hB
    have hTi := hi (hin i B hB)
    rw [hnew i hTi] at hB
    split at hB
    · rename_i hlt
      obtain ⟨g1, g2⟩ := hm'.at_ i B hB
      have hnv : isView B = false := by
        grind
      refine ⟨?_, inside_mono (by omega) g2⟩
      rw [eT hTi]
      exact hold_ctx hnv (hold_env g1 hρ hlt g2)
    grind
  · grind
  · intro i k hi hk
    have hTi : T i := by
      rcases hk with h | h
      · exact h.1
      · obtain ⟨B, hB⟩ := hm.some_ i k h.2
        grind
    have hk' : ft' i k := hk.elim (fun h => h.2) (fun h => absurd hTi h.1)
    refine ⟨?_, hm'.lt i k hk', ?_⟩
    · rcases hm'.fresh i k hk' with ⟨b, hX, hb⟩ | hge'
      · exact Or.inl (hseen b k hX hb)
      · exact Or.inr hge'
    · obtain ⟨B, hB⟩ := hm'.some_ i k hk'
      grind
  · intro i j k hi hj hki hkj
    have key : ∀ l, (l < h.length → T l) → ((T l ∧ ft' l k) ∨ (¬ T l ∧ ft l k)) → ft' l k := fun l hl hlk => by
      rcases hlk with h | h
      · exact h.2
      · obtain ⟨B, hB⟩ := hm.some_ l k h.2
        grind
    exact hm'.apart i j k (key i hi hki) (key j hj hkj)
end
mutual
def blks : Value → List Nat
  | .pointer (some a) => [a.block]
  | .slice (some ⟨b, _, some q⟩) _ _ => match Nat.beq (q / 1000000) 0 with
    | true => [b]
    | false => [b, q / 1000000 - 1]
  | .slice (some a) _ _ => [a.block]
  | .map (some r) | .chan (some r) => [r]
  | .agg ⟨l⟩ => blksL l
  | .tuple ⟨l⟩ => blksL l
  | .func _ ⟨f⟩ ⟨c⟩ => blksL f ++ blksL c
  | .iface _ v => blks v
  | _ => []
def blksL : List Value → List Nat
  | [] => []
  | v :: l => blks v ++ blksL l
end
def mem (l : List Nat) (i : Nat) : Bool :=
  match l with
  | [] => false
  | j :: l => Nat.beq j i || mem l i
theorem mem_iff {l : List Nat} {i : Nat} : mem l i = true ↔ i ∈ l := by
  induction l with
  | nil => simp [mem]
  | cons j l ih => simp only [mem, Bool.or_eq_true, ih, Nat.beq_eq, List.mem_cons]; grind
def tmpsOf : List Operand → List Nat
  | [] => []
  | .tmp t :: l => t :: tmpsOf l
  | _ :: l => tmpsOf l
/-- what one operation of a region saw and did -/
structure Rec (R : Type) where
  o : Oper
  pre : List Nat
  run : Bool
  v : Value
  lit : Option Bool
  hr : Hp R
  hx : Hp R
  w : Bool
  wl : List (Nat × Nat)
section
variable {R : Type} {D : Res R} {P : Program} {T : Tab R}
def ownAt (h : Hp R) (b : Nat) : Bool :=
  match h[b]? with
  | some (some X) => !isView X
  | _ => false
def newAt (r : Rec R) (b : Nat) : Bool := Nat.ble r.hr.length b && Nat.blt b r.hx.length
def touches (r : Rec R) (b : Nat) : Bool := r.w && ((ownAt r.hr b && !keepO r.o r.wl b) || newAt r b)
def sees (r : Rec R) (b : Nat) : Bool := ownAt r.hr b || newAt r b
def allocs (r : Rec R) : Bool := Nat.blt r.hr.length r.hx.length
def at2 {α : Type} (h : List (Option α)) (b : Nat) : Option α :=
  match h[b]? with
  | some x => x
  | none => none
/-- what a block holds behind the operations that p names -/
def content (p : Nat → Bool) (b : Nat) : List (Rec R) → Nat → Option (SB R) → Option (SB R)
  | [], _, acc => acc
  | r :: l, j, acc => content p b l (j + 1) (if p j && touches r b then at2 r.hx b else acc)
/-- how many blocks there are: what each operation lays is numbered behind what those before it in the list lay -/
def lenAll : List (Rec R) → Nat → Nat
  | [], n => n
  | r :: l, n => lenAll l (if allocs r then r.hx.length else n)
/-- one of these laid it -/
def madeBy (recs : List (Rec R)) : List Nat → Nat → Bool
  | [], _ => false
  | j :: l, b => (match recs[j]? with
    | some q => newAt q b
    | none => false) || madeBy recs l b
/-- what a record may name -/
def knownAt (n : Nat) (recs : List (Rec R)) (r : Rec R) (b : Nat) : Bool := Nat.blt b n || newAt r b || madeBy recs r.pre b
def knH (f : Nat → Bool) : Hp R → Bool
  | [] => true
  | some (.inl (_, cs)) :: h => knL f cs && knH f h
  | _ :: h => knH f h
def allKnown (n : Nat) (all : List (Rec R)) : List (Rec R) → Bool
  | [] => true
  | r :: l => knV (knownAt n all r) r.v && knH (knownAt n all r) r.hx && allKnown n all l
def dstIdx : List Oper → Nat → Nat → Option Nat
  | [], _, _ => none
  | o :: l, t, i => match o.dst with
    | some u => if Nat.beq u t then some i else dstIdx l t (i + 1)
    | none => dstIdx l t (i + 1)
def mkTm (ops : List Oper) (recs : List (Rec R)) (pre tms : List Nat) : Nat → List (Option Value) → List (Option Value)
  | _, [] => []
  | t, x :: l => (if mem tms t then
      match dstIdx ops t 0 with
      | some j => if mem pre j then (match recs[j]? with
        | some r => some r.v
        | none => none) else if Nat.ble recs.length j then x else none
      | none => x
    else none) :: mkTm ops recs pre tms (t + 1) l
def mkLi (ops : List Oper) (li : List (Nat × Bool)) (recs : List (Rec R)) (pre : List Nat) : List Nat → List (Nat × Bool)
  | [] => []
  | t :: l => (match dstIdx ops t 0 with
    | some j => if mem pre j then (match recs[j]? with
      | some r => (match r.lit with
        | some b => [(t, b)]
        | none => [])
      | none => []) else []
    | none => match look li t with
      | some b => [(t, b)]
      | none => []) ++ mkLi ops li recs pre l
def someV : List (Option Value) → List Value
  | [] => []
  | some v :: l => v :: someV l
  | none :: l => someV l
def heapOf (h0 : Hp R) (recs : List (Rec R)) (p : Nat → Bool) (sel : Nat → Bool) : Nat → Nat → Hp R
  | _, 0 => []
  | b, n + 1 => (if sel b then content p b recs 0 (at2 h0 b) else none) :: heapOf h0 recs p sel (b + 1) n
def ins (j : Nat) (l : List Nat) : List Nat := if mem l j then l else j :: l
def insL : List Nat → List Nat → List Nat
  | [], l => l
  | j :: m, l => insL m (ins j l)
theorem ins_mem {i j : Nat} {l : List Nat} : i ∈ ins j l ↔ i = j ∨ i ∈ l := by grind[ins,mem_iff]
theorem insL_mem {i : Nat} : ∀ {m l : List Nat}, i ∈ insL m l ↔ i ∈ m ∨ i ∈ l
  | [], l => by simp [insL]
  | j :: m, l => by
    simp only [insL, insL_mem, ins_mem, List.mem_cons]
    grind
/-- the operations ahead of one -/
def preOf (recs : List (Rec R)) : List Edge → Option (List Nat)
  | [] => some []
  | e :: l =>
    match preOf recs l with
    | none => none
    | some r => if Region.binds .any e then (match recs[e.on]? with
      | some q => some (ins e.on (insL q.pre r))
      | none => none) else some r
/-- how an operation's guard stands: 0 run, 1 skip, 2 open, 3 not known -/
def guardSt (recs : List (Rec R)) (pre : List Nat) (g : Option (Nat × Bool)) : Nat :=
  match g with
  | none => 0
  | some (j, want) =>
    if mem pre j then
      match recs[j]? with
      | some r => match r.o.dst with
        | some _ => match r.lit with
          | some b => if b == want then 0 else 1
          | none => match isUndef r.v with
            | true => 1
            | false => 2
        | none => 3
      | none => 3
    else 3
/-- nothing but what was seen is there behind it, and what is new -/
def backOk : Hp R → Hp R → Bool
  | [], [] => true
  | [], none :: hx => backOk [] hx
  | [], some X :: hx => !isView X && backOk [] hx
  | _ :: _, [] => false
  | none :: hr, none :: hx => backOk hr hx
  | none :: _, some _ :: _ => false
  | some Y :: hr, none :: hx => backOk hr hx
  | some Y :: hr, some X :: hx => (!isView X || isView Y) && backOk hr hx
/-- the blocks that the cells of some blocks lead to -/
def reach (h : Hp R) : Nat → List Nat → List Nat
  | 0, l => l
  | n + 1, l => reach h n (l ++ blksL (l.flatMap fun b => match at2 h b with
    | some (.inl (_, cs)) => cs
    | _ => []))
/-- the blocks that an operation sees -/
def selOf (o : Oper) (B : List Nat) (h : Hp R) : List Nat :=
  match o.op with
  | .call ⟨.value _, _, _⟩ => reach h 2 B
  | .call ⟨.invoke _ _, _, _⟩ => reach h 2 B
  | .move _ | .assign _ | .fieldAddr _ _ _ | .nilCheck _ | .extract _ _ | .makeFunc _ _ _ => []
  | _ => B
def seenTm (ops : List Oper) (σ0 : SS R) (recs : List (Rec R)) (pre : List Nat) (o : Oper) : List (Option Value) := mkTm ops recs pre (tmpsOf o.op.operands.toList) 0 σ0.tm
def seenSel (ops : List Oper) (σ0 : SS R) (recs : List (Rec R)) (pre : List Nat) (o : Oper) : Nat → Bool :=
  mem (selOf o (blksL (someV (seenTm ops σ0 recs pre o))) (heapOf σ0.hp recs (mem pre) (fun _ => true) 0 (lenAll recs σ0.hp.length)))
def seenSt (ops : List Oper) (σ0 : SS R) (recs : List (Rec R)) (pre : List Nat) (o : Oper) : SS R :=
  ⟨seenTm ops σ0 recs pre o, mkLi ops σ0.li recs pre (tmpsOf o.op.operands.toList),
    heapOf σ0.hp recs (mem pre) (seenSel ops σ0 recs pre o) 0 (lenAll recs σ0.hp.length)⟩
def dstOk (n : Nat) (d : Option Tmp) : Bool :=
  match d with
  | some t => Nat.blt t n
  | none => true
def seenOk (σ0 : SS R) (st : SS R) (o : Oper) (x : Out R) : Bool :=
  tidy st o.dst x && dstOk σ0.tm.length o.dst && hpIn st.hp.length st.hp && inbL st.hp.length (someV st.tm) && backOk st.hp x.hp
def asmOf (asm : List (Nat × Bool)) (d : Option Tmp) : Option Bool :=
  match d with
  | some t => look asm t
  | none => none
def addRec (recs : List (Rec R)) (r : Rec R) : List (Rec R) := recs ++ [r]
/-- one operation of a region -/
def drawOne (P : Program) (T : Tab R) (σ0 : SS R) (asm : List (Nat × Bool)) (o : Oper) (pre : List Nat) (tm : List (Option Value)) (li : List (Nat × Bool)) (hr : Hp R) (k : Rec R → Prop) (way : Bool) : Prop :=
  match sop P T ⟨tm, li, hr⟩ o way with
  | none => Stuck 21
  | some x =>
    if seenOk σ0 ⟨tm, li, hr⟩ o x then
      also (easy (⟨tm, li, hr⟩ : SS R) o) x.vc (fHp x.hp fun hx => fV x.v fun v =>
        match x.lit with
        | some b => fB b fun b => fB (!x.wr.isEmpty) fun wr => k ⟨o, pre, true, v, some b, hr, hx, wr, x.wr⟩
        | none => fB (!x.wr.isEmpty) fun wr => match asmOf asm o.dst with
          | some b => Vc (v = .bool b) ∧ k ⟨o, pre, true, .bool b, some b, hr, hx, wr, x.wr⟩
          | none => k ⟨o, pre, true, v, none, hr, hx, wr, x.wr⟩)
    else Stuck 22
def drawGo (P : Program) (T : Tab R) (ops : List Oper) (σ0 : SS R) (asm : List (Nat × Bool)) (k : List (Rec R) → Prop) (fk : Nat → Bool → Prop) : List Oper → List (Rec R) → Prop
  | [], recs => k recs
  | o :: l, recs =>
    match preOf recs o.after.toList with
    | none => Stuck 20
    | some pre => fNs pre fun pre =>
      match guardSt recs pre o.guard with
      | 0 => fTm (seenTm ops σ0 recs pre o) fun tm => fLi (mkLi ops σ0.li recs pre (tmpsOf o.op.operands.toList)) fun li => fHp (heapOf σ0.hp recs (mem pre) (fun _ => true) 0 (lenAll recs σ0.hp.length)) fun hp =>
        fNs (selOf o (blksL (someV tm)) hp) fun sel => fHp (heapOf σ0.hp recs (mem pre) (mem sel) 0 (lenAll recs σ0.hp.length)) fun hr =>
        match forkOf P T (⟨tm, li, hr⟩ : SS R) o with
        | none => drawOne P T σ0 asm o pre tm li hr (fun r => drawGo P T ops σ0 asm k fk l (addRec recs r)) true
        | some c => (c = true → drawOne P T σ0 asm o pre tm li hr (fun r => drawGo P T ops σ0 asm k fk l (addRec recs r)) true) ∧
          (c = false → drawOne P T σ0 asm o pre tm li hr (fun r => drawGo P T ops σ0 asm k fk l (addRec recs r)) false)
      | 1 => drawGo P T ops σ0 asm k fk l (addRec recs ⟨o, pre, false, undef, none, [], [], false, []⟩)
      | 2 =>
        match o.guard with
        | some (j, _) => match recs[j]? with
          | some r => match r.o.dst, r.v with
            | some t, .bool c => fk t c
            | _, _ => Stuck 23
          | none => Stuck 24
        | none => Stuck 25
      | _ => Stuck 26
def allLt (f : Nat → Bool) : Nat → Bool
  | 0 => true
  | n + 1 => f n && allLt f n
def clash (a b : Rec R) (n : Nat) : Bool := !allLt (fun i => !((touches a i && sees b i) || (touches b i && sees a i))) n
/-- what an operation reads is not written by a later one of the text that need not wait for it -/
def readOk (i : Nat) (a b : Rec R) : Bool :=
  match b.o.dst with
  | some t => !mem (tmpsOf a.o.op.operands.toList) t || mem b.pre i
  | none => true
def pairOk (n : Nat) (i j : Nat) (a b : Rec R) : Bool :=
  readOk i a b && (match a.o.dst, b.o.dst with
    | some t, some u => !Nat.beq t u
    | _, _ => true) &&
  (mem b.pre i || !((a.w || b.w) && clash a b n))
def pairsOk (n : Nat) (i : Nat) (a : Rec R) : Nat → List (Rec R) → Bool
  | _, [] => true
  | j, b :: l => pairOk n i j a b && pairsOk n i a (j + 1) l
def allPairs (n : Nat) : Nat → List (Rec R) → Bool
  | _, [] => true
  | i, a :: l => pairsOk n i a (i + 1) l && allPairs n (i + 1) l
def finTm (ops : List Oper) (recs : List (Rec R)) : Nat → List (Option Value) → List (Option Value)
  | _, [] => []
  | t, x :: l => (match dstIdx ops t 0 with
    | some j => (match recs[j]? with
      | some r => some r.v
      | none => none)
    | none => x) :: finTm ops recs (t + 1) l
def finLi (ops : List Oper) (N : Nat) (recs : List (Rec R)) (li : List (Nat × Bool)) : List (Nat × Bool) :=
  (recs.flatMap fun r => match r.o.dst, r.lit with
    | some t, some b => if Nat.blt t N then [(t, b)] else []
    | _, _ => []) ++ li.filter fun q => match dstIdx ops q.1 0 with
      | some _ => false
      | none => true
def finSt (ops : List Oper) (σ0 : SS R) (recs : List (Rec R)) : SS R :=
  ⟨finTm ops recs 0 σ0.tm, finLi ops σ0.tm.length recs σ0.li, heapOf σ0.hp recs (fun _ => true) (fun _ => true) 0 (lenAll recs σ0.hp.length)⟩
/-- a region whose order is open: run under what is assumed of its guards -/
def rxDraw (P : Program) (T : Tab R) (ops : List Oper) (σ0 : SS R) (k : SS R → Prop) : Nat → List (Nat × Bool) → Prop
  | 0, _ => Stuck 27
  | n + 1, asm => drawGo P T ops σ0 asm
      (fun recs => if allPairs (lenAll recs σ0.hp.length) 0 recs && allKnown σ0.hp.length recs recs then fSS (finSt ops σ0 recs) k else Stuck 28)
      (fun t c => (c = true → rxDraw P T ops σ0 k n ((t, true) :: asm)) ∧ (c = false → rxDraw P T ops σ0 k n ((t, false) :: asm))) ops []
end
end Go.Proofs.YtobdpddamdkabaaDoor.Rx
namespace Go.Proofs.YtobdpddamdkabaaDoor.Rx
open Go.RowKit Go.Proofs.YtobdpddamdkabaaDoor.State
set_option linter.unusedVariables false
set_option linter.unusedSimpArgs false
section
variable {R : Type} {D : Res R} {P : Program} {T : Tab R}
theorem heapOf_get {h0 : Hp R} {recs : List (Rec R)} {p sel : Nat → Bool} : ∀ (n b i : Nat), (heapOf h0 recs p sel b n).length = n ∧ (i < n → (heapOf h0 recs p sel b n)[i]? = some (if sel (b + i) then content p (b + i) recs 0 (at2 h0 (b + i)) else none))
  | 0, b, i => ⟨rfl, fun h => by omega⟩
  | n + 1, b, i => by
    obtain ⟨h1, h2⟩ := heapOf_get (h0 := h0) (recs := recs) (p := p) (sel := sel) n (b + 1) (i - 1)
    grind[heapOf]
theorem content_congr {p q : Nat → Bool} {b : Nat} : ∀ (recs : List (Rec R)) (j0 : Nat) (acc : Option (SB R)), (∀ j r, recs[j]? = some r → touches r b = true → p (j0 + j) = q (j0 + j)) → content p b recs j0 acc = content q b recs j0 acc
  | [], _, _, _ => rfl
  | r :: l, j0, acc, h => by
    simp only [content]
    have h0 := h 0 r (by simp)
    have e : (p j0 && touches r b) = (q j0 && touches r b) := by
      grind
    rw [e]
    exact content_congr l (j0 + 1) _ fun j r' hj ht => by
      have := h (j + 1) r' (by grind) ht
      grind
/-- the last one that counts -/
theorem content_last {p : Nat → Bool} {b : Nat} : ∀ (recs : List (Rec R)) (j0 : Nat) (acc : Option (SB R)) (i : Nat) (r : Rec R), recs[i]? = some r → p (j0 + i) = true → touches r b = true →
    (∀ j r', recs[j]? = some r' → i < j → p (j0 + j) = true → touches r' b = false) → content p b recs j0 acc = at2 r.hx b
  | [], _, _, i, r, hi, _, _, _ => by simp at hi
  | r0 :: l, j0, acc, i, r, hi, hp, ht, hn => by
    simp only [content]
    cases i with
    | zero =>
      simp only [List.getElem?_cons_zero, Option.some.injEq] at hi
      subst hi
      rw [Nat.add_zero] at hp
      simp only [hp, ht, Bool.and_self, if_true]
      have : ∀ (l : List (Rec R)) (j1 : Nat) (acc : Option (SB R)), (∀ j r', l[j]? = some r' → p (j1 + j) = true → touches r' b = false) → content p b l j1 acc = acc := by
        intro l
        induction l with
        | nil => intro j1 acc _; rfl
        | cons r' l ih =>
          intro j1 acc h
          simp only [content]
          have h0 := h 0 r' (by simp)
          have e : (p j1 && touches r' b) = false := by
            grind
          rw [e]
          exact ih (j1 + 1) acc fun j r'' hj hpj => h (j + 1) r'' (by grind) (by grind)
      exact this l (j0 + 1) _ fun j r' hj hpj => hn (j + 1) r' (by grind) (by omega) (by grind)
    | succ i =>
      exact content_last l (j0 + 1) _ i r hi (by grind) ht fun j r' hj hlt hpj => hn (j + 1) r' (by grind) (by omega) (by grind)
/-- either it is as it was, or some one that counts made it so -/
theorem content_from {p : Nat → Bool} {b : Nat} : ∀ (recs : List (Rec R)) (j0 : Nat) (acc : Option (SB R)), content p b recs j0 acc = acc ∨ ∃ i r, recs[i]? = some r ∧ p (j0 + i) = true ∧ touches r b = true ∧ content p b recs j0 acc = at2 r.hx b
  | [], _, _ => Or.inl rfl
  | r :: l, j0, acc => by
    simp only [content]
    rcases content_from (p := p) (b := b) l (j0 + 1) (if p j0 && touches r b then at2 r.hx b else acc) with h | ⟨i, r', h1, h2, h3, h4⟩
    · cases hc : (p j0 && touches r b) with
      | false => grind
      | true =>
        rw [hc] at h
        simp only [Bool.and_eq_true] at hc
        exact Or.inr ⟨0, r, by simp, by grind, hc.2, by grind⟩
    · exact Or.inr ⟨i + 1, r', by grind, by grind, h3, h4⟩
theorem content_take {p : Nat → Bool} {b : Nat} : ∀ (recs : List (Rec R)) (i j0 : Nat) (acc : Option (SB R)), (∀ j, i ≤ j → p (j0 + j) = false) → content p b (recs.take i) j0 acc = content p b recs j0 acc
  | [], i, j0, acc, _ => by simp
  | r :: l, 0, j0, acc, h => by
    have : content p b (r :: l) j0 acc = content (fun _ => false) b (r :: l) j0 acc := content_congr _ _ _ fun j _ _ _ => h j (by omega)
    rw [this]
    have key : ∀ (l : List (Rec R)) (j1 : Nat), content (fun _ => false) b l j1 acc = acc := fun l => by
      induction l with
      | nil => intro _; rfl
      | cons r l ih => simp_all[content]
    rw [key]
    rfl
  | r :: l, i + 1, j0, acc, h => by
    exact content_take l i (j0 + 1) _ fun j hj => by have := h (j + 1) (by omega); grind
theorem lenAll_snoc (l : List (Rec R)) (r : Rec R) (n : Nat) : lenAll (l ++ [r]) n = if allocs r then r.hx.length else lenAll l n := by
  induction l generalizing n with
  | nil => rfl
  | cons a l ih => grind[lenAll]
theorem madeBy_iff {recs : List (Rec R)} {b : Nat} : ∀ {l : List Nat}, madeBy recs l b = true → ∃ j q, j ∈ l ∧ recs[j]? = some q ∧ newAt q b = true
  | [], h => by cases h
  | j :: l, h => by
    simp only [madeBy, Bool.or_eq_true] at h
    rcases h with h | h
    · grind
    · obtain ⟨j', q, h1, h2, h3⟩ := madeBy_iff h
      grind
theorem knH_get {f : Nat → Bool} : ∀ {h : Hp R} {b : Nat} {t : TypeId} {cs : List Value}, knH f h = true → h[b]? = some (some (.inl (t, cs))) → knL f cs = true
  | [], b, t, cs, _, hb => by simp at hb
  | x :: h, b, t, cs, hk, hb => by
    have hr : knH f h = true ∧ (b = 0 → knL f cs = true) := by
      rcases x with _ | ⟨t', cs'⟩ | ⟨t', ro⟩ | ro | x
      · exact ⟨hk, fun e => by grind⟩
      · simp only [knH, Bool.and_eq_true] at hk
        grind
      · exact ⟨hk, fun e => by grind⟩
      · exact ⟨hk, fun e => by grind⟩
      · exact ⟨hk, fun e => by grind⟩
    cases b with
    | zero => grind
    | succ b => exact knH_get hr.1 hb
theorem allKnown_get {n : Nat} {all : List (Rec R)} : ∀ {l : List (Rec R)} {i : Nat} {r : Rec R}, allKnown n all l = true → l[i]? = some r → knV (knownAt n all r) r.v = true ∧ knH (knownAt n all r) r.hx = true
  | [], i, r, _, h => by simp at h
  | r0 :: l, i, r, h, hi => by
    simp only [allKnown, Bool.and_eq_true] at h
    cases i with
    | zero => grind
    | succ i => exact allKnown_get h.2 hi
theorem preOf_mem {recs : List (Rec R)} : ∀ {es : List Edge} {pre : List Nat}, preOf recs es = some pre → (∀ e ∈ es, Region.binds .any e = true → e.on ∈ pre) ∧
    ∀ j ∈ pre, ∃ e ∈ es, Region.binds .any e = true ∧ ∃ q, recs[e.on]? = some q ∧ (j = e.on ∨ j ∈ q.pre)
  | [], pre, h => by
    grind[preOf]
  | e :: l, pre, h => by
    simp only [preOf] at h
    split at h
    · cases h
    · rename_i r hr
      obtain ⟨h1, h2⟩ := preOf_mem hr
      grind[ins_mem,insL_mem]
theorem dstIdx_some {ops : List Oper} : ∀ {t i0 j : Nat}, dstIdx ops t i0 = some j → ∃ k o, j = i0 + k ∧ ops[k]? = some o ∧ o.dst = some t := by
  induction ops with
  | nil => intro t i0 j h; cases h
  | cons o l ih =>
    intro t i0 j h
    simp only [dstIdx] at h
    split at h
    · rename_i u hu
      split at h
      · simp_all
      · obtain ⟨k, o', h1, h2, h3⟩ := ih h
        exact ⟨k + 1, o', by omega, by grind, h3⟩
    · obtain ⟨k, o', h1, h2, h3⟩ := ih h
      exact ⟨k + 1, o', by omega, by grind, h3⟩
theorem dstIdx_first {ops : List Oper} : ∀ {t i0 k : Nat} {o : Oper}, ops[k]? = some o → o.dst = some t → (∀ j o', ops[j]? = some o' → j < k → o'.dst ≠ some t) → dstIdx ops t i0 = some (i0 + k) := by
  induction ops with
  | nil => simp
  | cons o0 l ih =>
    intro t i0 k o h hd hn
    simp only [dstIdx]
    cases k with
    | zero =>
      simp_all
    | succ k =>
      have h0 := hn 0 o0 (by simp) (by omega)
      grind[Nat.eq_of_beq_eq_true]
theorem mkTm_get {ops : List Oper} {recs : List (Rec R)} {pre tms : List Nat} : ∀ {l : List (Option Value)} {t0 i : Nat} {v : Value}, (mkTm ops recs pre tms t0 l).length = l.length ∧
    ((mkTm ops recs pre tms t0 l)[i]? = some (some v) → t0 + i ∈ tms ∧ ((∃ j r, dstIdx ops (t0 + i) 0 = some j ∧ j ∈ pre ∧ recs[j]? = some r ∧ v = r.v) ∨ (dstIdx ops (t0 + i) 0 = none ∧ l[i]? = some (some v)) ∨ (∃ j, dstIdx ops (t0 + i) 0 = some j ∧ recs.length ≤ j ∧ l[i]? = some (some v)))) := by
  intro l
  induction l with
  | nil => grind[mkTm]
  | cons x l ih =>
    intro t0 i v
    obtain ⟨h1, _⟩ := ih (t0 := t0 + 1) (i := i) (v := v)
    refine ⟨by simp [mkTm, h1], fun h => ?_⟩
    cases i with
    | zero =>
      simp only [mkTm, List.getElem?_cons_zero, Option.some.injEq, Nat.add_zero] at h ⊢
      split at h
      · rename_i hm
        refine ⟨mem_iff.1 hm, ?_⟩
        split at h
        · rename_i j hj
          split at h
          · grind[mem_iff]
          simp_all
        grind
      · cases h
    | succ i =>
      grind[mkTm]
theorem mkLi_mem {ops : List Oper} {li : List (Nat × Bool)} {recs : List (Rec R)} {pre : List Nat} : ∀ {l : List Nat} {t : Nat} {b : Bool}, (t, b) ∈ mkLi ops li recs pre l →
    t ∈ l ∧ ((∃ j r, dstIdx ops t 0 = some j ∧ j ∈ pre ∧ recs[j]? = some r ∧ r.lit = some b) ∨ (dstIdx ops t 0 = none ∧ (t, b) ∈ li)) := by
  intro l
  induction l with
  | nil => intro t b h; cases h
  | cons u l ih =>
    grind[mkLi,List.mem_singleton,mem_iff,look_mem]
theorem someV_mem {l : List (Option Value)} {v : Value} : ∀ {i : Nat}, l[i]? = some (some v) → v ∈ someV l := by
  induction l with
  | nil => simp
  | cons x l ih =>
    intro i h
    cases i with
    | zero =>
      simp only [List.getElem?_cons_zero, Option.some.injEq] at h
      subst h
      exact List.mem_cons_self
    | succ i =>
      cases x with
      | none => exact ih h
      | some u => exact List.mem_cons_of_mem _ (ih h)
theorem tmpsOf_mem {l : List Operand} {t : Nat} : t ∈ tmpsOf l ↔ .tmp t ∈ l := by
  induction l with
  | nil => simp [tmpsOf]
  | cons x l ih => cases x <;> simp [tmpsOf, ih]
theorem backOk_get : ∀ {hr hx : Hp R} {b : Nat} {X : SB R}, backOk hr hx = true → hr.length ≤ hx.length ∧ (hx[b]? = some (some X) → (b < hr.length → ∃ Y, hr[b]? = some (some Y)) ∧ (isView X = false ∨ ∃ Y, hr[b]? = some (some Y) ∧ isView Y = true))
  | [], [], b, X, _ => ⟨Nat.le_refl _, fun h => by simp at h⟩
  | [], none :: hx, b, X, h => by
    simp only [backOk] at h
    have ih := fun b => backOk_get (b := b) (X := X) h
    refine ⟨by simp, fun hb => ⟨fun hlt => by simp at hlt, ?_⟩⟩
    cases b with
    | zero => simp at hb
    | succ b =>
      simp only [List.getElem?_cons_succ] at hb
      rcases ((ih b).2 hb).2 with h1 | ⟨Y, hY, _⟩
      · exact Or.inl h1
      · simp at hY
  | [], some X' :: hx, b, X, h => by
    simp only [backOk, Bool.and_eq_true, Bool.not_eq_true'] at h
    have ih := fun b => backOk_get (b := b) (X := X) h.2
    refine ⟨by simp, fun hb => ⟨fun hlt => by simp at hlt, ?_⟩⟩
    cases b with
    | zero =>
      simp only [List.getElem?_cons_zero, Option.some.injEq] at hb
      subst hb
      exact Or.inl h.1
    | succ b =>
      simp only [List.getElem?_cons_succ] at hb
      rcases ((ih b).2 hb).2 with h1 | ⟨Y, hY, _⟩
      · exact Or.inl h1
      · simp at hY
  | _ :: _, [], b, X, h => by simp [backOk] at h
  | none :: hr, none :: hx, b, X, h => by
    simp only [backOk] at h
    have ih := fun b => backOk_get (b := b) (X := X) h
    refine ⟨by have := (ih 0).1; simpa using this, fun hb => ?_⟩
    cases b with
    | zero => simp at hb
    | succ b => simp only [List.getElem?_cons_succ, List.length_cons] at hb ⊢; exact ⟨fun hlt => ((ih b).2 hb).1 (by omega), ((ih b).2 hb).2⟩
  | none :: _, some _ :: _, b, X, h => by simp [backOk] at h
  | some Y :: hr, none :: hx, b, X, h => by
    simp only [backOk] at h
    have ih := fun b => backOk_get (b := b) (X := X) h
    refine ⟨by have := (ih 0).1; simpa using this, fun hb => ?_⟩
    cases b with
    | zero => simp at hb
    | succ b => simp only [List.getElem?_cons_succ, List.length_cons] at hb ⊢; exact ⟨fun hlt => ((ih b).2 hb).1 (by omega), ((ih b).2 hb).2⟩
  | some Y :: hr, some X' :: hx, b, X, h => by
    simp only [backOk, Bool.and_eq_true, Bool.or_eq_true, Bool.not_eq_true'] at h
    have ih := fun b => backOk_get (b := b) (X := X) h.2
    refine ⟨by have := (ih 0).1; simpa using this, fun hb => ?_⟩
    cases b with
    | zero =>
      simp only [List.getElem?_cons_zero, Option.some.injEq] at hb
      subst hb
      exact ⟨fun _ => ⟨Y, by simp⟩, h.1.imp id fun hv => ⟨Y, by simp, hv⟩⟩
    | succ b => simp only [List.getElem?_cons_succ, List.length_cons] at hb ⊢; exact ⟨fun hlt => ((ih b).2 hb).1 (by omega), ((ih b).2 hb).2⟩
theorem allLt_get {f : Nat → Bool} : ∀ {n i : Nat}, allLt f n = true → i < n → f i = true
  := by intro a b c d;induction d<;>intros<;>simp_all[allLt]
theorem pairsOk_get {n i : Nat} {a : Rec R} : ∀ {l : List (Rec R)} {j k : Nat} {b : Rec R}, pairsOk n i a j l = true → l[k]? = some b → pairOk n i (j + k) a b = true
  | [], j, k, b, _, h => by simp at h
  | b0 :: l, j, k, b, h, hk => by
    simp only [pairsOk, Bool.and_eq_true] at h
    cases k with
    | zero => grind
    | succ k =>
      have := pairsOk_get h.2 hk
      grind
theorem allPairs_get {n : Nat} : ∀ {l : List (Rec R)} {i0 i j : Nat} {a b : Rec R}, allPairs n i0 l = true → l[i]? = some a → l[j]? = some b → i < j → pairOk n (i0 + i) (i0 + j) a b = true
  | [], _, i, j, a, b, _, h, _, _ => by simp at h
  | a0 :: l, i0, i, j, a, b, h, hi, hj, hlt => by
    simp only [allPairs, Bool.and_eq_true] at h
    cases j with
    | zero => omega
    | succ j =>
      cases i with
      | zero =>
        simp only [List.getElem?_cons_zero, Option.some.injEq] at hi
        have := pairsOk_get h.1 hj
        grind
      | succ i =>
        have := allPairs_get h.2 hi hj (by omega)
        grind
end
end Go.Proofs.YtobdpddamdkabaaDoor.Rx
namespace Go.Proofs.YtobdpddamdkabaaDoor.Rx
open Go.RowKit Go.Proofs.YtobdpddamdkabaaDoor.State
set_option linter.unusedVariables false
set_option linter.unusedSimpArgs false
section
variable {R : Type} {D : Res R} {P : Program} {T : Tab R}
/-- what a record says, with those ahead of it -/
structure RecOk (P : Program) (T : Tab R) (ops : List Oper) (σ0 : SS R) (ahead : List (Rec R)) (i : Nat) (r : Rec R) : Prop where
  o : ops[i]? = some r.o
  pre : preOf ahead r.o.after.toList = some r.pre
  how : (guardSt ahead r.pre r.o.guard = 1 ∧ r.v = undef ∧ r.lit = none ∧ r.hr = [] ∧ r.hx = [] ∧ r.w = false) ∨
    (guardSt ahead r.pre r.o.guard = 0 ∧ ∃ x, (∃ b, goes (forkOf P T (seenSt ops σ0 ahead r.pre r.o) r.o) b ∧ sop P T (seenSt ops σ0 ahead r.pre r.o) r.o b = some x) ∧ seenOk σ0 (seenSt ops σ0 ahead r.pre r.o) r.o x = true ∧ x.vc ∧
      r.v = x.v ∧ (∀ b, r.lit = some b → x.lit = some b ∨ x.v = .bool b) ∧ r.hr = (seenSt ops σ0 ahead r.pre r.o).hp ∧ r.hx = x.hp ∧ r.w = !x.wr.isEmpty ∧ r.wl = x.wr)
def RecsOk (P : Program) (T : Tab R) (ops : List Oper) (σ0 : SS R) (recs : List (Rec R)) : Prop := ∀ i r, recs[i]? = some r → RecOk P T ops σ0 (recs.take i) i r
theorem RecsOk.add {ops : List Oper} {σ0 : SS R} {recs : List (Rec R)} {r : Rec R} (h : RecsOk P T ops σ0 recs) (hr : RecOk P T ops σ0 recs recs.length r) : RecsOk P T ops σ0 (addRec recs r) := by
  intro i q hq
  unfold addRec at hq ⊢
  rcases Nat.lt_or_ge i recs.length with hlt | hge
  · rw [List.getElem?_append_left hlt] at hq
    rw [List.take_append_of_le_length (by omega)]
    exact h i q hq
  grind
theorem also_out {e : Bool} {p q : Prop} (h : also e p q) (he : e = true → p) : p ∧ q := by
  cases e with
  | true => exact ⟨he rfl, h⟩
  | false => exact ⟨h.1.out, h.2⟩
theorem drawGo_ok {ops : List Oper} {σ0 : SS R} {asm : List (Nat × Bool)} {k : List (Rec R) → Prop} {fk : Nat → Bool → Prop} : ∀ (l : List Oper) {recs : List (Rec R)}, ops.drop recs.length = l → RecsOk P T ops σ0 recs →
    drawGo P T ops σ0 asm k fk l recs → (∃ recs', recs'.length = ops.length ∧ RecsOk P T ops σ0 recs' ∧ k recs') ∨ ∃ t c, fk t c
  | [], recs, hl, hok, h => by
    rcases Nat.lt_or_ge recs.length ops.length with hlt | hge
    · grind[List.drop_eq_nil_iff]
    · -- not longer than the operations
      refine Or.inl ⟨recs, ?_, hok, h⟩
      rcases Nat.lt_or_ge ops.length recs.length with hlt | hle
      · have hq : recs[ops.length]? = some (recs[ops.length]) := List.getElem?_eq_getElem hlt
        have := (hok _ _ hq).o
        grind
      · omega
  | o :: l, recs, hl, hok, h => by
    have ho : ops[recs.length]? = some o := by
      have := congrArg (fun m => m[0]?) hl
      grind
    have hnext : ∀ r : Rec R, ops.drop (addRec recs r).length = l := fun r => by
      unfold addRec
      rw [List.length_append, List.length_singleton, ← List.drop_drop, hl]
      rfl
    simp only [drawGo, fNs_eq, fTm_eq, fLi_eq, fHp_eq] at h
    split at h
    · exact h.elim
    · rename_i pre hp
      have hst : (⟨seenTm ops σ0 recs pre o, mkLi ops σ0.li recs pre (tmpsOf o.op.operands.toList), heapOf σ0.hp recs (mem pre) (mem (selOf o (blksL (someV (seenTm ops σ0 recs pre o))) (heapOf σ0.hp recs (mem pre) (fun _ => true) 0 (lenAll recs σ0.hp.length)))) 0 (lenAll recs σ0.hp.length)⟩ : SS R) = seenSt ops σ0 recs pre o := rfl
      have hsh : heapOf σ0.hp recs (mem pre) (mem (selOf o (blksL (someV (seenTm ops σ0 recs pre o))) (heapOf σ0.hp recs (mem pre) (fun _ => true) 0 (lenAll recs σ0.hp.length)))) 0 (lenAll recs σ0.hp.length) = (seenSt ops σ0 recs pre o).hp := rfl
      split at h
      · rename_i hg
        have one : ∀ b, goes (forkOf P T (seenSt ops σ0 recs pre o) o) b → drawOne P T σ0 asm o pre (seenTm ops σ0 recs pre o) (mkLi ops σ0.li recs pre (tmpsOf o.op.operands.toList)) (seenSt ops σ0 recs pre o).hp (fun r => drawGo P T ops σ0 asm k fk l (addRec recs r)) b →
            (∃ recs', recs'.length = ops.length ∧ RecsOk P T ops σ0 recs' ∧ k recs') ∨ ∃ t c, fk t c := by
          intro way hway h
          simp only [drawOne, fHp_eq, fV_eq, fB_eq] at h
          have hst2 : (⟨seenTm ops σ0 recs pre o, mkLi ops σ0.li recs pre (tmpsOf o.op.operands.toList), (seenSt ops σ0 recs pre o).hp⟩ : SS R) = seenSt ops σ0 recs pre o := rfl
          simp only [hst2] at h
          split at h
          · exact h.elim
          · rename_i x hx
            split at h
            · rename_i hs
              -- what is asked for
              obtain ⟨hvc, h⟩ := also_out h (easy_vc hx)
              split at h
              · rename_i b hb
                exact drawGo_ok l (hnext _) (hok.add ⟨ho, hp, Or.inr ⟨hg, x, ⟨way, hway, hx⟩, hs, hvc, rfl, (fun c hc => Or.inl (by grind)), rfl, rfl, rfl, rfl⟩⟩) h
              · split at h
                · exact drawGo_ok l (hnext _) (hok.add ⟨ho, hp, Or.inr ⟨hg, x, ⟨way, hway, hx⟩, hs, hvc, h.1.out.symm, (fun c hc => Or.inr (by injection hc with hc; subst hc; exact h.1.out)), rfl, rfl, rfl, rfl⟩⟩) h.2
                · exact drawGo_ok l (hnext _) (hok.add ⟨ho, hp, Or.inr ⟨hg, x, ⟨way, hway, hx⟩, hs, hvc, rfl, (fun c hc => by cases hc), rfl, rfl, rfl, rfl⟩⟩) h
            · exact h.elim
        split at h
        · rename_i hf
          exact one true (Or.inl ⟨hf, rfl⟩) h
        · rename_i c hf
          cases c with
          | true => exact one true (Or.inr hf) (h.1 rfl)
          | false => exact one false (Or.inr hf) (h.2 rfl)
      · rename_i hg
        exact drawGo_ok l (hnext _) (hok.add ⟨ho, hp, Or.inl ⟨hg, rfl, rfl, rfl, rfl, rfl⟩⟩) h
      · split at h
        · split at h
          · split at h
            · grind
            · exact h.elim
          · exact h.elim
        · exact h.elim
      · exact h.elim
theorem rxDraw_ok {ops : List Oper} {σ0 : SS R} {k : SS R → Prop} : ∀ (n : Nat) {asm : List (Nat × Bool)}, rxDraw P T ops σ0 k n asm →
    ∃ recs, recs.length = ops.length ∧ RecsOk P T ops σ0 recs ∧ allPairs (lenAll recs σ0.hp.length) 0 recs = true ∧ allKnown σ0.hp.length recs recs = true ∧ k (finSt ops σ0 recs)
  | 0, asm, h => h.elim
  | n + 1, asm, h => by
    simp only [rxDraw, fSS_eq] at h
    rcases drawGo_ok ops (recs := []) rfl (fun i r hr => by simp at hr) h with ⟨recs, h1, h2, h3⟩ | ⟨t, c, h3⟩
    · split at h3
      · grind
      · exact h3.elim
    · cases c with
      | true => exact rxDraw_ok n (h3.1 rfl)
      | false => exact rxDraw_ok n (h3.2 rfl)

/-- the records of a region -/
structure Good (P : Program) (T : Tab R) (ops : List Oper) (σ0 : SS R) (recs : List (Rec R)) : Prop where
  len : recs.length = ops.length
  all : RecsOk P T ops σ0 recs
  pairs : allPairs (lenAll recs σ0.hp.length) 0 recs = true
  known : allKnown σ0.hp.length recs recs = true
variable {ops : List Oper} {σ0 : SS R} {recs : List (Rec R)}
theorem Good.pre_lt (g : Good P T ops σ0 recs) : ∀ (i : Nat) {r : Rec R} {j : Nat}, recs[i]? = some r → j ∈ r.pre → j < i := by
  intro i
  induction i using Nat.strongRecOn with
  | _ i ih =>
    intro r j hr hj
    obtain ⟨_, h2⟩ := preOf_mem (g.all i r hr).pre
    grind
theorem Good.pre_ge (g : Good P T ops σ0 recs) {i : Nat} {r : Rec R} (hr : recs[i]? = some r) : ∀ j, i ≤ j → mem r.pre j = false := fun j hj => by
  cases hm : mem r.pre j with
  | false => rfl
  | true => have := g.pre_lt i hr (mem_iff.1 hm); omega
theorem Good.pair (g : Good P T ops σ0 recs) {i j : Nat} {a b : Rec R} (hi : recs[i]? = some a) (hj : recs[j]? = some b) (hlt : i < j) : pairOk (lenAll recs σ0.hp.length) i j a b = true := by
  have := allPairs_get g.pairs hi hj hlt
  grind
theorem allocs_iff {r : Rec R} : allocs r = true ↔ r.hr.length < r.hx.length := by simp [allocs, Nat.blt_eq]
theorem newAt_iff {r : Rec R} {b : Nat} : newAt r b = true ↔ r.hr.length ≤ b ∧ b < r.hx.length := by simp_all[newAt]
theorem ownAt_iff {h : Hp R} {b : Nat} : ownAt h b = true ↔ ∃ X, h[b]? = some (some X) ∧ isView X = false := by grind[ownAt]
/-- what an operation sees of the heap -/
theorem Good.hr (g : Good P T ops σ0 recs) {i : Nat} {r : Rec R} (hr : recs[i]? = some r) : r.hr = [] ∧ r.hx = [] ∧ r.w = false ∨
    ∃ sel, r.hr = heapOf σ0.hp recs (mem r.pre) sel 0 (lenAll (recs.take i) σ0.hp.length) := by
  rcases (g.all i r hr).how with ⟨_, _, _, h1, h2, h3⟩ | ⟨_, x, _, _, _, _, _, h1, _, _⟩
  · grind
  · refine Or.inr ⟨seenSel ops σ0 (recs.take i) r.pre r.o, ?_⟩
    rw [h1]
    simp only [seenSt]
    have hz : ∀ j, i ≤ j → mem r.pre (0 + j) = false := fun j hj => by rw [Nat.zero_add]; exact g.pre_ge hr j hj
    apply List.ext_getElem?
    intro b
    rcases Nat.lt_or_ge b (lenAll (recs.take i) σ0.hp.length) with hlt | hge
    · grind[heapOf_get,content_take]
    · rw [List.getElem?_eq_none (by rw [(heapOf_get _ 0 0).1]; exact hge), List.getElem?_eq_none (by rw [(heapOf_get _ 0 0).1]; exact hge)]
theorem Good.hr_get (g : Good P T ops σ0 recs) {i b : Nat} {r : Rec R} {X : SB R} (hr : recs[i]? = some r) (hb : r.hr[b]? = some (some X)) :
    b < lenAll (recs.take i) σ0.hp.length ∧ content (mem r.pre) b recs 0 (at2 σ0.hp b) = some X := by
  rcases g.hr hr with ⟨h1, _⟩ | ⟨sel, h1⟩
  · grind
  · rw [h1] at hb
    have hlt : b < lenAll (recs.take i) σ0.hp.length := by
      have := (List.getElem?_eq_some_iff.1 hb).1
      rwa [(heapOf_get _ 0 0).1] at this
    simp_all[heapOf_get]
theorem Good.hx (g : Good P T ops σ0 recs) {i : Nat} {r : Rec R} (hr : recs[i]? = some r) (hT : TabOk D P T) : r.hr.length ≤ r.hx.length ∧ (r.w = false → r.hx = r.hr) ∧
    ∀ (b : Nat) (X : SB R), r.hx[b]? = some (some X) → (b < r.hr.length → ∃ Y, r.hr[b]? = some (some Y)) ∧ (isView X = false ∨ ∃ Y, r.hr[b]? = some (some Y) ∧ isView Y = true) := by
  rcases (g.all i r hr).how with ⟨_, _, _, h1, h2, h3⟩ | ⟨_, x, hx, hs, _, _, _, h1, h2, h3, _⟩
  · grind
  · simp only [seenOk, Bool.and_eq_true] at hs
    have hb := fun b X => backOk_get (b := b) (X := X) hs.2
    rw [h1, h2]
    refine ⟨(hs.2 |> backOk_get (b := 0) (X := .inl (0, []))).1, fun hw => ?_, fun b X => (hb b X).2⟩
    obtain ⟨way, _, hx⟩ := hx
    refine sop_still hT hx ?_
    grind
/-- what an operation leaves as it was -/
theorem Good.kept (g : Good P T ops σ0 recs) {i : Nat} {r : Rec R} (hr : recs[i]? = some r) (hT : TabOk D P T) {b : Nat} (hb : b < r.hr.length) (hk : keepO r.o r.wl b = true) : r.hx[b]? = r.hr[b]? := by
  rcases (g.all i r hr).how with ⟨_, _, _, h1, h2, h3⟩ | ⟨_, x, hx, hs, _, _, _, h1, h2, _, h4⟩
  all_goals grind[sop_keep]
theorem Good.hr_len (g : Good P T ops σ0 recs) {i : Nat} {r : Rec R} (hr : recs[i]? = some r) (h : allocs r = true ∨ r.w = true) : r.hr.length = lenAll (recs.take i) σ0.hp.length := by
  rcases g.hr hr with ⟨h1, h2, h3⟩ | ⟨sel, h1⟩
  · grind[allocs_iff]
  · rw [h1, (heapOf_get _ 0 0).1]
theorem Good.hr_le (g : Good P T ops σ0 recs) {i : Nat} {r : Rec R} (hr : recs[i]? = some r) : r.hr.length ≤ lenAll (recs.take i) σ0.hp.length := by
  rcases g.hr hr with ⟨h1, _⟩ | ⟨sel, h1⟩
  · grind
  · rw [h1, (heapOf_get _ 0 0).1]; simp
theorem Good.n_succ (g : Good P T ops σ0 recs) {i : Nat} {r : Rec R} (hr : recs[i]? = some r) : lenAll (recs.take (i + 1)) σ0.hp.length = if allocs r then r.hx.length else lenAll (recs.take i) σ0.hp.length := by grind[List.take_add_one,lenAll_snoc]
theorem Good.n_step (g : Good P T ops σ0 recs) (i : Nat) : lenAll (recs.take i) σ0.hp.length ≤ lenAll (recs.take (i + 1)) σ0.hp.length := by
  rcases Nat.lt_or_ge i recs.length with hlt | hge
  · have hr : recs[i]? = some recs[i] := List.getElem?_eq_getElem hlt
    rw [g.n_succ hr]
    split
    · rename_i ha
      have h1 := g.hr_len hr (Or.inl ha)
      grind[allocs_iff]
    simp
  · rw [List.take_of_length_le hge, List.take_of_length_le (by omega)]
    simp
theorem Good.n_mono (g : Good P T ops σ0 recs) {i j : Nat} (h : i ≤ j) : lenAll (recs.take i) σ0.hp.length ≤ lenAll (recs.take j) σ0.hp.length := by
  induction j with
  | zero =>
    grind
  | succ j ih =>
    by_cases he : i = j + 1
    · grind
    · exact Nat.le_trans (ih (by omega)) (g.n_step j)
theorem Good.n0_le (g : Good P T ops σ0 recs) (i : Nat) : σ0.hp.length ≤ lenAll (recs.take i) σ0.hp.length := by
  have := g.n_mono (Nat.zero_le i)
  rwa [List.take_zero] at this
theorem Good.n_le (g : Good P T ops σ0 recs) (i : Nat) : lenAll (recs.take i) σ0.hp.length ≤ lenAll recs σ0.hp.length := by
  rcases Nat.le_total i recs.length with h | h
  · have := g.n_mono h
    grind
  simp_all[List.take_of_length_le]
theorem Good.hx_le (g : Good P T ops σ0 recs) (hT : TabOk D P T) {i : Nat} {r : Rec R} (hr : recs[i]? = some r) : r.hx.length ≤ lenAll (recs.take (i + 1)) σ0.hp.length := by
  rw [g.n_succ hr]
  split
  · simp
  · have h1 := g.hr_le hr
    grind[allocs_iff]
theorem Good.hx_all (g : Good P T ops σ0 recs) (hT : TabOk D P T) {i : Nat} {r : Rec R} (hr : recs[i]? = some r) : r.hx.length ≤ lenAll recs σ0.hp.length := Nat.le_trans (g.hx_le hT hr) (g.n_le _)
theorem Good.new_at (g : Good P T ops σ0 recs) (hT : TabOk D P T) {i b : Nat} {r : Rec R} (hr : recs[i]? = some r) (h : newAt r b = true) : lenAll (recs.take i) σ0.hp.length ≤ b ∧ b < lenAll (recs.take (i + 1)) σ0.hp.length := by
  obtain ⟨h1, h2⟩ := newAt_iff.1 h
  have ha : allocs r = true := allocs_iff.2 (by omega)
  have h3 := g.hr_len hr (Or.inl ha)
  have h4 := g.hx_le hT hr
  omega
theorem Good.new_ge (g : Good P T ops σ0 recs) (hT : TabOk D P T) {i b : Nat} {r : Rec R} (hr : recs[i]? = some r) (h : newAt r b = true) : σ0.hp.length ≤ b := Nat.le_trans (g.n0_le i) (g.new_at hT hr h).1
theorem Good.new_lt (g : Good P T ops σ0 recs) (hT : TabOk D P T) {i b : Nat} {r : Rec R} (hr : recs[i]? = some r) (h : newAt r b = true) : b < lenAll recs σ0.hp.length := Nat.lt_of_lt_of_le (g.new_at hT hr h).2 (g.n_le _)
/-- what is new is new with one alone -/
theorem Good.new_one (g : Good P T ops σ0 recs) (hT : TabOk D P T) {i j c : Nat} {a b : Rec R} (hi : recs[i]? = some a) (hj : recs[j]? = some b) (ha : newAt a c = true) (hb : newAt b c = true) : i = j := by
  have h1 := g.new_at hT hi ha
  have h2 := g.new_at hT hj hb
  rcases Nat.lt_trichotomy i j with h | h | h
  · have := g.n_mono (show i + 1 ≤ j from h)
    omega
  · exact h
  · have := g.n_mono (show j + 1 ≤ i from h)
    omega
theorem Good.view_not (g : Good P T ops σ0 recs) (hT : TabOk D P T) {i b : Nat} {r : Rec R} {X : SB R} (hr : recs[i]? = some r) (ht : touches r b = true) (hb : at2 r.hx b = some X) : isView X = false := by
  have hx : r.hx[b]? = some (some X) := by
    grind[at2]
  rcases ((g.hx hr hT).2.2 b X hx).2 with h | ⟨Y, hY, hv⟩
  all_goals simp_all[touches,ownAt_iff,newAt_iff]
theorem Good.view_src (g : Good P T ops σ0 recs) (hT : TabOk D P T) {p : Nat → Bool} {b : Nat} {X : SB R} (h : content p b recs 0 (at2 σ0.hp b) = some X) (hv : isView X = true) : at2 σ0.hp b = some X := by
  rcases content_from (p := p) (b := b) recs 0 (at2 σ0.hp b) with e | ⟨i, r, hr, _, ht, e⟩
  · grind
  · rw [e] at h
    have := g.view_not hT hr ht h
    grind
theorem at2_lt {α : Type} {h : List (Option α)} {b : Nat} {X : α} (hh : at2 h b = some X) : b < h.length := by grind[at2]
theorem Good.view_safe (g : Good P T ops σ0 recs) (hT : TabOk D P T) {b : Nat} {X : SB R} (h : at2 σ0.hp b = some X) (hv : isView X = true) : ∀ (i : Nat) {r : Rec R}, recs[i]? = some r → touches r b = false := by
  intro i
  induction i using Nat.strongRecOn with
  | _ i ih =>
    intro r hr
    cases ht : touches r b with
    | false => rfl
    | true =>
      simp only [touches, Bool.and_eq_true, Bool.or_eq_true] at ht
      rcases ht.2 with h1 | h1
      · obtain ⟨Y, hY, hv2⟩ := ownAt_iff.1 h1.1
        obtain ⟨_, hc⟩ := g.hr_get hr hY
        rcases content_from (p := mem r.pre) (b := b) recs 0 (at2 σ0.hp b) with e | ⟨j, q, hq, hp, htq, e⟩
        · grind
        · rw [Nat.zero_add] at hp
          rw [ih j (g.pre_lt i hr (mem_iff.1 hp)) hq] at htq
          cases htq
      · have h2 := g.new_ge hT hr h1
        have := at2_lt h
        omega
/-- two operations of which neither is ahead of the other don't meet -/
theorem Good.no_clash (g : Good P T ops σ0 recs) {i j : Nat} {a b : Rec R} (hi : recs[i]? = some a) (hj : recs[j]? = some b) (hlt : i < j) (hn : mem b.pre i = false) {c : Nat} (hc : c < lenAll recs σ0.hp.length) :
    ¬ (touches a c = true ∧ sees b c = true) ∧ ¬ (touches b c = true ∧ sees a c = true) := by
  have := g.pair hi hj hlt
  simp only [pairOk, Bool.and_eq_true, Bool.or_eq_true, Bool.not_eq_true'] at this
  obtain ⟨_, h2⟩ := this
  rcases h2 with h2 | h3
  · grind
  · have key : (a.w = true ∨ b.w = true) → ((touches a c && sees b c) || (touches b c && sees a c)) = false := fun hw => by
      have hw' : (a.w || b.w) = true := by grind
      grind[clash,allLt_get]
    simp_all[touches]
/-- the operations listed so far, and one that may follow -/
structure Next (recs : List (Rec R)) (p : Nat → Bool) (i : Nat) (r : Rec R) : Prop where
  at_ : recs[i]? = some r
  new : p i = false
  pre : ∀ j, j ∈ r.pre → p j = true
  closed : ∀ j q, p j = true → recs[j]? = some q → ∀ l ∈ q.pre, p l = true
variable {p : Nat → Bool} {i : Nat} {r : Rec R}
theorem Next.alone (n : Next recs p i r) (g : Good P T ops σ0 recs) {j : Nat} {q : Rec R} (hq : recs[j]? = some q) (hp : p j = true) (hm : mem r.pre j = false) {c : Nat} (hc : c < lenAll recs σ0.hp.length) :
    ¬ (touches q c = true ∧ sees r c = true) ∧ ¬ (touches r c = true ∧ sees q c = true) := by
  rcases Nat.lt_or_ge j i with hlt | hge
  · exact g.no_clash hq n.at_ hlt hm hc
  · have hne : j ≠ i := fun e => by rw [e, n.new] at hp; cases hp
    have hlt : i < j := by omega
    have hn : mem q.pre i = false := by
      cases hm2 : mem q.pre i with
      | false => rfl
      | true =>
        have := n.closed j q hp hq i (mem_iff.1 hm2)
        rw [n.new] at this
        cases this
    obtain ⟨h1, h2⟩ := g.no_clash n.at_ hq hlt hn hc
    grind
theorem Next.later (n : Next recs p i r) (g : Good P T ops σ0 recs) {j : Nat} {q : Rec R} (hq : recs[j]? = some q) (hp : p j = true) (hlt : i < j) : mem q.pre i = false := by
  cases hm2 : mem q.pre i with
  | false => rfl
  | true =>
    have := n.closed j q hp hq i (mem_iff.1 hm2)
    rw [n.new] at this
    cases this
/-- what it sees is there -/
theorem Next.sub (n : Next recs p i r) (g : Good P T ops σ0 recs) (hT : TabOk D P T) {b : Nat} {X : SB R} (hb : r.hr[b]? = some (some X)) : content p b recs 0 (at2 σ0.hp b) = some X := by
  obtain ⟨hlt, hc⟩ := g.hr_get n.at_ hb
  rw [← hc]
  refine content_congr recs 0 _ fun j q hq ht => ?_
  rw [Nat.zero_add]
  cases hv : isView X with
  | true =>
    have := g.view_safe hT (g.view_src hT hc hv) hv j hq
    grind
  | false =>
    cases hm : mem r.pre j with
    | true => exact n.pre j (mem_iff.1 hm)
    | false =>
      cases hp : p j with
      | false => rfl
      | true =>
        have hlt' : b < lenAll recs σ0.hp.length := Nat.lt_of_lt_of_le hlt (g.n_le i)
        exact absurd ⟨ht, by simp_all[sees,ownAt_iff]⟩ (n.alone g hq hp hm hlt').1
def addP (p : Nat → Bool) (i : Nat) : Nat → Bool := fun j => Nat.beq j i || p j
theorem addP_self (p : Nat → Bool) (i : Nat) : addP p i i = true := by simp [addP]
theorem addP_ne (p : Nat → Bool) {i j : Nat} (h : j ≠ i) : addP p i j = p j := by grind[Nat.eq_of_beq_eq_true,addP]
theorem Next.content_no (n : Next recs p i r) {b : Nat} (ht : touches r b = false) : content (addP p i) b recs 0 (at2 σ0.hp b) = content p b recs 0 (at2 σ0.hp b) := by
  refine content_congr recs 0 _ fun j q hq htq => ?_
  rw [Nat.zero_add]
  refine addP_ne p fun e => ?_
  subst e
  rw [n.at_] at hq
  grind
theorem Next.content_yes (n : Next recs p i r) (g : Good P T ops σ0 recs) (hT : TabOk D P T) {b : Nat} (ht : touches r b = true) : content (addP p i) b recs 0 (at2 σ0.hp b) = at2 r.hx b := by
  have hsee : sees r b = true := by
    simp only [touches, Bool.and_eq_true, Bool.or_eq_true] at ht
    simp only [sees, Bool.or_eq_true]
    grind
  have hb : b < lenAll recs σ0.hp.length := by
    simp only [sees, Bool.or_eq_true] at hsee
    rcases hsee with h | h
    · obtain ⟨X, hX, _⟩ := ownAt_iff.1 h
      exact Nat.lt_of_lt_of_le (g.hr_get n.at_ hX).1 (g.n_le i)
    · exact g.new_lt hT n.at_ h
  refine content_last recs 0 _ i r n.at_ (by simp[addP_self]) ht fun j q hq hlt hp => ?_
  rw [Nat.zero_add, addP_ne p (by omega)] at hp
  cases htq : touches q b with
  | false => rfl
  | true => exact absurd ⟨htq, hsee⟩ (g.no_clash n.at_ hq hlt (n.later g hq hp hlt) hb).2
/-- what is new with it, those before have not touched -/
theorem Next.new_no (n : Next recs p i r) (g : Good P T ops σ0 recs) (hT : TabOk D P T) {b : Nat} (hb : newAt r b = true) : ∀ (j : Nat) {q : Rec R}, p j = true → recs[j]? = some q → touches q b = false := by
  intro j
  induction j using Nat.strongRecOn with
  | _ j ih =>
    intro q hp hq
    cases ht : touches q b with
    | false => rfl
    | true =>
      simp only [touches, Bool.and_eq_true, Bool.or_eq_true] at ht
      rcases ht.2 with h1 | h1
      · obtain ⟨Y, hY, _⟩ := ownAt_iff.1 h1.1
        obtain ⟨_, hc⟩ := g.hr_get hq hY
        rcases content_from (p := mem q.pre) (b := b) recs 0 (at2 σ0.hp b) with e | ⟨l, q', hq', hp', htq, e⟩
        · rw [e] at hc
          have := at2_lt hc
          have := g.new_ge hT n.at_ hb
          omega
        · rw [Nat.zero_add] at hp'
          rw [ih l (g.pre_lt j hq (mem_iff.1 hp')) (n.closed j q hp hq l (mem_iff.1 hp')) hq'] at htq
          cases htq
      · have := g.new_one hT n.at_ hq hb h1
        rw [← this, n.new] at hp
        cases hp
theorem Next.new_none (n : Next recs p i r) (g : Good P T ops σ0 recs) (hT : TabOk D P T) {b : Nat} (hb : newAt r b = true) : content p b recs 0 (at2 σ0.hp b) = none := by
  rcases content_from (p := p) (b := b) recs 0 (at2 σ0.hp b) with e | ⟨j, q, hq, hp, ht, e⟩
  · rw [e]
    cases h : at2 σ0.hp b with
    | none => rfl
    | some X =>
      have := at2_lt h
      have := g.new_ge hT n.at_ hb
      omega
  · rw [Nat.zero_add] at hp
    rw [n.new_no g hT hb j hp hq] at ht
    cases ht
/-- what those before name is not new with it -/
theorem Next.known_no (n : Next recs p i r) (g : Good P T ops σ0 recs) (hT : TabOk D P T) {j : Nat} {q : Rec R} (hq : recs[j]? = some q) (hp : p j = true) {b : Nat} (h : knownAt σ0.hp.length recs q b = true) : (!newAt r b) = true := by
  cases hb : newAt r b with
  | false => rfl
  | true =>
    simp only [knownAt, Bool.or_eq_true, Nat.blt_eq] at h
    rcases h with (h | h) | h
    · have := g.new_ge hT n.at_ hb
      omega
    · have := g.new_one hT n.at_ hq hb h
      rw [← this, n.new] at hp
      cases hp
    · obtain ⟨l, q', h1, h2, h3⟩ := madeBy_iff h
      have := g.new_one hT n.at_ h2 hb h3
      have hpl := n.closed j q hp hq l h1
      rw [← this, n.new] at hpl
      cases hpl
/-- nor is what the heap's cells name -/
theorem Next.heap_no (n : Next recs p i r) (g : Good P T ops σ0 recs) (hT : TabOk D P T) (hsrc : ∀ b t cs, at2 σ0.hp b = some (.inl (t, cs)) → inbL σ0.hp.length cs = true) {b : Nat} {t : TypeId} {cs : List Value}
    (h : content p b recs 0 (at2 σ0.hp b) = some (.inl (t, cs))) : knL (fun b => !newAt r b) cs = true := by
  rcases content_from (p := p) (b := b) recs 0 (at2 σ0.hp b) with e | ⟨j, q, hq, hp, ht, e⟩
  · rw [e] at h
    refine inbL_kn (fun c hc => ?_) cs (hsrc b t cs h)
    cases hb : newAt r c with
    | false => rfl
    | true => have := g.new_ge hT n.at_ hb; omega
  · rw [Nat.zero_add] at hp
    rw [e] at h
    have hx : q.hx[b]? = some (some (.inl (t, cs))) := by
      grind[at2]
    exact knL_mono (fun c hc => n.known_no g hT hq hp hc) cs (knH_get (allKnown_get g.known hq).2 hx)
end
end Go.Proofs.YtobdpddamdkabaaDoor.Rx
namespace Go.Proofs.YtobdpddamdkabaaDoor.Rx
open Go.RowKit Go.Proofs.YtobdpddamdkabaaDoor.State
set_option linter.unusedVariables false
set_option linter.unusedSimpArgs false
section
variable {R : Type} {D : Res R} {P : Program} {T : Tab R} {C : Ctx} {ops : List Oper} {σ0 : SS R} {recs : List (Rec R)} {w w' : World}
theorem Good.recAt (g : Good P T ops σ0 recs) {j : Nat} {o : Oper} (h : ops[j]? = some o) : ∃ r, recs[j]? = some r ∧ r.o = o := by
  have hl : j < recs.length := by rw [g.len]; grind
  have hr : recs[j]? = some recs[j] := List.getElem?_eq_getElem hl
  have := (g.all j _ hr).o
  grind
theorem Good.dst_ne (g : Good P T ops σ0 recs) {i j : Nat} {a b : Oper} {t : Tmp} (hi : ops[i]? = some a) (hj : ops[j]? = some b) (ha : a.dst = some t) (hb : b.dst = some t) : i = j := by
  have key : ∀ (i j : Nat) (a b : Oper), ops[i]? = some a → ops[j]? = some b → a.dst = some t → b.dst = some t → i < j → False := by
    intro i j a b hi hj ha hb hlt
    obtain ⟨ra, h1, h2⟩ := g.recAt hi
    obtain ⟨rb, h3, h4⟩ := g.recAt hj
    have := g.pair h1 h3 hlt
    simp_all[pairOk]
  grind
theorem Good.dst_at (g : Good P T ops σ0 recs) {i : Nat} {a : Oper} {t : Tmp} (hi : ops[i]? = some a) (ha : a.dst = some t) : dstIdx ops t 0 = some i := by
  have := dstIdx_first (i0 := 0) hi ha fun j o' hj hlt e => by
    have := g.dst_ne hj hi e ha
    omega
  grind
theorem dst_src {t j : Nat} (h : dstIdx ops t 0 = some j) : ∃ o, ops[j]? = some o ∧ o.dst = some t := by
  obtain ⟨k, o, h1, h2, h3⟩ := dstIdx_some h
  grind
theorem mkTm_at {pre tms : List Nat} : ∀ {l : List (Option Value)} {t0 i : Nat} {x : Option Value}, l[i]? = some x → (mkTm ops recs pre tms t0 l)[i]? = some (if mem tms (t0 + i) then
      match dstIdx ops (t0 + i) 0 with
      | some j => if mem pre j then (match recs[j]? with
        | some r => some r.v
        | none => none) else if Nat.ble recs.length j then x else none
      | none => x
    else none) := by
  intro l
  induction l with
  | nil => simp
  | cons y l ih =>
    intro t0 i x h
    cases i with
    | zero =>
      simp_all[mkTm]
    | succ i =>
      grind[mkTm]
theorem take_get {i j : Nat} {r : Rec R} (h : (recs.take i)[j]? = some r) : j < i ∧ recs[j]? = some r := by grind
/-- the truths that are known are so -/
theorem Good.lit (g : Good P T ops σ0 recs) (hT : TabOk D P T) (hl0 : LI σ0.li σ0.tm) : ∀ (i : Nat) {r : Rec R}, recs[i]? = some r →
    (∀ b, r.lit = some b → r.v = .bool b ∧ ∀ t, r.o.dst = some t → t < σ0.tm.length) ∧
    ∀ x, seenOk σ0 (seenSt ops σ0 (recs.take i) r.pre r.o) r.o x = true → LI (seenSt ops σ0 (recs.take i) r.pre r.o).li (seenSt ops σ0 (recs.take i) r.pre r.o).tm := by
  intro i
  induction i using Nat.strongRecOn with
  | _ i ih =>
    intro r hr
    have hLI : LI (seenSt ops σ0 (recs.take i) r.pre r.o).li (seenSt ops σ0 (recs.take i) r.pre r.o).tm := by
      intro t b htb
      simp only [seenSt] at htb ⊢
      obtain ⟨h1, h2⟩ := mkLi_mem htb
      rcases h2 with ⟨j, q, h3, h4, h5, h6⟩ | ⟨h3, h4⟩
      · obtain ⟨hji, hq⟩ := take_get h5
        obtain ⟨o, ho, hd⟩ := dst_src h3
        have hqo : q.o = o := by
          have := (g.all j q hq).o
          grind
        obtain ⟨hv, ht⟩ := (ih j hji hq).1 b h6
        have hlt := ht t (by grind)
        have := mkTm_at (ops := ops) (recs := recs.take i) (pre := r.pre) (tms := tmpsOf r.o.op.operands.toList) (t0 := 0) (List.getElem?_eq_getElem hlt)
        rw [Nat.zero_add, mem_iff.2 h1, h3] at this
        simp only [if_true, mem_iff.2 h4, h5, hv] at this
        exact this
      · have h5 := hl0 t b h4
        simp_all[mkTm_at,mem_iff,seenTm]
    refine ⟨fun b hb => ?_, fun _ _ => hLI⟩
    rcases (g.all i r hr).how with ⟨_, _, h1, _⟩ | ⟨_, x, hx, hs, _, hv, hlit, _⟩
    · grind
    · refine ⟨?_, fun t ht => ?_⟩
      · rw [hv]
        rcases hlit b hb with h | h
        · obtain ⟨way, hway, hx⟩ := hx
          exact (sop_ok hT hway hx (D := D)).lit hLI b h
        · exact h
      simp_all[seenOk,dstOk]
/-- what holds when the operations p are done -/
structure DInv (D : Res R) (C : Ctx) (ops : List Oper) (σ0 : SS R) (recs : List (Rec R)) (p : Nat → Bool) (a : Act) (w : World) : Prop where
  defers : a.defers = []
  closed : ∀ j q, p j = true → recs[j]? = some q → ∀ l ∈ q.pre, p l = true
  src : ∀ b t cs, at2 σ0.hp b = some (.inl (t, cs)) → inbL σ0.hp.length cs = true
  ex : ∃ ρ ft, (∀ i, i < C.n0 → ρ i = C.e0 i) ∧ a.tmps.size = σ0.tm.length ∧
    (∀ t v, (∀ j, dstIdx ops t 0 = some j → p j = false) → σ0.tm[t]? = some (some v) → a.tmps[t]? = some (ren ρ v) ∧ inb σ0.hp.length v = true) ∧
    (∀ t j q, t < σ0.tm.length → dstIdx ops t 0 = some j → p j = true → recs[j]? = some q → a.tmps[t]? = some (ren ρ q.v)) ∧
    HM D C ρ ft (heapOf σ0.hp recs p (fun _ => true) 0 (lenAll recs σ0.hp.length)) w
theorem content_none (b : Nat) (acc : Option (SB R)) : ∀ (l : List (Rec R)) (j1 : Nat), content (fun _ => false) b l j1 acc = acc := by
  intro l
  induction l with
  | nil => intro _; rfl
  | cons r l ih => simp_all[content]
theorem at2_get {h : Hp R} {b : Nat} (hlt : b < h.length) : h[b]? = some (at2 h b) := by grind[at2]
theorem at2_ge {α : Type} {h : List (Option α)} {b : Nat} (hge : h.length ≤ b) : at2 h b = none := by grind[at2]
theorem DInv.start (g : Good P T ops σ0 recs) (hT : TabOk D P T) {a : Act} (hm : M D C σ0 a w) : DInv D C ops σ0 recs (fun _ => false) a w := by
  obtain ⟨ρ, ft, h0, h1, h2⟩ := hm.ex
  refine ⟨hm.defers, (fun j q hp => by cases hp), (fun b t cs hb => ?_), ρ, ft, h0, h1.size, fun t v _ hv => h1.val t v hv, (fun t j q _ _ hp => by cases hp), ?_⟩
  · have hlt := at2_lt hb
    exact (h2.at_ b (.inl (t, cs)) (by grind[at2_get])).2
  · have hle := g.n_le 0
    rw [List.take_zero] at hle
    simp only [lenAll] at hle
    have : heapOf σ0.hp recs (fun _ => false) (fun _ => true) 0 (lenAll recs σ0.hp.length) = σ0.hp ++ List.replicate (lenAll recs σ0.hp.length - σ0.hp.length) none := by
      apply List.ext_getElem?
      intro b
      rcases Nat.lt_or_ge b (lenAll recs σ0.hp.length) with hlt | hge
      · rw [(heapOf_get _ 0 b).2 hlt, content_none, Nat.zero_add]
        rcases Nat.lt_or_ge b σ0.hp.length with hlt2 | hge2
        · grind[at2_get]
        simp_all[at2_ge]
      · rw [List.getElem?_eq_none (by rw [(heapOf_get _ 0 0).1]; exact hge), List.getElem?_eq_none (by grind)]
    rw [this]
    exact h2.grow _
theorem DInv.yield {a : Act} {p : Nat → Bool} (g : Good P T ops σ0 recs) (hT : TabOk D P T) (hl0 : LI σ0.li σ0.tm) (h : DInv D C ops σ0 recs p a w) {j : Nat} {q : Rec R} {b : Bool} {t : Tmp} (hq : recs[j]? = some q) (hp : p j = true)
    (hd : q.o.dst = some t) (hb : q.lit = some b) : yielded ops.toArray a.tmps j = some b := by
  obtain ⟨ρ, ft, _, _, _, h4, _⟩ := h.ex
  have ho := (g.all j q hq).o
  obtain ⟨hv, ht⟩ := (g.lit hT hl0 j hq).1 b hb
  have := h4 t j q (ht t hd) (g.dst_at ho hd) hp hq
  grind[ren_bool,yielded_of,dstOf]
theorem DInv.yield0 {a : Act} {p : Nat → Bool} (g : Good P T ops σ0 recs) (h : DInv D C ops σ0 recs p a w) {j : Nat} {q : Rec R} {t : Tmp} (hq : recs[j]? = some q) (hp : p j = true)
    (hd : q.o.dst = some t) (hv : q.v = Go.undef) : yielded ops.toArray a.tmps j = none := by
  obtain ⟨ρ, ft, _, hsz, _, h4, _⟩ := h.ex
  have ho := (g.all j q hq).o
  have key : a.tmps[t]? = none ∨ a.tmps[t]? = some Go.undef := by
    rcases Nat.lt_or_ge t σ0.tm.length with hlt | hge
    · right
      have := h4 t j q hlt (g.dst_at ho hd) hp hq
      rw [hv] at this
      simpa [Go.undef, ren, renL] using this
    grind
  unfold yielded
  rcases key with key | key <;> simp [ho, hd, key, Go.undef]
/-- one more -/
theorem DInv.step {a : Act} {p : Nat → Bool} (g : Good P T ops σ0 recs) (hT : TabOk D P T) (hl0 : LI σ0.li σ0.tm) (hn0 : C.n0 ≤ σ0.hp.length) (h : DInv D C ops σ0 recs p a w) {i : Nat} {r : Rec R} (n : Next recs p i r)
    {K : Act → World → Prop} {Q : Exit → Act → World → Prop} (hK : ∀ a' w', DInv D C ops σ0 recs (addP p i) a' w' → K a' w') : wpOp P ops.toArray Q i K a w := by
  have ho := (g.all i r n.at_).o
  have hcl : ∀ j q, addP p i j = true → recs[j]? = some q → ∀ l ∈ q.pre, addP p i l = true := by
    intro j q hp hq l hl
    by_cases hl' : l = i
    · grind[addP_self]
    · rw [addP_ne p hl']
      by_cases hj : j = i
      · subst hj
        rw [n.at_] at hq
        injection hq with hq
        subst hq
        exact n.pre l hl
      · rw [addP_ne p hj] at hp
        exact h.closed j q hp hq l hl
  obtain ⟨ρ, ft, h0, h1, h2, h3, h4⟩ := h.ex
  have hnew0 : ∀ b, b < σ0.hp.length → newAt r b = false := fun b hb => by
    cases hh : newAt r b with
    | false => rfl
    | true => have := g.new_ge hT n.at_ hh; omega
  -- what is put into the frame
  have frame : ∀ (ρ2 : Env) (ft2 : Nat → Nat → Prop) (w' : World) (v : Value), (∀ b, newAt r b = false → ρ2 b = ρ b) →
      v = ren ρ2 r.v → HM D C ρ2 ft2 (heapOf σ0.hp recs (addP p i) (fun _ => true) 0 (lenAll recs σ0.hp.length)) w' →
      DInv D C ops σ0 recs (addP p i) (a.put r.o.dst v) w' := by
    intro ρ2 ft2 w' v hρ hv hm
    have hren0 : ∀ u, inb σ0.hp.length u = true → ren ρ u = ren ρ2 u := fun u hu => ren_congr (n := σ0.hp.length) (fun b hb => (hρ b (hnew0 b hb)).symm) u hu
    have hrenq : ∀ j q, p j = true → recs[j]? = some q → ren ρ q.v = ren ρ2 q.v := fun j q hp hq =>
      ren_kn (f := knownAt σ0.hp.length recs q) (fun b hb => (hρ b (by simpa using n.known_no g hT hq hp hb)).symm) q.v (allKnown_get g.known hq).1
    refine ⟨by cases r.o.dst <;> exact h.defers, hcl, h.src, ρ2, ft2, fun b hb => ?_, ?_, fun t u hd hu => ?_, fun t j q ht hd hp hq => ?_, hm⟩
    · grind
    · cases hd : r.o.dst with
      | none => exact h1
      | some t => simp [Act.put, h1]
    · obtain ⟨k1, k2⟩ := h2 t u (fun j hj => by
        grind[addP_self,addP_ne]) hu
      refine ⟨?_, k2⟩
      cases hd2 : r.o.dst with
      | none => simp only [Act.put]; grind
      | some t' =>
        have hne : t' ≠ t := fun e => by
          subst e
          have := hd i (g.dst_at ho hd2)
          grind[addP_self]
        simp only [Act.put]
        grind
    · by_cases hj : j = i
      · subst hj
        rw [n.at_] at hq
        injection hq with hq
        obtain ⟨o, ho', hdo⟩ := dst_src hd
        rw [ho] at ho'
        injection ho' with ho'
        simp only [hdo, Act.put]
        grind
      · rw [addP_ne p hj] at hp
        have k1 := h3 t j q ht hd hp hq
        cases hd2 : r.o.dst with
        | none => simp only [Act.put]; grind
        | some t' =>
          have hne : t' ≠ t := fun e => by
            subst e
            rw [g.dst_at ho hd2] at hd
            grind
          simp only [Act.put]
          grind
  have guard : ∀ (m : Nat), guardSt (recs.take i) r.pre r.o.guard = m → m < 2 → Region.wanted r.o (yielded ops.toArray a.tmps) = (Nat.beq m 0) := by
    intro m hg hm
    unfold guardSt at hg
    split at hg
    · rename_i hgd
      subst hg
      simp [Region.wanted, hgd]
    · rename_i j want hgd
      split at hg
      · rename_i hmj
        split at hg
        · rename_i q hq
          obtain ⟨_, hq⟩ := take_get hq
          split at hg
          · rename_i t hd
            split at hg
            · rename_i b hb
              have hy := h.yield g hT hl0 hq (n.pre j (mem_iff.1 hmj)) hd hb
              split at hg
              · subst hg
                simp [Region.wanted, hgd, hy]
                grind
              · rename_i hbw
                subst hg
                simp [Region.wanted, hgd, hy]
                have : (b == want) = false := by simpa using hbw
                rw [this]
                rfl
            · split at hg
              · rename_i hu
                subst hg
                have hy := h.yield0 g hq (n.pre j (mem_iff.1 hmj)) hd (isUndef_eq hu)
                have e : Region.wanted r.o (yielded ops.toArray a.tmps) = ((none : Option Bool) == some want) := by simp only [Region.wanted, hgd, hy]
                rw [e]
                cases want <;> rfl
              · omega
          · omega
        · omega
      · omega
  have hL : (heapOf σ0.hp recs p (fun _ => true) 0 (lenAll recs σ0.hp.length)).length = lenAll recs σ0.hp.length := (heapOf_get _ 0 0).1
  have hget' : ∀ b, b < lenAll recs σ0.hp.length → (heapOf σ0.hp recs (addP p i) (fun _ => true) 0 (lenAll recs σ0.hp.length))[b]? = some (content (addP p i) b recs 0 (at2 σ0.hp b)) := fun b hb => by
    rw [(heapOf_get _ 0 b).2 hb, Nat.zero_add]; simp
  have hget : ∀ b, b < lenAll recs σ0.hp.length → (heapOf σ0.hp recs p (fun _ => true) 0 (lenAll recs σ0.hp.length))[b]? = some (content p b recs 0 (at2 σ0.hp b)) := fun b hb => by
    rw [(heapOf_get _ 0 b).2 hb, Nat.zero_add]; simp
  unfold wpOp
  rw [List.getElem?_toArray, ho]
  simp only
  rcases (g.all i r n.at_).how with ⟨hg, hv, hl, hhr, hhx, hw⟩ | ⟨hg, x, hx, hs, hvc, hv, hlit, hhr, hhx, hw⟩
  · rw [guard 1 hg (by omega)]
    simp only [Nat.beq, Bool.false_eq_true, if_false]
    have hnt : ∀ b, touches r b = false := fun b => by simp [touches, hw]
    have hheap : heapOf σ0.hp recs (addP p i) (fun _ => true) 0 (lenAll recs σ0.hp.length) = heapOf σ0.hp recs p (fun _ => true) 0 (lenAll recs σ0.hp.length) := by
      apply List.ext_getElem?
      intro b
      rcases Nat.lt_or_ge b (lenAll recs σ0.hp.length) with hlt | hge
      · rw [hget' b hlt, hget b hlt, n.content_no (hnt _)]
      · rw [List.getElem?_eq_none (by rw [(heapOf_get _ 0 0).1]; exact hge), List.getElem?_eq_none (by rw [(heapOf_get _ 0 0).1]; exact hge)]
    refine hK _ _ (frame ρ ft w undef (fun _ _ => rfl) ?_ ?_)
    · rw [hv]; simp [undef, ren, renL]
    · rw [hheap]; exact h4
  · rw [guard 0 hg (by omega)]
    simp only [Nat.beq, if_true]
    left
    have hsx := hs
    simp only [seenOk, Bool.and_eq_true] at hsx
    obtain ⟨⟨⟨⟨k1, k2⟩, k3⟩, k4⟩, k5⟩ := hsx
    simp only [tidy, Bool.and_eq_true] at k1
    obtain ⟨way, hway, hx⟩ := hx
    have hok := sop_ok hT hway hx (D := D)
    have hLI := (g.lit hT hl0 i n.at_).2 x hs
    -- what it sees
    have hxl := g.hx n.at_ hT
    have hrN : r.hr.length ≤ lenAll recs σ0.hp.length := Nat.le_trans (g.hr_le n.at_) (g.n_le i)
    have hxN : r.hx.length ≤ lenAll recs σ0.hp.length := g.hx_all hT n.at_
    have hsub : ∀ (b : Nat) (X : SB R), r.hr[b]? = some (some X) → (heapOf σ0.hp recs p (fun _ => true) 0 (lenAll recs σ0.hp.length))[b]? = some (some X) := fun b X hb => by
      have hlt : b < lenAll recs σ0.hp.length := by
        have := (List.getElem?_eq_some_iff.1 hb).1
        omega
      rw [hget b hlt, n.sub g hT hb]
    rw [← hhr] at k3 k4 k5
    have hsubM := h4.sub hsub k3 0
    have hTM : TM ρ r.hr.length (seenSt ops σ0 (recs.take i) r.pre r.o).tm a := by
      refine ⟨?_, fun t v htv => ?_⟩
      · simp only [seenSt, seenTm]
        rw [(mkTm_get (t0 := 0) (i := 0) (v := undef)).1, h1]
      · have hin : inb r.hr.length v = true := inbL_iff.1 k4 v (someV_mem htv)
        simp only [seenSt, seenTm] at htv
        have htl : t < σ0.tm.length := by
          have := (List.getElem?_eq_some_iff.1 htv).1
          rwa [(mkTm_get (t0 := 0) (i := 0) (v := undef)).1] at this
        obtain ⟨_, hh⟩ := (mkTm_get (t0 := 0) (i := t) (v := v)).2 htv
        rw [Nat.zero_add] at hh
        rcases hh with ⟨j, q, g1, g2, g3, g4⟩ | ⟨g1, g2⟩ | ⟨j, g1, g2, g3⟩
        · obtain ⟨_, hq⟩ := take_get g3
          have := h3 t j q htl g1 (n.pre j g2) hq
          rw [← g4] at this
          exact ⟨this, hin⟩
        · exact ⟨(h2 t v (fun j hj => by rw [g1] at hj; cases hj) g2).1, hin⟩
        · have hlen : i < recs.length := (List.getElem?_eq_some_iff.1 n.at_).1
          have hij : i ≤ j := by
            rw [List.length_take] at g2
            omega
          refine ⟨(h2 t v (fun j' hj' => ?_) g3).1, hin⟩
          rw [g1] at hj'
          injection hj' with hj'
          subst hj'
          cases hpj : p j with
          | false => rfl
          | true =>
            exfalso
            rcases Nat.lt_or_ge i j with hlt | hge
            · obtain ⟨o, hoj, hdo⟩ := dst_src g1
              obtain ⟨q, hq, hqo⟩ := g.recAt hoj
              have hpr := g.pair n.at_ hq hlt
              simp only [pairOk, Bool.and_eq_true] at hpr
              have hrd := hpr.1.1
              simp only [readOk, hqo, hdo, Bool.or_eq_true, Bool.not_eq_true'] at hrd
              have hmt : mem (tmpsOf r.o.op.operands.toList) t = true := mem_iff.2 (by
                have := ((mkTm_get (t0 := 0) (i := t) (v := v)).2 htv).1
                rwa [Nat.zero_add] at this)
              rcases hrd with hrd | hrd
              · rw [hmt] at hrd; cases hrd
              · have := h.closed j q hpj hq i (mem_iff.1 hrd)
                rw [n.new] at this
                cases this
            · have : j = i := by omega
              subst this
              rw [n.new] at hpj
              cases hpj
    have hrun := hok.run (localC w r.hr ft ρ 0) ρ _ a w K Q (by rw [← hhr]; exact hTM) hLI (by rw [← hhr]; exact hsubM) hvc
    refine hrun fun ρ' ft' w' hρ' hm' => ?_
    rw [← hhr] at hρ'
    rw [← hhx] at hm'
    -- the numbers of what is new are taken from it
    have hm2 : HM D C (fun b => if newAt r b then ρ' b else ρ b) ft (heapOf σ0.hp recs p (fun _ => true) 0 (lenAll recs σ0.hp.length)) w := by
      have hlt : ∀ (b : Nat) (X : SB R), (heapOf σ0.hp recs p (fun _ => true) 0 (lenAll recs σ0.hp.length))[b]? = some (some X) → content p b recs 0 (at2 σ0.hp b) = some X := fun b X hb => by
        have hlt := (List.getElem?_eq_some_iff.1 hb).1
        rw [hL] at hlt
        rw [hget b hlt] at hb
        injection hb
      refine h4.reenv (f := fun b => !newAt r b) (fun b hb => ?_) (fun b X hb => ?_) (fun b t cs hb => n.heap_no g hT h.src (hlt b _ hb))
      · have : newAt r b = false := by simpa using hb
        simp [this]
      · cases hnb : newAt r b with
        | false => rfl
        | true =>
          have := hlt b X hb
          rw [n.new_none g hT hnb] at this
          cases this
    have hρ2 : ∀ b, b < r.hx.length → (if newAt r b then ρ' b else ρ b) = ρ' b := fun b hb => by
      split
      · rfl
      · rename_i hnb
        refine (hρ' b ?_).symm
        refine Classical.byContradiction fun hge => hnb (newAt_iff.2 ⟨by omega, hb⟩)
    have hex : ∃ ft2, HM D C (fun b => if newAt r b then ρ' b else ρ b) ft2 (heapOf σ0.hp recs (addP p i) (fun _ => true) 0 (lenAll recs σ0.hp.length)) w' := by
      refine hm2.back2 hsub (n := 0) (h' := heapOf σ0.hp recs (addP p i) (fun _ => true) 0 (lenAll recs σ0.hp.length)) hm' hρ2 (by rw [hL]; exact hxN) hxl.2.2
        (by rw [(heapOf_get _ 0 0).1, hL]) (fun b hb => ?_) (fun b hb hn => ?_)
      · -- what may have changed
        have hbN : b < lenAll recs σ0.hp.length := by
          rcases hb with ⟨Y, hY, _⟩ | hb
          · have := (List.getElem?_eq_some_iff.1 hY).1
            omega
          · omega
        by_cases hkp : ∃ Y, r.hr[b]? = some (some Y) ∧ keepO r.o r.wl b = true
        · obtain ⟨Y, hY, hk⟩ := hkp
          have hlt := (List.getElem?_eq_some_iff.1 hY).1
          have hxe := g.kept n.at_ hT hlt hk
          have hlx : b < r.hx.length := Nat.lt_of_lt_of_le hlt hxl.1
          have hnt : touches r b = false := by
            have hnw : newAt r b = false := by
              cases hh : newAt r b with
              | false => rfl
              | true => have := (newAt_iff.1 hh).1; omega
            simp [touches, hk, hnw]
          rw [if_pos hlx, hget' b hbN, n.content_no hnt, n.sub g hT hY, hxe, hY]
        · by_cases hw2 : r.w = true
          · have ht : touches r b = true := by
              simp only [touches, hw2, Bool.true_and, Bool.or_eq_true, Bool.and_eq_true, Bool.not_eq_true']
              rcases hb with hb | hb
              · refine Or.inl ⟨ownAt_iff.2 hb, ?_⟩
                obtain ⟨Y, hY, _⟩ := hb
                cases hk : keepO r.o r.wl b with
                | false => rfl
                | true => exact absurd ⟨Y, hY, hk⟩ hkp
              · exact Or.inr (newAt_iff.2 hb)
            rw [hget' b hbN, n.content_yes g hT ht]
            split
            · rename_i hlt
              rw [at2_get hlt]
            · rename_i hge
              rw [at2_ge (by omega)]
          · have hw3 : r.w = false := by cases hh : r.w <;> simp_all
            have hxe := hxl.2.1 hw3
            rcases hb with ⟨Y, hY, hYv⟩ | hb
            · have hlt := (List.getElem?_eq_some_iff.1 hY).1
              rw [if_pos (by rw [hxe]; exact hlt), hget' b hbN, n.content_no (by simp [touches, hw3]), n.sub g hT hY, hxe, hY]
            · rw [hxe] at hb
              omega
      · rw [hL] at hb
        have hnt : touches r b = false := by
          cases ht : touches r b with
          | false => rfl
          | true =>
            simp only [touches, Bool.and_eq_true, Bool.or_eq_true] at ht
            rcases ht.2 with h5 | h5
            · exact absurd (Or.inl (ownAt_iff.1 h5.1)) hn
            · exact absurd (Or.inr (newAt_iff.1 h5)) hn
        rw [hget' b hb, hget b hb, n.content_no hnt]
    obtain ⟨ft2, hback⟩ := hex
    refine hK _ _ (frame _ ft2 _ _ (fun b hb => by simp [hb]) ?_ hback)
    rw [hv]
    exact (ren_congr (n := r.hx.length) hρ2 _ (by rw [hhx]; exact k1.1)).symm
/-- a record's value is inside -/
theorem Good.inb_v (g : Good P T ops σ0 recs) (hT : TabOk D P T) {i : Nat} {r : Rec R} (hr : recs[i]? = some r) : inb (lenAll recs σ0.hp.length) r.v = true := by
  have hN := g.hx_all hT hr
  rcases (g.all i r hr).how with ⟨_, hv, _⟩ | ⟨_, x, _, hs, _, hv, _, _, hhx, _⟩
  · rw [hv]; rfl
  · simp only [seenOk, Bool.and_eq_true, tidy] at hs
    grind[inb_mono]
/-- how many are not listed -/
def leftN (f : Nat → Bool) : Nat → Nat
  | 0 => 0
  | n + 1 => (if f n then 0 else 1) + leftN f n
theorem leftN_congr {f h : Nat → Bool} : ∀ {n : Nat}, (∀ j, j < n → f j = h j) → leftN f n = leftN h n
  := by intro a;induction a<;>intros<;>grind[leftN]
theorem leftN_add {f : Nat → Bool} {i : Nat} : ∀ {n : Nat}, i < n → f i = false → leftN (addP f i) n + 1 = leftN f n
  | 0, h, _ => by omega
  | n + 1, h, hf => by
    simp only [leftN]
    by_cases he : i = n
    · grind[addP_self,leftN_congr,addP_ne]
    · rw [addP_ne f (Ne.symm he)]
      have := leftN_add (n := n) (by omega) hf
      omega
theorem leftN_pos {f : Nat → Bool} {i : Nat} : ∀ {n : Nat}, i < n → f i = false → 0 < leftN f n
  := by intro a;induction a<;>intros<;>grind[leftN]
def listedP (listed : Array Bool) : Nat → Bool := fun j => listed.getD j false
theorem finTm_at : ∀ {l : List (Option Value)} {t0 i : Nat}, (finTm ops recs t0 l).length = l.length ∧ ∀ x, l[i]? = some x → (finTm ops recs t0 l)[i]? = some (match dstIdx ops (t0 + i) 0 with
    | some j => (match recs[j]? with
      | some r => some r.v
      | none => none)
    | none => x) := by
  intro l
  induction l with
  | nil => exact ⟨rfl, fun x h => by simp at h⟩
  | cons y l ih =>
    intro t0 i
    refine ⟨by simp [finTm, (ih (t0 := t0 + 1) (i := 0)).1], fun x h => ?_⟩
    cases i with
    | zero =>
      simp_all[finTm]
    | succ i =>
      grind[finTm]
theorem DInv.done {a : Act} {p : Nat → Bool} (g : Good P T ops σ0 recs) (hT : TabOk D P T) (hl0 : LI σ0.li σ0.tm) (h : DInv D C ops σ0 recs p a w) (hall : ∀ j, j < ops.length → p j = true) : M D C (finSt ops σ0 recs) a w := by
  obtain ⟨ρ, ft, h0, h1, h2, h3, h4⟩ := h.ex
  have hp : ∀ j r, recs[j]? = some r → p j = true := fun j r hr => hall j (by rw [← g.len]; exact (List.getElem?_eq_some_iff.1 hr).1)
  have hheap : heapOf σ0.hp recs p (fun _ => true) 0 (lenAll recs σ0.hp.length) = (finSt ops σ0 recs).hp := by
    simp only [finSt]
    apply List.ext_getElem?
    intro b
    rcases Nat.lt_or_ge b (lenAll recs σ0.hp.length) with hlt | hge
    · rw [(heapOf_get _ 0 b).2 hlt, (heapOf_get _ 0 b).2 hlt]
      simp only [if_true]
      congr 1
      exact content_congr recs 0 _ fun j r hr _ => by rw [Nat.zero_add]; exact hp j r hr
    · rw [List.getElem?_eq_none (by rw [(heapOf_get _ 0 0).1]; exact hge), List.getElem?_eq_none (by rw [(heapOf_get _ 0 0).1]; exact hge)]
  have hhl : (finSt ops σ0 recs).hp.length = lenAll recs σ0.hp.length := by rw [← hheap, (heapOf_get _ 0 0).1]
  rw [hheap] at h4
  refine ⟨h.defers, fun t b htb => ?_, ρ, ft, h0, ⟨?_, fun t v htv => ?_⟩, h4⟩
  · simp only [finSt, finLi] at htb ⊢
    rcases List.mem_append.1 htb with htb | htb
    · obtain ⟨r, hr, htb⟩ := List.mem_flatMap.1 htb
      obtain ⟨j, hj, hj2⟩ := List.mem_iff_getElem.1 hr
      have hr' : recs[j]? = some r := by rw [List.getElem?_eq_getElem hj, hj2]
      split at htb
      · rename_i u c hd hlit
        split at htb
        · simp only [List.mem_singleton, Prod.mk.injEq] at htb
          obtain ⟨rfl, rfl⟩ := htb
          obtain ⟨hv, ht⟩ := (g.lit hT hl0 j hr').1 b hlit
          have hlt := ht t hd
          have := (finTm_at (ops := ops) (recs := recs) (l := σ0.tm) (t0 := 0) (i := t)).2 _ (List.getElem?_eq_getElem hlt)
          rw [Nat.zero_add, g.dst_at (g.all j r hr').o hd] at this
          simp only [hr', hv] at this
          exact this
        · simp at htb
      · simp at htb
    · obtain ⟨h5, h6⟩ := List.mem_filter.1 htb
      have := (finTm_at (ops := ops) (recs := recs) (l := σ0.tm) (t0 := 0) (i := t)).2 _ (hl0 t b h5)
      rw [Nat.zero_add] at this
      cases hd : dstIdx ops t 0 with
      | none => rw [hd] at this; exact this
      | some j => rw [hd] at h6; cases h6
  · simp only [finSt]
    rw [(finTm_at (t0 := 0) (i := 0)).1]; exact h1
  · simp only [finSt] at htv
    have htl : t < σ0.tm.length := by
      have := (List.getElem?_eq_some_iff.1 htv).1
      rwa [(finTm_at (t0 := 0) (i := 0)).1] at this
    rw [(finTm_at (ops := ops) (recs := recs) (l := σ0.tm) (t0 := 0) (i := t)).2 _ (List.getElem?_eq_getElem htl), Nat.zero_add] at htv
    rw [hhl]
    cases hd : dstIdx ops t 0 with
    | none =>
      rw [hd] at htv
      injection htv with htv
      obtain ⟨k1, k2⟩ := h2 t v (fun j hj => by rw [hd] at hj; cases hj) (by rw [List.getElem?_eq_getElem htl]; exact congrArg some htv)
      have hle := g.n_le 0
      rw [List.take_zero] at hle
      exact ⟨k1, inb_mono hle v k2⟩
    | some j =>
      rw [hd] at htv
      simp only at htv
      split at htv
      · rename_i r hr
        injection htv with htv
        injection htv with htv
        subst htv
        exact ⟨h3 t j r htl hd (hp j r hr) hr, g.inb_v hT hr⟩
      · cases htv
theorem setIf_getD {listed : Array Bool} {i j : Nat} (hi : i < listed.size) : listedP (listed.setIfInBounds i true) j = addP (listedP listed) i j := by
  unfold listedP
  by_cases he : j = i
  all_goals simp_all[addP_self,addP_ne,Ne.symm]
theorem draw_go (g : Good P T ops σ0 recs) (hT : TabOk D P T) (hl0 : LI σ0.li σ0.tm) (hn0 : C.n0 ≤ σ0.hp.length) {Q : Exit → Act → World → Prop} (hQ : ∀ a w, M D C (finSt ops σ0 recs) a w → Q .normal a w) :
    ∀ (fuel : Nat) (listed : Array Bool) (a : Act) (w : World), listed.size = ops.length → leftN (listedP listed) ops.length ≤ fuel → DInv D C ops σ0 recs (listedP listed) a w → wpAny P .any ops.toArray Q fuel listed a w := by
  have hdone : ∀ (listed : Array Bool) (a : Act) (w : World), listed.size = ops.length → DInv D C ops σ0 recs (listedP listed) a w → Region.ready .any ops.toArray listed = [] → Q .normal a w := by
    intro listed a w hsz hi hr
    refine hQ a w (hi.done g hT hl0 fun j => ?_)
    induction j using Nat.strongRecOn with
    | _ j ih =>
      intro hj
      cases hp : listedP listed j with
      | true => rfl
      | false =>
        have ho : ops[j]? = some ops[j] := List.getElem?_eq_getElem hj
        obtain ⟨r, hrr, hro⟩ := g.recAt ho
        have : j ∈ Region.ready .any ops.toArray listed := by
          refine mem_ready.2 ⟨?_, ops[j], by simp, fun e he hb => ?_⟩
          · simp_all[listedP]
          · have h1 := (preOf_mem (g.all j r hrr).pre).1 e (by grind) hb
            have hlt := g.pre_lt j hrr h1
            exact ih e.on hlt (by omega)
        grind
  intro fuel
  induction fuel with
  | zero =>
    intro listed a w hsz hle hi
    have hall : ∀ j, j < ops.length → listedP listed j = true := fun j hj => by
      grind[leftN_pos]
    have hr : Region.ready .any ops.toArray listed = [] := by
      refine List.eq_nil_iff_forall_not_mem.2 fun j hj => ?_
      obtain ⟨h1, o, h2, _⟩ := mem_ready.1 hj
      have hlt : j < ops.length := by
        grind
      simp_all[listedP]
    exact ⟨hr, hdone listed a w hsz hi hr⟩
  | succ fuel ih =>
    intro listed a w hsz hle hi
    refine ⟨hdone listed a w hsz hi, fun i hir => ?_⟩
    obtain ⟨h1, o, h2, h3⟩ := mem_ready.1 hir
    rw [List.getElem?_toArray] at h2
    have hlt : i < ops.length := (List.getElem?_eq_some_iff.1 h2).1
    obtain ⟨r, hrr, hro⟩ := g.recAt h2
    have hnew : listedP listed i = false := by
      simp_all[listedP]
    have hn : Next recs (listedP listed) i r := by
      refine ⟨hrr, hnew, fun j hj => ?_, hi.closed⟩
      obtain ⟨e, he, hb, q, hq, hjq⟩ := (preOf_mem (g.all i r hrr).pre).2 j hj
      have hon := h3 e (by grind) hb
      rcases hjq with rfl | hjq
      · exact hon
      · exact hi.closed e.on q hon (take_get hq).2 j hjq
    refine hi.step g hT hl0 hn0 hn fun a' w' hi' => ih _ a' w' (by grind) ?_ ?_
    · have e : leftN (listedP (listed.setIfInBounds i true)) ops.length = leftN (addP (listedP listed) i) ops.length := leftN_congr fun j _ => setIf_getD (by omega)
      grind[leftN_add]
    · have e : listedP (listed.setIfInBounds i true) = addP (listedP listed) i := funext fun j => setIf_getD (by omega)
      grind
/-- a region whose order is open -/
theorem draw_ok (hT : TabOk D P T) (hmx : P.follows .mixedOrders = true) {id : Nat} {k : SS R → Prop} {m : Nat} {asm : List (Nat × Bool)} {a : Act} {Q : Exit → Act → World → Prop} (h : rxDraw P T ops σ0 k m asm) (hm : M D C σ0 a w) (hn : C.n0 ≤ σ0.hp.length)
    (hK : ∀ σ' a' w', k σ' → C.n0 ≤ σ'.hp.length → M D C σ' a' w' → Q .normal a' w') : (Code.region id ops.toArray true).wp P Q a w := by
  obtain ⟨recs, h1, h2, h3, h3', h4⟩ := rxDraw_ok m h
  have g : Good P T ops σ0 recs := ⟨h1, h2, h3, h3'⟩
  refine wp_region_any hmx ?_
  have hm' : M D C σ0 a { w with drawn := w.drawn + 1 } := by
    obtain ⟨ρ, ft, q0, q1, q2⟩ := hm.ex
    exact ⟨hm.defers, hm.li, ρ, ft, q0, q1, q2.same rfl rfl rfl rfl⟩
  have hz : listedP (Array.replicate ops.toArray.size false) = fun _ => false := by
    unfold listedP
    simp only [Array.getD]
    simp
  refine draw_go g hT hm.li hn (fun a' w' hM => hK _ a' w' h4 ?_ hM) _ _ a _ (by simp) ?_ ?_
  · have := g.n0_le recs.length
    rw [List.take_length] at this
    simp only [finSt]
    rw [(heapOf_get _ 0 0).1]
    omega
  · have : ∀ n, leftN (fun _ => false) n ≤ n := fun n => by
      induction n with
      | zero => simp [leftN]
      | succ n ih => grind[leftN]
    grind
  grind[DInv.start]
end
end Go.Proofs.YtobdpddamdkabaaDoor.Rx
