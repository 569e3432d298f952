/- Symbolic runs: loops; functions. Nothing of the program. -/
import Derived.Test.YtloibbakklenbaaRxCode
namespace Go.Proofs.Ytloibbakklenbaa.Rx
open Go.RowKit Go.Proofs.Ytloibbakklenbaa.State
set_option linter.unusedVariables false
set_option linter.unusedSimpArgs false
/-- the values of some slots -/
def vals (tm : List (Option Value)) : List Nat → List (Option Value)
  | [] => []
  | t :: ts => (match tm[t]? with
    | some (some v) => some v
    | _ => none) :: vals tm ts
def someL : List Value → List (Option Value)
  | [] => []
  | v :: l => some v :: someL l
def slot (ts : List Nat) (vs : List Value) (i : Nat) : Option Value :=
  match ts, vs with
  | t :: ts, v :: vs => if Nat.beq t i then some v else slot ts vs i
  | _, _ => none
/-- a frame of which just some slots are known -/
def frame (ts : List Nat) (vs : List Value) : Nat → Nat → List (Option Value)
  | _, 0 => []
  | i, n + 1 => slot ts vs i :: frame ts vs (i + 1) n
section
variable {R : Type} {D : Res R} {P : Program} {T : Tab R} {C : Ctx} {ρ : Env} {ft : Nat → Nat → Prop} {w w' : World}
/-- a heap with at least these blocks -/
def hpLe : Hp R → Hp R → Prop
  | _, [] => True
  | [], _ :: _ => False
  | _ :: h, none :: r => hpLe h r
  | x :: h, some B :: r => x = some B ∧ hpLe h r
def hpIn (n : Nat) : Hp R → Bool
  | [] => true
  | some (.inl (_, cs)) :: h => inbL n cs && hpIn n h
  | _ :: h => hpIn n h
/-- the slots ts hold vs, the heap has h -/
def Fits (n0 N : Nat) (ts : List Nat) (vs : List Value) (h : Hp R) (σ : SS R) : Prop := vals σ.tm ts = someL vs ∧ hpLe σ.hp h ∧ σ.tm.length = N ∧ n0 ≤ h.length
theorem hpLe_get : ∀ {h r : Hp R} {i : Nat} {B : SB R}, hpLe h r → r[i]? = some (some B) → h[i]? = some (some B)
  | _, [], i, B, _, hB => by simp at hB
  | [], _ :: _, _, _, h, _ => by simp [hpLe] at h
  | x :: h, none :: r, i, B, hl, hB => by
    cases i with
    | zero => simp at hB
    | succ i => simp only [List.getElem?_cons_succ] at hB ⊢; exact hpLe_get hl hB
  | x :: h, some B' :: r, i, B, hl, hB => by
    cases i with
    | zero => simp only [List.getElem?_cons_zero, Option.some.injEq] at hB ⊢; rw [hl.1, hB]
    | succ i => simp only [List.getElem?_cons_succ] at hB ⊢; exact hpLe_get hl.2 hB
theorem hpIn_get : ∀ {r : Hp R} {n i : Nat} {B : SB R}, hpIn n r = true → r[i]? = some (some B) → inside n B
  | [], n, i, B, _, hB => by simp at hB
  | x :: r, n, i, B, h, hB => by
    have hr : hpIn n r = true ∧ (i = 0 → inside n B) := by
      rcases x with _ | ⟨t, cs⟩ | ⟨t, ro⟩ | ro | x
      · exact ⟨h, fun e => by subst e; simp at hB⟩
      · simp only [hpIn, Bool.and_eq_true] at h
        exact ⟨h.2, fun e => by subst e; simp only [List.getElem?_cons_zero, Option.some.injEq] at hB; subst hB; exact h.1⟩
      · exact ⟨h, fun e => by subst e; simp only [List.getElem?_cons_zero, Option.some.injEq] at hB; subst hB; trivial⟩
      · exact ⟨h, fun e => by subst e; simp only [List.getElem?_cons_zero, Option.some.injEq] at hB; subst hB; trivial⟩
      · exact ⟨h, fun e => by subst e; simp only [List.getElem?_cons_zero, Option.some.injEq] at hB; subst hB; trivial⟩
    cases i with
    | zero => exact hr.2 rfl
    | succ i => simp only [List.getElem?_cons_succ] at hB; exact hpIn_get hr.1 hB
theorem HM.weak {h r : Hp R} (hm : HM D C ρ ft h w) (hl : hpLe h r) (hi : hpIn r.length r = true) : HM D C ρ (fun i k => (∃ B, r[i]? = some (some B)) ∧ ft i k) r w where
  at_ i B hB := by
    obtain ⟨h1, h2⟩ := hm.at_ i B (hpLe_get hl hB)
    refine ⟨?_, hpIn_get hi hB⟩
    have : (fun k => (∃ B, r[i]? = some (some B)) ∧ ft i k) = ft i := funext fun k => propext ⟨fun h => h.2, fun h => ⟨⟨B, hB⟩, h⟩⟩
    rw [this]
    exact h1
  lt i k hk := hm.lt i k hk.2
  fresh i k hk := hm.fresh i k hk.2
  apart i j k hi hj := hm.apart i j k hi.2 hj.2
  some_ i k hk := hk.1
  kept := hm.kept
theorem slot_vals {tm : List (Option Value)} : ∀ {ts : List Nat} {vs : List Value} {i : Nat} {v : Value}, vals tm ts = someL vs → slot ts vs i = some v → tm[i]? = some (some v) ∧ v ∈ vs
  | [], _, i, v, _, h => by simp [slot] at h
  | _ :: _, [], i, v, _, h => by simp [slot] at h
  | t :: ts, u :: vs, i, v, hv, h => by
    simp only [vals, someL] at hv
    injection hv with h1 h2
    simp only [slot] at h
    split at h
    · rename_i hb
      have := Nat.eq_of_beq_eq_true hb
      subst this
      injection h with h
      subst h
      split at h1
      · injection h1 with h1
        subst h1
        exact ⟨by assumption, List.mem_cons_self⟩
      · cases h1
    · obtain ⟨g1, g2⟩ := slot_vals h2 h
      exact ⟨g1, List.mem_cons_of_mem _ g2⟩
theorem frame_get (ts : List Nat) (vs : List Value) : ∀ (n i j : Nat), (frame ts vs i n).length = n ∧ (j < n → (frame ts vs i n)[j]? = some (slot ts vs (i + j)))
  | 0, i, j => ⟨rfl, fun h => by omega⟩
  | n + 1, i, j => by
    obtain ⟨h1, h2⟩ := frame_get ts vs n (i + 1) (j - 1)
    refine ⟨by simp [frame, h1], fun h => ?_⟩
    cases j with
    | zero => simp [frame]
    | succ j =>
      simp only [frame, List.getElem?_cons_succ]
      have := h2 (by omega)
      simp only [Nat.add_sub_cancel] at this
      rw [this]
      congr 2
      omega
theorem M.weak {σ : SS R} {a : Act} {n0 N : Nat} {ts : List Nat} {vs : List Value} {h : Hp R} (hm : M D C σ a w) (hf : Fits n0 N ts vs h σ) (hv : inbL h.length vs = true) (hi : hpIn h.length h = true) : M D C ⟨frame ts vs 0 N, [], h⟩ a w := by
  obtain ⟨ρ, ft, h0, h1, h2⟩ := hm.ex
  obtain ⟨f1, f2, f3, f4⟩ := hf
  refine ⟨hm.defers, fun t b hb => (by cases hb), ρ, _, h0, ⟨?_, fun t v ht => ?_⟩, h2.weak f2 hi⟩
  · rw [h1.size, f3, (frame_get ts vs N 0 0).1]
  · have hl : t < N := by have := (List.getElem?_eq_some_iff.1 ht).1; rw [(frame_get ts vs N 0 0).1] at this; exact this
    rw [(frame_get ts vs N 0 t).2 hl, Nat.zero_add] at ht
    injection ht with ht
    obtain ⟨g1, g2⟩ := slot_vals f1 ht
    exact ⟨(h1.val t v g1).1, inbL_iff.1 hv v g2⟩
/-- a loop, by what holds at its head -/
theorem loop_at {root body : Code} {n0 : Nat} {k : Exit → SS R → Prop} {p : List Nat} {r : List (It R)} {σ : SS R} (hc : codeAt root p = some (.loop body)) {ι : Type} (I : ι → Prop) (ts : List Nat) (V : ι → List Value) (H : ι → Hp R) (μ : ι → Nat)
    (hin : ∀ i, I i → inbL (H i).length (V i) = true ∧ hpIn (H i).length (H i) = true ∧ n0 ≤ (H i).length)
    (h0 : ∃ i, I i ∧ Fits n0 σ.tm.length ts (V i) (H i) σ)
    (step : ∀ i, I i → At D P root n0 k (.inl (p ++ [0]) :: .inr (.inr fun σ' => ∃ j, I j ∧ μ j < μ i ∧ Fits n0 σ.tm.length ts (V j) (H j) σ') :: r) ⟨frame ts (V i) 0 σ.tm.length, [], H i⟩) :
    At D P root n0 k (.inl p :: r) σ := by
  refine ⟨fun C a w hC hn hm => ?_⟩
  simp only [stk, hc]
  obtain ⟨i0, hI0, hf0⟩ := h0
  obtain ⟨q1, q2, _⟩ := hin i0 hI0
  have key : ∀ (m : Nat) (i : ι) (a : Act) (w : World), μ i = m → I i → M D C ⟨frame ts (V i) 0 σ.tm.length, [], H i⟩ a w → (Code.loop body).wp P (stk D P C root k r) a w := by
    intro m i a w hm hI hM
    refine wp_loop (fun a w => ∃ i, I i ∧ M D C ⟨frame ts (V i) 0 σ.tm.length, [], H i⟩ a w) (fun a w => Classical.epsilon fun n => ∃ i, μ i = n ∧ I i ∧ M D C ⟨frame ts (V i) 0 σ.tm.length, [], H i⟩ a w ∧ ∀ j, I j → M D C ⟨frame ts (V j) 0 σ.tm.length, [], H j⟩ a w → n ≤ μ j) ⟨i, hI, hM⟩ ?_
    intro a w ⟨i, hI, hM⟩
    -- the least measure
    have least : ∀ (a : Act) (w : World), (∃ i, I i ∧ M D C ⟨frame ts (V i) 0 σ.tm.length, [], H i⟩ a w) →
        ∃ n i, μ i = n ∧ I i ∧ M D C ⟨frame ts (V i) 0 σ.tm.length, [], H i⟩ a w ∧ ∀ j, I j → M D C ⟨frame ts (V j) 0 σ.tm.length, [], H j⟩ a w → n ≤ μ j := by
      intro a w ⟨i, hI, hM⟩
      have : ∀ (n : Nat) (i : ι), μ i = n → I i → M D C ⟨frame ts (V i) 0 σ.tm.length, [], H i⟩ a w → ∃ n i, μ i = n ∧ I i ∧ M D C ⟨frame ts (V i) 0 σ.tm.length, [], H i⟩ a w ∧ ∀ j, I j → M D C ⟨frame ts (V j) 0 σ.tm.length, [], H j⟩ a w → n ≤ μ j := by
        intro n
        induction n using Nat.strongRecOn with
        | _ n ih =>
          intro i hn hI hM
          by_cases hex : ∃ j, I j ∧ M D C ⟨frame ts (V j) 0 σ.tm.length, [], H j⟩ a w ∧ μ j < n
          · obtain ⟨j, hJ, hMj, hlt⟩ := hex
            exact ih (μ j) hlt j rfl hJ hMj
          · exact ⟨n, i, hn, hI, hM, fun j hJ hMj => Nat.le_of_not_lt fun hlt => hex ⟨j, hJ, hMj, hlt⟩⟩
      exact this _ i rfl hI hM
    have spec := fun a w h => Classical.epsilon_spec (p := fun n => ∃ i, μ i = n ∧ I i ∧ M D C ⟨frame ts (V i) 0 σ.tm.length, [], H i⟩ a w ∧ ∀ j, I j → M D C ⟨frame ts (V j) 0 σ.tm.length, [], H j⟩ a w → n ≤ μ j) (least a w h)
    obtain ⟨i', e1, hI', hM', hmin⟩ := spec a w ⟨i, hI, hM⟩
    obtain ⟨_, _, hn'⟩ := hin i' hI'
    have hbody := (step i' hI').run C a w hC hn' hM'
    simp only [stk] at hbody
    rw [show codeAt root (p ++ [0]) = some body by rw [codeAt_append p root _ [0] hc]; simp [codeAt]] at hbody
    refine wp_mono hbody fun e a' w' h => ?_
    cases e with
    | normal =>
      obtain ⟨σ', ⟨j, hJ, hlt, hfit⟩, _, hM2⟩ := h
      obtain ⟨g1, g2, _⟩ := hin j hJ
      have hM3 := hM2.weak hfit g1 g2
      refine ⟨⟨j, hJ, hM3⟩, ?_⟩
      obtain ⟨i2, e2, _, _, hmin2⟩ := spec a' w' ⟨j, hJ, hM3⟩
      have := hmin2 j hJ hM3
      omega
    | _ => exact h
  exact key _ i0 a w rfl hI0 (hm.weak hf0 q1 q2)
/-- a result -/
def resOne (P : Program) (σ : SS R) : ResultVar → Option Value
  | .tmp t => ev σ.tm (.tmp t)
  | .cell p t =>
    match ev σ.tm (.tmp p) with
    | some (.pointer (some ⟨i, e, none⟩)) => match opLoad P σ t (.tmp p) with
      | some x => some x.v
      | none => none
    | _ => none
def resAll (P : Program) (σ : SS R) : List ResultVar → Option (List Value)
  | [] => some []
  | r :: l =>
    match resOne P σ r, resAll P σ l with
    | some v, some vs => some (v :: vs)
    | _, _ => none
def pack : List Value → Value
  | [v] => v
  | vs => .tuple ⟨vs⟩
/-- a function's end -/
def retK (P : Program) (rs : List ResultVar) (G : Value → Hp R → Prop) (e : Exit) (σ : SS R) : Prop :=
  match e with
  | .ret | .normal => match resAll P σ rs with
    | some vs => Post (G (pack vs) σ.hp)
    | none => Stuck 8
  | _ => Stuck 9
def resFn (a : Act) : ResultVar → Sem Value
  | .tmp t => pure (a.tmps.getD t undef)
  | .cell p t => do loadVar t (← asAddr (a.tmps.getD p undef))
theorem resOne_ok {σ : SS R} {r : ResultVar} {v : Value} {a : Act} (ht : TM ρ σ.hp.length σ.tm a) (hm : HM D C ρ ft σ.hp w) (hl : LI σ.li σ.tm) (h : resOne P σ r = some v) :
    (resFn a r).run P w = .ok (ren ρ v) w := by
  unfold resFn
  cases r with
  | tmp t =>
    simp only [resOne] at h
    have := (ev_eval ht h).1
    simp only [Act.eval] at this
    simp [← this]
  | cell p t =>
    simp only [resOne] at h
    split at h
    · rename_i i e hp
      split at h
      · rename_i x hx
        injection h with h
        subst h
        have hev := (ev_eval ht hp).1
        simp only [Act.eval, ren] at hev
        have hok := opLoad_ok (D := D) (o := ⟨none, .load t (.tmp p), 0, "", #[], none⟩) rfl hx
        have hvc : x.vc := by
          unfold opLoad at hx
          rw [hp] at hx
          simp only at hx
          split at hx
          · split at hx
            · split at hx
              · injection hx with hx; subst hx; trivial
              · cases hx
            · split at hx
              · injection hx with hx; subst hx; trivial
              · cases hx
            · cases hx
          · cases hx
        -- the load's run, out of its rule
        have hrun : ∃ v', (loadVar t (renA ρ ⟨i, e, none⟩)).run P w = .ok v' w ∧ v' = ren ρ x.v := by
          unfold opLoad at hx
          rw [hp] at hx
          simp only at hx
          split at hx
          · rename_i t' cs hi
            split at hx
            · rename_i hg
              split at hx
              · rename_i v hv
                injection hx with hx
                subst hx
                have hc := cells_reads hm hi e
                rw [hv] at hc
                exact ⟨_, loadVar_one hg (by simpa [renA, cellOf, quietOut] using hc), rfl⟩
              · cases hx
            · rename_i n hg
              split at hx
              · rename_i hle
                have hle := Nat.le_of_ble_eq_true hle
                injection hx with hx
                subst hx
                have hl : (((cs.drop e).take n).map (ren ρ)).length = n := by simp; omega
                refine ⟨_, loadVar_agg (cs := ((cs.drop e).take n).map (ren ρ)) (by rw [hl]; exact hg) (fun j v hv => ?_), ?_⟩
                · simp only [renA, cellOf]
                  rw [add_at, Nat.add_assoc, cells_reads hm hi]
                  have hj : j < n := by have := (List.getElem?_eq_some_iff.1 hv).1; omega
                  simp only [List.getElem?_map, List.getElem?_take, hj, if_true, List.getElem?_drop] at hv
                  exact hv
                · show _ = ren ρ (.agg _)
                  rw [ren_agg]
                  simp
              · cases hx
            · cases hx
          · cases hx
        obtain ⟨v', h1, rfl⟩ := hrun
        simp only [Sem.run_bind, hev, asAddr, Sem.run_pure, Result.andThen_ok, h1]
      · cases h
    · cases h
theorem resAll_ok {σ : SS R} {a : Act} (ht : TM ρ σ.hp.length σ.tm a) (hm : HM D C ρ ft σ.hp w) (hl : LI σ.li σ.tm) : ∀ {rs : List ResultVar} {vs : List Value}, resAll P σ rs = some vs →
    (rs.mapM (m := Sem) (resFn a)).run P w = .ok (vs.map (ren ρ)) w
  | [], vs, h => by
    simp only [resAll] at h
    injection h with h
    subst h
    simp
  | r :: rs, vs, h => by
    simp only [resAll] at h
    split at h
    · rename_i v vs' hv hvs
      injection h with h
      subst h
      have h1 := resOne_ok ht hm hl hv
      have h2 := resAll_ok ht hm hl hvs
      rw [List.mapM_cons, Sem.run_bind, h1, Result.andThen_ok, Sem.run_bind, h2]
      simp
    · cases h
theorem results_ok {σ : SS R} {a : Act} {fn : Func} {vs : List Value} (ht : TM ρ σ.hp.length σ.tm a) (hm : HM D C ρ ft σ.hp w) (hl : LI σ.li σ.tm) (h : resAll P σ fn.results.toList = some vs) :
    (results fn a.tmps).run P w = .ok (ren ρ (pack vs)) w := by
  have h1 := resAll_ok ht hm hl h
  have e : results fn a.tmps = (do let vs ← fn.results.mapM (resFn a); pure (if h : vs.size = 1 then vs[0] else .tuple vs)) := by
    unfold results
    congr 1
  rw [e, Sem.run_bind, Array.mapM_eq_mapM_toList, Sem.run_map, h1]
  simp only [Result.andThen_ok, Sem.run_pure]
  congr 1
  cases vs with
  | nil => simp [pack, ren, renL]
  | cons v l =>
    cases l with
    | nil => simp [pack]
    | cons u l => simp [pack, ren, renL, renL_eq]
/-- the part of a context that the heap hangs on -/
theorem HM.ctx {C' : Ctx} {h : Hp R} (hm : HM D C ρ ft h w) (h1 : C'.w0 = C.w0) (h2 : C'.U = C.U) : HM D C' ρ ft h w where
  at_ i B hi := by
    obtain ⟨g1, g2⟩ := hm.at_ i B hi
    refine ⟨?_, g2⟩
    rcases B with ⟨t, cs⟩ | ⟨t, r⟩ | r | x
    · exact g1
    · exact g1
    · simp only [hold, h1, h2] at g1 ⊢
      exact g1
    · exact g1
  lt := hm.lt
  fresh i k hk := by rw [h1, h2]; exact hm.fresh i k hk
  apart := hm.apart
  some_ := hm.some_
  kept := by rw [h1, h2]; exact hm.kept
/-- a function, by its code -/
theorem calls_At {f : FuncId} {fn : Func} {root : Code} {args : List Value} {hp : Hp R} {G : Value → Hp R → Prop} (hf : P.funcs[f]? = some fn) (hb : fn.body = some root)
    (h : At D P root hp.length (retK P fn.results.toList G) [.inl []] ⟨someL args ++ List.replicate (fn.ntmps - args.length) none, [], hp⟩) (hm : HM D C ρ ft hp w) (hi : inbL hp.length args = true) :
    Calls P f (args.map (ren ρ)).toArray w fun e w' => ∃ ρ' ft' v hp', (∀ i, i < hp.length → ρ' i = ρ i) ∧ e = .returned (ren ρ' v) ∧ G v hp' ∧ HM D C ρ' ft' hp' w' := by
  have hsl : ∀ (l : List Value), someL l = l.map some := fun l => by induction l with
    | nil => rfl
    | cons v l ih => simp [someL, ih]
  refine calls_of_wp hf hb ?_
  have hM : M D ⟨C.w0, C.U, ρ, hp.length⟩ ⟨someL args ++ List.replicate (fn.ntmps - args.length) none, [], hp⟩ { tmps := (args.map (ren ρ)).toArray ++ Array.replicate (fn.ntmps - (args.map (ren ρ)).toArray.size) undef, defers := [] } w := by
    refine ⟨rfl, fun t b hb => (by cases hb), ρ, ft, fun i _ => rfl, ⟨by simp [hsl], fun t v ht => ?_⟩, hm.ctx rfl rfl⟩
    rw [hsl] at ht
    have hlt : t < args.length := by
      rcases Nat.lt_or_ge t args.length with hlt | hge
      · exact hlt
      · rw [List.getElem?_append_right (by simpa using hge), List.getElem?_replicate] at ht
        split at ht
        · injection ht with ht; cases ht
        · cases ht
    rw [List.getElem?_append_left (by simpa using hlt), List.getElem?_map] at ht
    cases hv : args[t]? with
    | none => rw [hv] at ht; cases ht
    | some u =>
      rw [hv] at ht
      simp only [Option.map_some, Option.some.injEq] at ht
      subst ht
      refine ⟨?_, inbL_iff.1 hi u (List.mem_of_getElem? hv)⟩
      rw [Array.getElem?_append_left (by simpa using hlt)]
      simp [hv]
  have hs := h.run ⟨C.w0, C.U, ρ, hp.length⟩ _ w rfl (Nat.le_refl _) hM
  simp only [stk, codeAt] at hs
  refine wp_mono hs fun e a' w' ⟨σ, hk, hM'⟩ => ?_
  obtain ⟨ρ', ft', g0, g1, g2⟩ := hM'.ex
  have key : ∀ (e : Exit), retK P fn.results.toList G e σ → (e = .ret ∨ e = .normal) → ∃ v, (results fn a'.tmps).run P w' = .ok v w' ∧ ∃ ρ' ft' v2 hp', (∀ i, i < hp.length → ρ' i = ρ i) ∧ Ending.returned v = .returned (ren ρ' v2) ∧ G v2 hp' ∧ HM D C ρ' ft' hp' w' := by
    intro e hk he
    have : ∃ vs, resAll P σ fn.results.toList = some vs ∧ G (pack vs) σ.hp := by
      rcases he with rfl | rfl
      · simp only [retK] at hk
        split at hk
        · exact ⟨_, by assumption, hk.out⟩
        · exact hk.elim
      · simp only [retK] at hk
        split at hk
        · exact ⟨_, by assumption, hk.out⟩
        · exact hk.elim
    obtain ⟨vs, h1, h2⟩ := this
    exact ⟨_, results_ok g1 g2 hM'.li h1, ρ', ft', pack vs, σ.hp, g0, rfl, h2, g2.ctx rfl rfl⟩
  cases e with
  | ret => exact ⟨hM'.defers, key _ hk (Or.inl rfl)⟩
  | normal => exact ⟨hM'.defers, key _ hk (Or.inr rfl)⟩
  | _ => exact Stuck.elim hk
end
end Go.Proofs.Ytloibbakklenbaa.Rx
