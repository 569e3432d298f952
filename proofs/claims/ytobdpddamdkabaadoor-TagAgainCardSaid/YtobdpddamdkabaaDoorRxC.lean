/- Symbolic runs, third part: code, contracts, loops, things of the proof, arguments. Nothing of the program. -/
import Derived.Test.YtobdpddamdkabaaDoorRxD
import Derived.Below
import Derived.Deep.Slices
import Derived.ChangeArms
import Derived.WideShapes
import Derived.DataReads
import Derived.OpenShut
import Derived.ProofKit
namespace Go.Proofs.YtobdpddamdkabaaDoor.Rx
open Go.RowKit Go.Proofs.YtobdpddamdkabaaDoor.State
set_option linter.unusedVariables false
set_option linter.unusedSimpArgs false
section
variable {R : Type} {D : Res R} {P : Program} {T : Tab R} {C : Ctx} {w w' : World}
/-- the code of a function, run from σ as far as it goes: up to its loops -/
def rx (D : Res R) (P : Program) (T : Tab R) (root : Code) (n0 : Nat) (k : Exit → SS R → Prop) : Nat → List (It R) → SS R → Prop
  | 0, todo, σ => At D P root n0 k todo σ
  | n + 1, todo, σ =>
    match todo with
    | [] => k .normal σ
    | .inr (.inl _) :: r => rx D P T root n0 k n r σ
    | .inr (.inr J) :: r => Post (J σ)
    | .inl p :: r =>
      match codeAt root p with
      | none => Stuck 5
      | some c =>
        match c with
        | .skip => rx D P T root n0 k n r σ
        | .label _ => rx D P T root n0 k n r σ
        | .seq _ _ => rx D P T root n0 k n (.inl (p ++ [0]) :: .inl (p ++ [1]) :: r) σ
        | .block id _ => rx D P T root n0 k n (.inl (p ++ [0]) :: .inr (.inl id) :: r) σ
        | .cond x _ _ =>
          match litOf σ.li x with
          | some true => rx D P T root n0 k n (.inl (p ++ [0]) :: r) σ
          | some false => rx D P T root n0 k n (.inl (p ++ [1]) :: r) σ
          | none =>
            match x with
            | .tmp t => match σ.tm[t]? with
              | some (some (.bool b)) =>
                (b = true → fSS (assume σ t true) fun σ => rx D P T root n0 k n (.inl (p ++ [0]) :: r) σ) ∧
                (b = false → fSS (assume σ t false) fun σ => rx D P T root n0 k n (.inl (p ++ [1]) :: r) σ)
              | _ => Stuck 6
            | _ => Stuck 7
        | .exit id =>
          match popTo id r with
          | some r' => rx D P T root n0 k n r' σ
          | none => k (.exit id) σ
        | .ret => k .ret σ
        | .region _ ⟨ops⟩ false => rxList P T ops ops σ fun σ' => rx D P T root n0 k n r σ'
        | .region _ ⟨ops⟩ true => rxDraw P T ops σ (fun σ' => rx D P T root n0 k n r σ') (ops.length + 1) []
        | _ => At D P root n0 k (.inl p :: r) σ
theorem rx_ok (hT : TabOk D P T) (hmx : P.follows .mixedOrders = true) {root : Code} {n0 : Nat} {k : Exit → SS R → Prop} : ∀ (n : Nat) {todo : List (It R)} {σ : SS R}, rx D P T root n0 k n todo σ → At D P root n0 k todo σ
  | 0, todo, σ, h => h
  | n + 1, todo, σ, h => by
    refine ⟨fun C a w hC hn hm => ?_⟩
    have ih : ∀ {todo : List (It R)} {σ : SS R} {a : Act} {w : World}, rx D P T root n0 k n todo σ → n0 ≤ σ.hp.length → M D C σ a w → stk D P C root k todo .normal a w := fun h hn hm => (rx_ok hT hmx n h).run C _ _ hC hn hm
    unfold rx at h
    simp only [fSS_eq] at h
    split at h
    · exact ⟨σ, h, hm⟩
    · rename_i id r
      show stk D P C root k r .normal a w
      grind
    · exact ⟨σ, h.out, by omega, hm⟩
    · rename_i p r
      split at h
      · exact h.elim
      · rename_i c hc
        simp only [stk, hc]
        have sub : ∀ (i : Nat) (d : Code), codeAt c [i] = some d → codeAt root (p ++ [i]) = some d := fun i d hd => by grind[codeAt_append]
        split at h
        · grind[wp_skip]
        · grind[wp_label]
        · rename_i x y
          have h1 := ih h hn hm
          simp only [stk, sub 0 x (by simp [codeAt])] at h1
          refine wp_seq (wp_mono h1 fun e a' w' h2 => ?_)
          cases e with
          | normal =>
            simp only [sub 1 y (by simp [codeAt])] at h2
            exact h2
          | _ => exact h2
        · have h1 := ih h hn hm
          simp_all[stk,codeAt,wp_block]
        · rename_i x y z
          split at h
          · rename_i hl
            have h1 := ih h hn hm
            simp only [stk, sub 0 y (by simp [codeAt])] at h1
            obtain ⟨ρ, ft, _, g1, _⟩ := hm.ex
            have := (ev_eval g1 (lit_ev hm.li hl)).1
            simp_all[wp_cond_true]
          · rename_i hl
            have h1 := ih h hn hm
            simp only [stk, sub 1 z (by simp [codeAt])] at h1
            obtain ⟨ρ, ft, _, g1, _⟩ := hm.ex
            have := (ev_eval g1 (lit_ev hm.li hl)).1
            simp_all[wp_cond_false]
          · split at h
            · rename_i t _
              split at h
              · rename_i b hb
                have ht := M_li hm hb
                have he : a.eval (.tmp t) = .bool b := by simp [Act.eval, ht]
                cases b with
                | true =>
                  have h1 := ih (h.1 rfl) (by grind[assume]) (hm.assume hb)
                  grind[stk,codeAt,wp_cond_true]
                | false =>
                  have h1 := ih (h.2 rfl) (by grind[assume]) (hm.assume hb)
                  grind[stk,codeAt,wp_cond_false]
              · exact h.elim
            · exact h.elim
        · grind[wp_exit,stk_exit]
        · grind[wp_ret,stk_ret]
        · grind[wp_region_list,rxList_ok]
        · grind[draw_ok]
        · have := h.run C a w hC hn hm
          grind[stk]
end
end Go.Proofs.YtobdpddamdkabaaDoor.Rx
namespace Go.Proofs.YtobdpddamdkabaaDoor.Rx
open Go.RowKit Go.Proofs.YtobdpddamdkabaaDoor.State
set_option linter.unusedVariables false
set_option linter.unusedSimpArgs false
def mvQ (s : Nat → Nat) (q : Nat) : Nat :=
  match Nat.blt q 1000000 with
  | true => q
  | false => q % 1000000 + 1000000 * (s (q / 1000000 - 1) + 1)
def mvA (s : Nat → Nat) (a : Addr) : Addr :=
  match a with
  | ⟨b, o, none⟩ => ⟨s b, o, none⟩
  | ⟨b, o, some q⟩ => ⟨s b, o, some (mvQ s q)⟩
mutual
/-- blocks numbered anew -/
def mvV (s : Nat → Nat) : Value → Value
  | .pointer (some a) => .pointer (some (mvA s a))
  | .slice (some a) n c => .slice (some (mvA s a)) n c
  | .map (some r) => .map (some (s r))
  | .chan (some r) => .chan (some (s r))
  | .agg ⟨l⟩ => .agg ⟨mvL s l⟩
  | .tuple ⟨l⟩ => .tuple ⟨mvL s l⟩
  | .func fn ⟨f⟩ ⟨c⟩ => .func fn ⟨mvL s f⟩ ⟨mvL s c⟩
  | .iface t v => .iface t (mvV s v)
  | v => v
def mvL (s : Nat → Nat) : List Value → List Value
  | [] => []
  | v :: l => mvV s v :: mvL s l
end
def onQ (p : Nat → Bool) (q : Nat) : Bool :=
  match Nat.blt q 1000000 with
  | true => true
  | false => p (q / 1000000 - 1)
def onA (p : Nat → Bool) (a : Addr) : Bool :=
  match a with
  | ⟨b, _, none⟩ => p b
  | ⟨b, _, some q⟩ => p b && onQ p q
mutual
/-- every block in it is one of p -/
def onV (p : Nat → Bool) : Value → Bool
  | .pointer (some a) => onA p a
  | .slice (some a) _ _ => onA p a
  | .map (some r) | .chan (some r) => p r
  | .agg ⟨l⟩ => onL p l
  | .tuple ⟨l⟩ => onL p l
  | .func _ ⟨f⟩ ⟨c⟩ => onL p f && onL p c
  | .iface _ v => onV p v
  | _ => true
def onL (p : Nat → Bool) : List Value → Bool
  | [] => true
  | v :: l => onV p v && onL p l
end
section
variable {ρ ρ' : Env} {s u : Nat → Nat} {p : Nat → Bool} {n m : Nat}
theorem blt_iff {a b : Nat} : Nat.blt a b = true ↔ a < b := by simp
theorem mvQ_lt {q : Nat} (s : Nat → Nat) (h : q < 1000000) : mvQ s q = q := by grind[mvQ,blt_iff]
theorem mvQ_ge {q : Nat} (s : Nat → Nat) (h : ¬ q < 1000000) : mvQ s q = q % 1000000 + 1000000 * (s (q / 1000000 - 1) + 1) := by grind[mvQ,blt_iff]
theorem mvQ_mod (s : Nat → Nat) (q : Nat) : mvQ s q % 1000000 = q % 1000000 := by grind[mvQ_lt,mvQ_ge]
theorem mvQ_div (s : Nat → Nat) (q : Nat) : mvQ s q / 1000000 = if q / 1000000 = 0 then 0 else s (q / 1000000 - 1) + 1 := by
  by_cases h : q < 1000000
  · simp_all[mvQ_lt]
  · rw [mvQ_ge s h, if_neg (by omega)]; omega
theorem mvQ_mvQ (s u : Nat → Nat) (q : Nat) : mvQ s (mvQ u q) = mvQ (fun i => s (u i)) q := by grind[mvQ_lt,mvQ_ge]
theorem cellOf_mv (s : Nat → Nat) (e q : Nat) : cellOf e (some (mvQ s q)) = cellOf e (some q) := by grind[mvQ_mod,cellOf]
theorem renA_mv (a : Addr) : renA ρ (mvA s a) = renA (fun i => ρ (s i)) a := by
  obtain ⟨b, o, q⟩ := a
  cases q with
  | none => rfl
  | some q => grind[mvA,renA,cellOf_mv]
theorem renS_some (ρ : Env) (b o q k c : Nat) : renS ρ ⟨b, o, some q⟩ k c = if (ρ b).nil = true then .slice none k 0
    else if q / 1000000 ≠ 0 ∧ (ρ b).cap ≤ o then .slice (some ⟨(ρ (q / 1000000 - 1)).blk, (ρ (q / 1000000 - 1)).off, none⟩) k 0
    else .slice (some (renA ρ ⟨b, o, some q⟩)) k ((ρ b).cap - o) := rfl
theorem renS_mv (a : Addr) (k c : Nat) : renS ρ (mvA s a) k c = renS (fun i => ρ (s i)) a k c := by
  have h := renA_mv (ρ := ρ) (s := s) a
  obtain ⟨b, o, q⟩ := a
  cases q with
  | none => rfl
  | some q =>
    show renS ρ ⟨s b, o, some (mvQ s q)⟩ k c = _
    have h : renA ρ ⟨s b, o, some (mvQ s q)⟩ = _ := h
    simp_all[renS_some,mvQ_div,if_neg]
mutual
theorem ren_mv : ∀ v, ren ρ (mvV s v) = ren (fun i => ρ (s i)) v
  | .pointer (some a) => by grind[mvV,ren,renA_mv]
  | .pointer none => by rfl
  | .slice (some a) k c => by grind[mvV,ren,renS_mv]
  | .slice none _ _ => by rfl
  | .map (some r) => by rfl
  | .map none => by rfl
  | .chan (some r) => by rfl
  | .chan none => by rfl
  | .agg ⟨l⟩ => by simp only [mvV, ren, renL_mv l]
  | .tuple ⟨l⟩ => by simp only [mvV, ren, renL_mv l]
  | .func fn ⟨f⟩ ⟨c⟩ => by simp only [mvV, ren, renL_mv f, renL_mv c]
  | .iface t v => by simp only [mvV, ren, ren_mv v]
  | .int _ _ => by rfl
  | .bool _ => by rfl
  | .string _ => by rfl
  | .float _ _ => by rfl
  | .complex _ _ _ => by rfl
  | .nilFunc => by rfl
  | .nilIface => by rfl
theorem renL_mv : ∀ l, renL ρ (mvL s l) = renL (fun i => ρ (s i)) l
  | [] => by rfl
  | v :: l => by simp only [mvL, renL, ren_mv v, renL_mv l]
end
theorem onA_block {a : Addr} (h : onA p a = true) : p a.block = true ∧ ∀ q, a.spot = some q → onQ p q = true := by
  obtain ⟨b, o, q⟩ := a
  cases q with
  | none => exact ⟨h, fun q e => by cases e⟩
  | some q =>
    simp_all[onA]
theorem onQ_tag {q : Nat} (h : onQ p q = true) (h0 : q / 1000000 ≠ 0) : p (q / 1000000 - 1) = true := by grind[onQ,blt_iff]
theorem onQ_lt {q : Nat} (p : Nat → Bool) (h : q < 1000000) : onQ p q = true := by grind[onQ,blt_iff]
theorem onQ_ge {q : Nat} (p : Nat → Bool) (h : ¬ q < 1000000) : onQ p q = p (q / 1000000 - 1) := by grind[onQ,blt_iff]
theorem onQ_mv {p' : Nat → Bool} {t : Nat} (h : ∀ i, p i = true → p' (s i) = true) (ht : onQ p t = true) : onQ p' (mvQ s t) = true := by
  by_cases hq : t < 1000000
  · grind[mvQ_lt,onQ_lt]
  · have hge : ¬ mvQ s t < 1000000 := by grind[mvQ_ge]
    simp_all[onQ_ge,mvQ_div,if_neg]
theorem renA_on {a : Addr} (h : ∀ i, p i = true → ρ i = ρ' i) (ha : onA p a = true) : renA ρ a = renA ρ' a := by grind[renA,onA_block]
theorem renS_on {a : Addr} {k c : Nat} (h : ∀ i, p i = true → ρ i = ρ' i) (ha : onA p a = true) : renS ρ a k c = renS ρ' a k c := by
  unfold renS
  rw [renA_on h ha, h _ (onA_block ha).1]
  grind[onQ_tag,onA_block]
mutual
theorem ren_on (h : ∀ i, p i = true → ρ i = ρ' i) : ∀ v, onV p v = true → ren ρ v = ren ρ' v
  | .pointer (some a), hv => by grind[onV,ren,renA_on]
  | .pointer none, _ => by rfl
  | .slice (some a) k c, hv => by grind[onV,ren,renS_on]
  | .slice none _ _, _ => by rfl
  | .map (some r), hv => by grind[onV,ren]
  | .map none, _ => by rfl
  | .chan (some r), hv => by grind[onV,ren]
  | .chan none, _ => by rfl
  | .agg ⟨l⟩, hv => by simp only [ren, renL_on h l hv]
  | .tuple ⟨l⟩, hv => by simp only [ren, renL_on h l hv]
  | .func fn ⟨f⟩ ⟨c⟩, hv => by
    simp only [onV, Bool.and_eq_true] at hv
    simp only [ren, renL_on h f hv.1, renL_on h c hv.2]
  | .iface t v, hv => by simp only [ren, ren_on h v hv]
  | .int _ _, _ => by simp
  | .bool _, _ => by simp
  | .string _, _ => by simp
  | .float _ _, _ => by rfl
  | .complex _ _ _, _ => by rfl
  | .nilFunc, _ => by rfl
  | .nilIface, _ => by rfl
theorem renL_on (h : ∀ i, p i = true → ρ i = ρ' i) : ∀ l, onL p l = true → renL ρ l = renL ρ' l
  | [], _ => rfl
  | v :: l, hv => by
    simp only [onL, Bool.and_eq_true] at hv
    simp only [renL, ren_on h v hv.1, renL_on h l hv.2]
end
theorem mvA_mvA (a : Addr) : mvA s (mvA u a) = mvA (fun i => s (u i)) a := by
  obtain ⟨b, o, q⟩ := a
  cases q with
  | none => rfl
  | some q => grind[mvA,mvQ_mvQ]
mutual
theorem mv_mv : ∀ v, mvV s (mvV u v) = mvV (fun i => s (u i)) v
  | .pointer (some a) => by grind[mvV,mvA_mvA]
  | .pointer none => by rfl
  | .slice (some a) k c => by grind[mvV,mvA_mvA]
  | .slice none _ _ => by rfl
  | .map (some r) => by rfl
  | .map none => by rfl
  | .chan (some r) => by rfl
  | .chan none => by rfl
  | .agg ⟨l⟩ => by simp only [mvV, mvL_mvL l]
  | .tuple ⟨l⟩ => by simp only [mvV, mvL_mvL l]
  | .func fn ⟨f⟩ ⟨c⟩ => by simp only [mvV, mvL_mvL f, mvL_mvL c]
  | .iface t v => by simp only [mvV, mv_mv v]
  | .int _ _ => by rfl
  | .bool _ => by rfl
  | .string _ => by rfl
  | .float _ _ => by rfl
  | .complex _ _ _ => by rfl
  | .nilFunc => by rfl
  | .nilIface => by rfl
theorem mvL_mvL : ∀ l, mvL s (mvL u l) = mvL (fun i => s (u i)) l
  | [] => by rfl
  | v :: l => by simp only [mvL, mv_mv v, mvL_mvL l]
end
theorem mvA_id {a : Addr} (h : ∀ i, p i = true → s i = i) (ha : onA p a = true) : mvA s a = a := by
  have h1 := (onA_block ha).1
  have h2 := (onA_block ha).2
  obtain ⟨b, o, q⟩ := a
  cases q with
  | none => grind[mvA]
  | some q =>
    grind[mvA,mvQ_lt,mvQ_ge,onQ_tag]
mutual
theorem mv_id (h : ∀ i, p i = true → s i = i) : ∀ v, onV p v = true → mvV s v = v
  | .pointer (some a), hv => by grind[onV,mvV,mvA_id]
  | .pointer none, _ => by rfl
  | .slice (some a) k c, hv => by grind[onV,mvV,mvA_id]
  | .slice none _ _, _ => by rfl
  | .map (some r), hv => by grind[onV,mvV]
  | .map none, _ => by rfl
  | .chan (some r), hv => by grind[onV,mvV]
  | .chan none, _ => by rfl
  | .agg ⟨l⟩, hv => by simp only [mvV, mvL_id h l hv]
  | .tuple ⟨l⟩, hv => by simp only [mvV, mvL_id h l hv]
  | .func fn ⟨f⟩ ⟨c⟩, hv => by
    simp only [onV, Bool.and_eq_true] at hv
    simp only [mvV, mvL_id h f hv.1, mvL_id h c hv.2]
  | .iface t v, hv => by simp only [mvV, mv_id h v hv]
  | .int _ _, _ => by rfl
  | .bool _, _ => by rfl
  | .string _, _ => by rfl
  | .float _ _, _ => by rfl
  | .complex _ _ _, _ => by rfl
  | .nilFunc, _ => by rfl
  | .nilIface, _ => by rfl
theorem mvL_id (h : ∀ i, p i = true → s i = i) : ∀ l, onL p l = true → mvL s l = l
  | [], _ => by rfl
  | v :: l, hv => by
    simp only [onL, Bool.and_eq_true] at hv
    simp only [mvL, mv_id h v hv.1, mvL_id h l hv.2]
end
theorem inb_mvA {a : Addr} {k c : Nat} (h : ∀ i, i < n → s i < m) (hv : inb n (.slice (some a) k c) = true) : inb m (.slice (some (mvA s a)) k c) = true := by
  obtain ⟨b, o, q⟩ := a
  simp only [inb, Bool.and_eq_true, Nat.blt_eq, Nat.ble_eq] at hv ⊢
  cases q with
  | none =>
    simp_all[mvA,tagB]
  | some q =>
    grind[mvA,tagB,mvQ_div]
theorem inb_mvP {a : Addr} (h : ∀ i, i < n → s i < m) (hv : inb n (.pointer (some a)) = true) : inb m (.pointer (some (mvA s a))) = true := by
  obtain ⟨b, o, q⟩ := a
  simp only [inb, Nat.blt_eq] at hv ⊢
  cases q <;> exact h b hv
mutual
theorem inb_mv (h : ∀ i, i < n → s i < m) : ∀ v, inb n v = true → inb m (mvV s v) = true
  | .pointer (some a), hv => by grind[mvV,inb_mvP]
  | .pointer none, _ => by rfl
  | .slice (some a) k c, hv => by grind[mvV,inb_mvA]
  | .slice none _ _, _ => by rfl
  | .map (some r), hv => by grind[mvV,inb,Nat.blt_eq]
  | .map none, _ => by rfl
  | .chan (some r), hv => by grind[mvV,inb,Nat.blt_eq]
  | .chan none, _ => by rfl
  | .agg ⟨l⟩, hv => by exact inbL_mv h l hv
  | .tuple ⟨l⟩, hv => by exact inbL_mv h l hv
  | .func fn ⟨f⟩ ⟨c⟩, hv => by
    simp only [mvV, inb, Bool.and_eq_true] at *
    exact ⟨inbL_mv h f hv.1, inbL_mv h c hv.2⟩
  | .iface t v, hv => by exact inb_mv h v hv
  | .int _ _, _ => by rfl
  | .bool _, _ => by rfl
  | .string _, _ => by rfl
  | .float _ _, _ => by rfl
  | .complex _ _ _, _ => by rfl
  | .nilFunc, _ => by rfl
  | .nilIface, _ => by rfl
theorem inbL_mv (h : ∀ i, i < n → s i < m) : ∀ l, inbL n l = true → inbL m (mvL s l) = true
  | [], _ => by rfl
  | v :: l, hv => by
    simp only [inbL, Bool.and_eq_true] at hv
    simp only [mvL, inbL, Bool.and_eq_true]
    exact ⟨inb_mv h v hv.1, inbL_mv h l hv.2⟩
end
mutual
theorem on_inb : ∀ v, onV (fun i => Nat.blt i n) v = true → inb n v = true
  | .pointer (some a), hv => by
    grind[onV,inb,onA_block]
  | .pointer none, _ => by rfl
  | .slice (some a) k c, hv => by
    have h1 := (onA_block hv).1
    have h2 := (onA_block hv).2
    simp only [Nat.blt_eq] at h1
    simp only [inb, Bool.and_eq_true, Nat.blt_eq, Nat.ble_eq]
    refine ⟨h1, ?_⟩
    cases hs : a.spot with
    | none => simp [tagB]
    | some q =>
      grind[tagB,onQ_tag,Nat.blt_eq]
  | .slice none _ _, _ => by rfl
  | .map (some r), hv => by grind[onV,inb]
  | .map none, _ => by rfl
  | .chan (some r), hv => by grind[onV,inb]
  | .chan none, _ => by rfl
  | .agg ⟨l⟩, hv => by exact onL_inb l hv
  | .tuple ⟨l⟩, hv => by exact onL_inb l hv
  | .func fn ⟨f⟩ ⟨c⟩, hv => by
    simp only [onV, Bool.and_eq_true] at hv
    simp only [inb, Bool.and_eq_true]
    exact ⟨onL_inb f hv.1, onL_inb c hv.2⟩
  | .iface t v, hv => by exact on_inb v hv
  | .int _ _, _ => by rfl
  | .bool _, _ => by rfl
  | .string _, _ => by rfl
  | .float _ _, _ => by rfl
  | .complex _ _ _, _ => by rfl
  | .nilFunc, _ => by rfl
  | .nilIface, _ => by rfl
theorem onL_inb : ∀ l, onL (fun i => Nat.blt i n) l = true → inbL n l = true
  | [], _ => by rfl
  | v :: l, hv => by
    simp only [onL, Bool.and_eq_true] at hv
    simp only [inbL, Bool.and_eq_true]
    exact ⟨on_inb v hv.1, onL_inb l hv.2⟩
end
end
mutual
/-- slices that lie in no block below k are nil -/
def dnV (k : Nat) : Value → Value
  | .slice (some ⟨b, o, some q⟩) n c => match Nat.blt b k with
    | true => .slice (some ⟨b, o, some q⟩) n c
    | false => .slice none n 0
  | .agg ⟨l⟩ => .agg ⟨dnL k l⟩
  | .tuple ⟨l⟩ => .tuple ⟨dnL k l⟩
  | .func fn ⟨f⟩ ⟨c⟩ => .func fn ⟨dnL k f⟩ ⟨dnL k c⟩
  | .iface t v => .iface t (dnV k v)
  | v => v
def dnL (k : Nat) : List Value → List Value
  | [] => []
  | v :: l => dnV k v :: dnL k l
end
def nilP : Place := ⟨0, 0, 0, true⟩
def plusE (ρ : Env) (k : Nat) : Env := fun i => if i < k then ρ i else nilP
section
variable {ρ : Env} {k : Nat}
theorem plus_lt {i : Nat} (h : i < k) : plusE ρ k i = ρ i := by simp [plusE, h]
theorem plus_ge {i : Nat} (h : ¬ i < k) : plusE ρ k i = nilP := by simp [plusE, h]
theorem renA_plus {a : Addr} (h : a.block < k) : renA ρ a = renA (plusE ρ k) a := by grind[renA,plus_lt]
theorem renS_plus {a : Addr} {n c : Nat} (h : a.block < k) (ht : tagB a.spot ≤ k) : renS ρ a n c = renS (plusE ρ k) a n c := by grind[renS_congr,plus_lt]
mutual
theorem ren_dn : ∀ v, inb k (dnV k v) = true → ren ρ (dnV k v) = ren (plusE ρ k) v
  | .pointer (some a), hv => by
    grind[dnV,ren_congr,plus_lt]
  | .pointer none, _ => by rfl
  | .slice (some ⟨b, o, none⟩) n c, hv => by
    grind[dnV,ren_congr,plus_lt]
  | .slice (some ⟨b, o, some q⟩) n c, hv => by
    simp only [dnV] at hv ⊢
    split
    · grind[ren_congr,plus_lt]
    · rename_i hb
      have hge : ¬ b < k := fun h => by grind[blt_iff]
      simp only [ren, renS]
      rw [plus_ge hge]
      rfl
  | .slice none _ _, _ => by rfl
  | .map (some r), hv => by
    grind[dnV,ren_congr,plus_lt]
  | .map none, _ => by rfl
  | .chan (some r), hv => by
    grind[dnV,ren_congr,plus_lt]
  | .chan none, _ => by rfl
  | .agg ⟨l⟩, hv => by simp only [dnV, ren, renL_dn l hv]
  | .tuple ⟨l⟩, hv => by simp only [dnV, ren, renL_dn l hv]
  | .func fn ⟨f⟩ ⟨c⟩, hv => by
    simp only [dnV, inb, Bool.and_eq_true] at hv
    simp only [dnV, ren, renL_dn f hv.1, renL_dn c hv.2]
  | .iface t v, hv => by simp only [dnV, ren, ren_dn v hv]
  | .int _ _, _ => by rfl
  | .bool _, _ => by rfl
  | .string _, _ => by rfl
  | .float _ _, _ => by rfl
  | .complex _ _ _, _ => by rfl
  | .nilFunc, _ => by rfl
  | .nilIface, _ => by rfl
theorem renL_dn : ∀ l, inbL k (dnL k l) = true → renL ρ (dnL k l) = renL (plusE ρ k) l
  | [], _ => by rfl
  | v :: l, hv => by
    simp only [dnL, inbL, Bool.and_eq_true] at hv
    simp only [dnL, renL, ren_dn v hv.1, renL_dn l hv.2]
end
end
/-- a row of no elements -/
def noCols : List Value → List Col → Bool
  | [], [] => true
  | .int _ _ :: tm, c :: cs => c.i.isEmpty && noCols tm cs
  | .bool _ :: tm, c :: cs => c.b.isEmpty && noCols tm cs
  | .string _ :: tm, c :: cs => c.s.isEmpty && noCols tm cs
  | _, _ => false
structure NoRow (r : Row) : Prop where
  n : r.n = 0
  ne : 0 < r.tm.length
  cols : noCols r.tm r.cols = true
theorem noCols_ok : ∀ {tm : List Value} {cs : List Col}, noCols tm cs = true → cs.length = tm.length ∧ ∀ (f : Nat) (t : Value) (c : Col), tm[f]? = some t → cs[f]? = some c → colOk t c 0
  | [], [], _ => ⟨rfl, fun f t c h => by simp at h⟩
  | [], _ :: _, h => by simp [noCols] at h
  | v :: tm, [], h => by grind[noCols]
  | v :: tm, c :: cs, h => by
    have : colOk v c 0 ∧ noCols tm cs = true := by
      cases v <;> simp only [noCols, Bool.and_eq_true, List.isEmpty_iff] at h <;> first | exact ⟨by simp [colOk, h.1], h.2⟩ | cases h
    obtain ⟨h1, h2⟩ := noCols_ok this.2
    grind
section
variable {R : Type} {D : Res R} {C : Ctx} {ρ ρn : Env} {ft : Nat → Nat → Prop} {w : World} {h hn : Hp R}
theorem hold_none {b : Nat} {F : Nat → Prop} {t : TypeId} {r : Row} (hr : NoRow r) (hp : ρ b = nilP) (hF : ∀ k, ¬ F k) : hold D C ρ b F w (.inr (.inl (t, r))) := by
  obtain ⟨c1, c2⟩ := noCols_ok hr.cols
  simp only [hold, hp, nilP]
  refine ⟨fun k => ⟨fun hk => absurd hk (hF k), fun hk => by cases hk.1⟩, hr.ne, by rw [hr.n]; simp, Nat.zero_le _, by simp, #[], (fun hk => by cases hk), ⟨c1, fun f t c ht hc => by rw [hr.n]; grind, fun f t c e _ _ he => by rw [hr.n] at he; omega⟩⟩
def headCol (n : Nat) (c : Col) : Col := ⟨c.i.take n, c.b.take n, c.s.take n⟩
/-- the first elements of a row -/
structure RowLt (r' r : Row) : Prop where
  tm : r'.tm = r.tm
  n : r'.n ≤ r.n
  cols : r'.cols = r.cols.map (headCol r'.n)
theorem colOk_take {t : Value} {c : Col} {n m : Nat} (h : colOk t c n) (hm : m ≤ n) : colOk t (headCol m c) m := by
  cases t <;> simp only [colOk, headCol] at h ⊢ <;> first | exact h | (rw [List.length_take]; omega)
theorem cellVal_take {t : Value} {c : Col} {m e : Nat} (h : e < m) : cellVal t (headCol m c) e = cellVal t c e := by
  cases t <;> simp only [cellVal, headCol, List.getD_eq_getElem?_getD, List.getElem?_take, h, if_true]
theorem RowIn.lt {r' r : Row} {arr : Array Value} {o : Nat} (h : RowIn r arr o) (hl : RowLt r' r) : RowIn r' arr o where
  len := by rw [hl.cols, hl.tm, List.length_map]; exact h.len
  col f t c ht hc := by
    rw [hl.tm] at ht
    rw [hl.cols, List.getElem?_map] at hc
    cases hc' : r.cols[f]? with
    | none => grind
    | some c0 =>
      rw [hc'] at hc
      injection hc with hc
      subst hc
      exact colOk_take (h.col f t c0 ht hc') hl.n
  cell f t c e ht hc he := by
    rw [hl.tm] at ht ⊢
    rw [hl.cols, List.getElem?_map] at hc
    cases hc' : r.cols[f]? with
    | none => grind
    | some c0 =>
      rw [hc'] at hc
      injection hc with hc
      subst hc
      rw [cellVal_take he]
      exact h.cell f t c0 e ht hc' (Nat.lt_of_lt_of_le he hl.n)
def RowLe (r' r : Row) : Prop := r' = r ∨ RowLt r' r
def LikeI (y x : (TypeId × Row) ⊕ Row ⊕ R) : Prop :=
  match y, x with
  | .inl (t, r), .inl (t', r') => t' = t ∧ RowLe r' r
  | .inl _, .inr _ => False
  | .inr _, .inl _ => False
  | .inr y, .inr x => y = x
/-- a block as another run calls it; of a row, its first elements may be taken -/
def LikeSB (ρ ρn : Env) (n : Nat) (Y X : SB R) : Prop :=
  match Y, X with
  | .inl (t, cs), .inl (t', cs') => t = t' ∧ cs'.map (ren ρn) = cs.map (ren ρ) ∧ inbL n cs' = true
  | .inl _, _ => False
  | .inr _, .inl _ => False
  | .inr y, .inr x => LikeI y x
theorem LikeI.refl (y : (TypeId × Row) ⊕ Row ⊕ R) : LikeI y y := by
  rcases y with ⟨t, r⟩ | r | x
  · exact ⟨rfl, Or.inl rfl⟩
  · rfl
  · rfl
theorem hold_like {i b : Nat} {F : Nat → Prop} {Y X : SB R} {n : Nat} (hh : hold D C ρ i F w Y) (hl : LikeSB ρ ρn n Y X) (hp : ρn b = ρ i) : hold D C ρn b F w X ∧ inside n X := by
  rcases Y with ⟨t, cs⟩ | Y
  · rcases X with ⟨t', cs'⟩ | X
    · obtain ⟨rfl, h2, h3⟩ := hl
      simp only [hold] at hh ⊢
      rw [hp, h2]
      exact ⟨hh, h3⟩
    · cases hl
  · rcases X with ⟨t', cs'⟩ | X
    · cases hl
    · rcases Y with ⟨t, r⟩ | Y <;> rcases X with ⟨t', r'⟩ | X
      · have hq : t' = t ∧ (r' = r ∨ RowLt r' r) := hl
        obtain ⟨e1, e2⟩ := hq
        subst e1
        rcases e2 with e3 | hl
        · subst e3; simp only [hold] at hh ⊢; rw [hp]; exact ⟨hh, trivial⟩
        · simp only [hold] at hh ⊢
          rw [hp]
          obtain ⟨h1, h2, h3, h4, h5, arr, h6, h7⟩ := hh
          exact ⟨⟨h1, by rw [hl.tm]; exact h2, Nat.le_trans hl.n h3, h4, h5, arr, by rw [hl.tm]; exact h6, h7.lt hl⟩, trivial⟩
      · exact False.elim hl
      · exact False.elim hl
      · subst hl
        rcases Y with r | x
        · simp only [hold] at hh ⊢; rw [hp]; exact ⟨hh, trivial⟩
        · simp only [hold] at hh ⊢; rw [hp]; exact ⟨hh, trivial⟩
/-- the blocks of a heap under other numbers; some may be left out -/
theorem HM.rename (hm : HM D C ρ ft h w) (s : Nat → Nat)
    (hb : ∀ (b : Nat) (X : SB R), hn[b]? = some (some X) → (ρn b = ρ (s b) ∧ ∃ Y, h[s b]? = some (some Y) ∧ LikeSB ρ ρn hn.length Y X) ∨ (h.length ≤ s b ∧ ρn b = nilP ∧ ∃ t r, X = .inr (.inl (t, r)) ∧ NoRow r))
    (hi : ∀ (b b' : Nat) (X X' : SB R), s b < h.length → hn[b]? = some (some X) → hn[b']? = some (some X') → s b = s b' → b = b') :
    HM D C ρn (fun b k => (∃ X, hn[b]? = some (some X)) ∧ ft (s b) k) hn w where
  at_ b X hX := by
    rcases hb b X hX with ⟨h1, Y, hY, hl⟩ | ⟨hge, hp, t, r, rfl, hr⟩
    rotate_left
    · exact ⟨hold_none hr hp fun k hk => by
        obtain ⟨B, hB⟩ := hm.some_ _ k hk.2
        grind, trivial⟩
    have := hold_like (hm.at_ (s b) Y hY).1 hl h1
    simp[*]
  lt b k hk := hm.lt _ k hk.2
  fresh b k hk := hm.fresh _ k hk.2
  apart b b' k hk hk' := by
    obtain ⟨⟨X, hX⟩, h1⟩ := hk
    obtain ⟨⟨X', hX'⟩, h2⟩ := hk'
    have hlt : s b < h.length := by
      obtain ⟨B, hB⟩ := hm.some_ _ k h1
      grind
    exact hi b b' X X' hlt hX hX' (hm.apart _ _ k h1 h2)
  some_ b k hk := hk.1
  kept := hm.kept
  gl := hm.gl
def mvSB (s : Nat → Nat) : SB R → SB R
  | .inl (t, cs) => .inl (t, mvL s cs)
  | .inr x => .inr x
theorem map_ren_mv {ρ : Env} {s : Nat → Nat} (l : List Value) : (mvL s l).map (ren ρ) = l.map (ren (fun i => ρ (s i))) := by rw [← renL_eq, ← renL_eq, renL_mv]
end
end Go.Proofs.YtobdpddamdkabaaDoor.Rx
namespace Go.Proofs.YtobdpddamdkabaaDoor.Rx
open Go.RowKit Go.Proofs.YtobdpddamdkabaaDoor.State
set_option linter.unusedVariables false
set_option linter.unusedSimpArgs false
def nth : List Nat → Nat → Nat
  | [], _ => 0
  | a :: _, 0 => a
  | _ :: l, i + 1 => nth l i
def pos : List Nat → Nat → Nat
  | [], _ => 0
  | a :: l, b => match Nat.beq a b with
    | true => 0
    | false => pos l b + 1
def nodupB : List Nat → Bool
  | [] => true
  | a :: l => !mem l a && nodupB l
theorem nth_mem : ∀ {s : List Nat} {i : Nat}, i < s.length → nth s i ∈ s
  | [], i, h => by simp at h
  | a :: l, 0, _ => by simp [nth]
  | a :: l, i + 1, h => by
    exact List.mem_cons_of_mem _ (nth_mem (by grind))
theorem pos_nth : ∀ {s : List Nat} {b : Nat}, b ∈ s → nth s (pos s b) = b ∧ pos s b < s.length
  | [], b, h => by cases h
  | a :: l, b, h => by
    simp only [pos]
    split
    · rename_i hb
      exact ⟨Nat.eq_of_beq_eq_true hb, by simp⟩
    · rename_i hb
      have hl : b ∈ l := by
        rcases List.mem_cons.1 h with rfl | h
        all_goals simp_all
      obtain ⟨h1, h2⟩ := pos_nth hl
      grind[nth]
theorem nth_pos : ∀ {s : List Nat} {i : Nat}, nodupB s = true → i < s.length → pos s (nth s i) = i
  | [], i, _, h => by simp at h
  | a :: l, 0, _, _ => by simp [nth, pos]
  | a :: l, i + 1, hn, h => by
    simp only [nodupB, Bool.and_eq_true, Bool.not_eq_true'] at hn
    have hi : i < l.length := by grind
    have hm := nth_mem hi
    simp only [nth, pos]
    have hne : Nat.beq a (nth l i) = false := by
      grind[Nat.eq_of_beq_eq_true,mem_iff]
    rw [hne]
    rw [nth_pos hn.2 hi]
section
variable {R : Type} {D : Res R} {P : Program} {T : Tab R} {C : Ctx} {ρ ρ' : Env} {ft ft' : Nat → Nat → Prop} {w w' : World} {h hr hx h' : Hp R}
theorem blt_true {a b : Nat} (h : a < b) : Nat.blt a b = true := blt_iff.2 h
theorem blt_false {a b : Nat} (h : ¬ a < b) : Nat.blt a b = false := by grind[blt_iff]
theorem cut_eq {α : Type} {l : List α} {k : Nat} (h : l.length = k) : cut l 0 k = l := by grind[cut_all]
/-- a slice from the first element on may bear its own block as the one behind which a cut stands -/
def tagV : Value → Value
  | .slice (some ⟨b, 0, some q⟩) n c => match Nat.beq (q / 1000000) (b + 1) && Nat.beq (q % 1000) 0 with
    | true => .slice (some ⟨b, 0, some (q % 1000000)⟩) n c
    | false => .slice (some ⟨b, 0, some q⟩) n c
  | v => v
theorem ren_tagV (ρ : Env) (v : Value) : ren ρ (tagV v) = ren ρ v := by
  unfold tagV
  split
  · rename_i b q n c
    split
    · rename_i h
      simp only [Bool.and_eq_true] at h
      simp only [ren, renS_some]
      by_cases hn : (ρ b).nil = true
      all_goals simp_all[renA,cellOf]
    · rfl
  · rfl
theorem inb_tagV (m : Nat) (v : Value) : inb m (tagV v) = inb m v := by
  unfold tagV
  split
  · split
    · rename_i h
      simp only [Bool.and_eq_true] at h
      have h1 := Nat.eq_of_beq_eq_true h.1
      rw [Bool.eq_iff_iff]
      simp only [inb, tagB, Bool.and_eq_true, Nat.blt_eq, Nat.ble_eq]
      omega
    · rfl
  · rfl
def tagL : List Value → List Value
  | [] => []
  | v :: l => tagV v :: tagL l
theorem renL_tagL (ρ : Env) : ∀ l : List Value, (tagL l).map (ren ρ) = l.map (ren ρ)
  := by intro a;induction a<;>intros<;>simp_all[tagL,ren_tagV]
theorem inbL_tagL (m : Nat) : ∀ l : List Value, inbL m (tagL l) = inbL m l
  := by intro a;induction a<;>intros<;>grind[tagL,inbL,inb_tagV]
/-- a block known cell by cell, found up to self-tags -/
structure PullT (k : Nat) (s : Nat → Nat) (hp : Hp R) (j : Nat) (t : TypeId) (cs : List Value) : Prop where
  ex : ∃ cs', at2 hp j = some (.inl (t, cs')) ∧ tagL cs' = tagL (dnL k (mvL s cs))
/-- a block of a heap, found in another; of a row its first elements may be taken; a row of no elements may be nil -/
def pullB (k : Nat) (s : Nat → Nat) (hp : Hp R) (j : Nat) : SB R → Prop
  | .inl (t, cs) => at2 hp j = some (.inl (t, dnL k (mvL s cs))) ∨ PullT k s hp j t cs
  | .inr (.inl (t, r')) => match Nat.blt j k with
    | true => ∃ r, at2 hp j = some (.inr (.inl (t, r))) ∧ RowLe r' r
    | false => NoRow r'
  | .inr (.inr x) => at2 hp j = some (.inr (.inr x))
/-- the blocks of a heap, found in another -/
def Pulls (k : Nat) (s : Nat → Nat) (hp : Hp R) : Nat → Hp R → Prop
  | _, [] => True
  | b, none :: l => Pulls k s hp (b + 1) l
  | b, some X :: l => pullB k s hp (s b) X ∧ Pulls k s hp (b + 1) l
def hits (k : Nat) (s : Nat → Nat) : Nat → Hp R → List Nat
  | _, [] => []
  | b, none :: l => hits k s (b + 1) l
  | b, some _ :: l => match Nat.blt (s b) k with
    | true => s b :: hits k s (b + 1) l
    | false => hits k s (b + 1) l
theorem Pulls.get {k : Nat} {s : Nat → Nat} {hp : Hp R} : ∀ {b : Nat} {l : Hp R} {i : Nat} {X : SB R}, Pulls k s hp b l → l[i]? = some (some X) → pullB k s hp (s (b + i)) X
  | b, [], i, X, _, hi => by simp at hi
  | b, none :: l, i, X, h, hi => by
    cases i with
    | zero => simp at hi
    | succ i =>
      have := Pulls.get (b := b + 1) h hi
      grind
  | b, some Y :: l, i, X, h, hi => by
    cases i with
    | zero =>
      simp only [List.getElem?_cons_zero, Option.some.injEq] at hi
      subst hi
      exact h.1
    | succ i =>
      have := Pulls.get (b := b + 1) h.2 hi
      grind
theorem hits_mem {k : Nat} {s : Nat → Nat} : ∀ {b : Nat} {l : Hp R} {i : Nat} {X : SB R}, s (b + i) < k → l[i]? = some (some X) → s (b + i) ∈ hits k s b l
  | b, [], i, X, _, hi => by simp at hi
  | b, none :: l, i, X, hk, hi => by
    cases i with
    | zero => simp at hi
    | succ i =>
      rw [show b + (i + 1) = b + 1 + i by omega] at hk ⊢
      exact hits_mem (s := s) (b := b + 1) hk hi
  | b, some Y :: l, i, X, hk, hi => by
    simp only [hits]
    cases i with
    | zero =>
      grind[blt_iff]
    | succ i =>
      rw [show b + (i + 1) = b + 1 + i by omega] at hk ⊢
      have := hits_mem (s := s) (b := b + 1) hk hi
      grind
theorem hits_inj {k : Nat} {s : Nat → Nat} : ∀ {b : Nat} {l : Hp R} {i j : Nat} {X Y : SB R}, nodupB (hits k s b l) = true → s (b + i) < k → l[i]? = some (some X) → l[j]? = some (some Y) → s (b + i) = s (b + j) → i = j
  | b, [], i, j, X, Y, _, _, hi, _, _ => by simp at hi
  | b, none :: l, i, j, X, Y, hn, hk, hi, hj, he => by
    cases i with
    | zero => simp at hi
    | succ i =>
      cases j with
      | zero => simp at hj
      | succ j =>
        rw [show b + (i + 1) = b + 1 + i by omega] at hk he
        rw [show b + (j + 1) = b + 1 + j by omega] at he
        rw [hits_inj (b := b + 1) (s := s) hn hk hi hj he]
  | b, some Z :: l, i, j, X, Y, hn, hk, hi, hj, he => by
    have hn' : nodupB (hits k s (b + 1) l) = true ∧ (s b < k → ¬ s b ∈ hits k s (b + 1) l) := by
      simp only [hits] at hn
      split at hn
      · simp only [nodupB, Bool.and_eq_true, Bool.not_eq_true'] at hn
        grind[mem_iff]
      grind[blt_iff]
    cases i with
    | zero =>
      cases j with
      | zero => rfl
      | succ j =>
        grind[hits_mem]
    | succ i =>
      rw [show b + (i + 1) = b + 1 + i by omega] at hk he
      cases j with
      | zero =>
        grind[hits_mem]
      | succ j =>
        rw [show b + (j + 1) = b + 1 + j by omega] at he
        rw [hits_inj (b := b + 1) (s := s) hn'.1 hk hi hj he]
theorem at2_some {b : Nat} {X : SB R} (hb : at2 h b = some X) : h[b]? = some (some X) := by grind[at2]
theorem at2_of {b : Nat} {X : SB R} (hb : h[b]? = some (some X)) : at2 h b = some X := by grind[at2]
theorem like_mv {n : Nat} {s : Nat → Nat} {ρn : Env} {X : SB R} (hρ : ∀ b, ρn b = ρ (s b)) (hi : inside n X) : LikeSB ρ ρn n (mvSB s X) X := by
  have e : ρn = fun b => ρ (s b) := funext hρ
  rcases X with ⟨t, cs⟩ | X
  · refine ⟨rfl, ?_, hi⟩
    rw [map_ren_mv, e]
  · exact LikeI.refl X
theorem pullB.like {n : Nat} {s : Nat → Nat} {ρn : Env} {X : SB R} {hp : Hp R} {j : Nat} (h : pullB hp.length s hp j X) (hin : ∀ Y, hp[j]? = some (some Y) → inside hp.length Y) (hρ : ∀ b, ρn b = plusE ρ hp.length (s b)) (hi : inside n X) :
    (j < hp.length ∧ ∃ Y, hp[j]? = some (some Y) ∧ LikeSB ρ ρn n Y X) ∨ (hp.length ≤ j ∧ ∃ t r, X = .inr (.inl (t, r)) ∧ NoRow r) := by
  have lt : ∀ {Y}, hp[j]? = some (some Y) → j < hp.length := fun hY => (List.getElem?_eq_some_iff.1 hY).1
  rcases X with ⟨t, cs⟩ | ⟨t, r'⟩ | x
  · have hT : ∃ cs', at2 hp j = some (.inl (t, cs')) ∧ tagL cs' = tagL (dnL hp.length (mvL s cs)) := by
      rcases h with h | ⟨⟨cs', h1, h2⟩⟩
      all_goals grind
    obtain ⟨cs', h1, h2⟩ := hT
    have hY := at2_some h1
    refine Or.inl ⟨lt hY, _, hY, rfl, ?_, hi⟩
    have hin' := hin _ hY
    have hin2 : inbL hp.length (dnL hp.length (mvL s cs)) = true := by rw [← inbL_tagL, ← h2, inbL_tagL]; exact hin'
    rw [← renL_tagL ρ cs', h2, renL_tagL, ← renL_eq, ← renL_eq, renL_dn _ hin2, renL_mv]
    congr 1
    grind
  · simp only [pullB] at h
    split at h
    · obtain ⟨r, h1, h2⟩ := h
      exact Or.inl ⟨lt (at2_some h1), _, at2_some h1, ⟨rfl, h2⟩⟩
    grind[blt_iff]
  · exact Or.inl ⟨lt (at2_some h), _, at2_some h, by rfl⟩
/-- a heap under other numbers -/
theorem HM.pulled {s : Nat → Nat} {hp hn : Hp R} (hm : HM D C ρ ft hp w) (h2 : Pulls hp.length s hp 0 hn) (h3 : nodupB (hits hp.length s 0 hn) = true) (h5 : hpIn hn.length hn = true) :
    HM D C (fun b => plusE ρ hp.length (s b)) (fun b k => (∃ X, hn[b]? = some (some X)) ∧ ft (s b) k) hn w := by
  refine hm.rename s (fun b X hX => ?_) fun b b' X X' hlt hX hX' he => hits_inj (b := 0) h3 (by grind) hX hX' (by grind)
  have := h2.get hX
  rw [Nat.zero_add] at this
  rcases this.like (fun Y hY => (hm.at_ _ Y hY).2) (fun _ => rfl) (hpIn_get h5 hX) with ⟨hlt, Y, hY, hl⟩ | ⟨hge, t, r, rfl, hr⟩
  · exact Or.inl ⟨plus_lt hlt, Y, hY, hl⟩
  grind[plus_ge]
/-- a run's end is as the contract says, under other numbers -/
structure Ends (n : Nat) (x : Out R) (v : Value) (hp : Hp R) : Prop where
  ex : ∃ s : List Nat, v = dnV hp.length (mvV (nth s) x.v) ∧ inb hp.length v = true ∧ Pulls hp.length (nth s) hp 0 x.hp ∧ nodupB (hits hp.length (nth s) 0 x.hp) = true ∧ allLt (fun i => Nat.beq (nth s i) i) n = true ∧ Nat.ble n hp.length = true ∧ hpIn x.hp.length x.hp = true
theorem HM.ends {n : Nat} {x : Out R} {v : Value} {hp : Hp R} (he : Ends n x v hp) (hm : HM D C ρ ft hp w) :
    ∃ ρ' ft', (∀ i, i < n → ρ' i = ρ i) ∧ ren ρ v = ren ρ' x.v ∧ HM D C ρ' ft' x.hp w := by
  obtain ⟨s, h1, h1', h2, h3, h4, h4', h5⟩ := he.ex
  refine ⟨fun b => plusE ρ hp.length (nth s b), _, fun i hi => ?_, ?_, hm.pulled h2 h3 h5⟩
  · have := allLt_get h4 hi
    show plusE ρ hp.length (nth s i) = ρ i
    rw [Nat.eq_of_beq_eq_true this]
    have := Nat.le_of_ble_eq_true h4'
    grind[plus_lt]
  grind[ren_dn,ren_mv]
/-- a contract, out of a run -/
theorem prim_at {f : FuncId} {fn : Func} {root : Code} {on : List Value → Hp R → Prop} {spec : Prim R} (hf : P.funcs[f]? = some fn) (hb : fn.body = some root) (hname : (fn.name == "runtime.NumGoroutine") = false)
    (H : ∀ args hh x, spec args hh = some x → hh.length ≤ x.hp.length ∧ (∀ b, x.lit = some b → x.v = .bool b) ∧ (x.wr = [] → x.hp = hh) ∧
      (on args hh → x.vc → At D P root hh.length (retK P fn.results.toList (Ends hh.length x)) [.inl []] ⟨someL args ++ List.replicate (fn.ntmps - args.length) none, [], hh⟩)) : PrimOk D P f on spec where
  known := ⟨fn, hf, hname, by grind⟩
  run args hh x hon hx C ρ ft w hm hv hi := by
    obtain ⟨_, _, _, h4⟩ := H args hh x hx
    refine (calls_At hf hb (h4 hon hv) hm hi).mono fun e w' ⟨ρ', ft', v, hp', g1, g2, g3, g4⟩ => ?_
    obtain ⟨ρ2, ft2, q1, q2, q3⟩ := g4.ends g3
    grind
  len args hh x hx := (H args hh x hx).1
  lit args hh x hx := (H args hh x hx).2.1
  still args hh x hx := (H args hh x hx).2.2.1

/-- the part of a heap that a call sees; rows may be lent to be read -/
def Sub (hr h : Hp R) : Prop := ∀ (b : Nat) (X : SB R), hr[b]? = some (some X) → h[b]? = some (some X) ∨ ∃ t r, X = .inr (.inr (.inl r)) ∧ h[b]? = some (some (.inr (.inl (t, r))))
def Own (hr : Hp R) (b : Nat) : Prop := ∃ X, hr[b]? = some (some X) ∧ isView X = false
def lentC (w : World) (hr : Hp R) (ft : Nat → Nat → Prop) (ρ : Env) (n : Nat) : Ctx := ⟨w, fun k => ∃ b, Own hr b ∧ ft b k, ρ, n⟩
theorem HM.lend (hm : HM D C ρ ft h w) (hsub : Sub hr h) (hlen : hr.length = h.length) (n : Nat) : HM D (lentC w hr ft ρ n) ρ (fun b k => Own hr b ∧ ft b k) hr w where
  at_ i B hB := by
    rcases hsub i B hB with hi | ⟨t, r, rfl, hi⟩
    · obtain ⟨h1, h2⟩ := hm.at_ i B hi
      refine ⟨?_, by grind⟩
      cases hv : isView B with
      | false =>
        have e : (fun k => Own hr i ∧ ft i k) = ft i := funext fun k => propext ⟨fun h => h.2, fun h => ⟨⟨B, hB, hv⟩, h⟩⟩
        grind[hold_ctx]
      | true =>
        rcases B with ⟨t, cs⟩ | ⟨t, r⟩ | r | x <;> simp [isView] at hv
        obtain ⟨g1, g2, g3, g4, g5, arr, g6, g7⟩ := h1
        refine ⟨fun k hk => ?_, g2, g3, g4, g5, arr, fun hn h0 => ?_, g7⟩
        · grind
        · obtain ⟨q1, q2, t, fz, q3⟩ := g6 hn h0
          refine ⟨Nat.lt_of_lt_of_le q1 hm.kept.size, fun ⟨b, _, hb⟩ => ?_, t, fz, by rw [← q3]; exact hm.kept.block _ q1 q2⟩
          rcases hm.fresh b _ hb with hu | hge
          all_goals grind
    · obtain ⟨h1, h2⟩ := hm.at_ i _ hi
      obtain ⟨g1, g2, g3, g4, g5, arr, g6, g7⟩ := h1
      have hno : ¬ Own hr i := fun ⟨X, hX, hv⟩ => by
        grind[isView]
      refine ⟨⟨fun k hk => hno hk.1, g2, g3, g4, g5, arr, fun hn _ => ?_, g7⟩, trivial⟩
      obtain ⟨q1, q2⟩ := g6 hn
      have hft : ft i (ρ i).blk := (g1 _).2 ⟨hn, rfl⟩
      refine ⟨hm.lt i _ hft, fun ⟨b, hb, hbk⟩ => ?_, t, (0, 0), q1⟩
      rw [hm.apart b i _ hbk hft] at hb
      grind
  lt i k hk := hm.lt i k hk.2
  fresh i k hk := Or.inl ⟨i, hk.1, hk.2⟩
  apart i j k hi hj := hm.apart i j k hi.2 hj.2
  some_ i k hk := by obtain ⟨X, hX, _⟩ := hk.1; grind
  kept := Kept.refl _ _
  gl := hm.gl.next hm.kept fun k ⟨b, _, hb⟩ => hm.fresh b k hb
theorem HM.regain (hm : HM D C ρ ft h w) (hsub : Sub hr h) (hlen : hr.length = h.length) {n : Nat}
    (hm' : HM D (lentC w hr ft ρ n) ρ' ft' hx w') (hρ : ∀ b, b < h.length → ρ' b = ρ b) (hlx : h.length ≤ hx.length)
    (hv : ∀ (b : Nat) (X : SB R), hx[b]? = some (some X) → isView X = false ∨ ∃ Y, hr[b]? = some (some Y) ∧ isView Y = true)
    (hlen' : h'.length = hx.length) (hnew : ∀ (b : Nat), Own hr b ∨ h.length ≤ b → h'[b]? = hx[b]?) (hold_ : ∀ (b : Nat), b < h.length → ¬ Own hr b → h'[b]? = h[b]?) :
    HM D C ρ' (fun b k => ((Own hr b ∨ h.length ≤ b) ∧ ft' b k) ∨ (¬ (Own hr b ∨ h.length ≤ b) ∧ ft b k)) h' w' := by
  refine hm.step (Own hr) ⟨hm'.kept.os, hm'.kept.tape, hm'.kept.output, hm'.kept.size, fun k hk hn => hm'.kept.block k hk hn⟩ hρ (by omega) ?_ ?_ ?_ ?_
  · intro i B hi hB
    have hTn : Own hr i ∨ h.length ≤ i := by
      grind
    rw [hnew i hTn] at hB
    obtain ⟨g1, g2⟩ := hm'.at_ i B hB
    have hnv : isView B = false := by
      rcases hv i B hB with h1 | ⟨Y, hY, hYv⟩
      · exact h1
      · rcases hTn with ⟨Y', hY', hYv'⟩ | hge'
        all_goals grind
    have e : (fun k => ((Own hr i ∨ h.length ≤ i) ∧ ft' i k) ∨ (¬ (Own hr i ∨ h.length ≤ i) ∧ ft i k)) = ft' i := funext fun k => propext ⟨fun h => h.elim (fun h => h.2) (fun h => absurd hTn h.1), fun h => Or.inl ⟨hTn, h⟩⟩
    grind[hold_ctx]
  · grind
  · intro i k hi hk
    have hTn : Own hr i ∨ h.length ≤ i := by
      grind
    have hk' : ft' i k := hk.elim (fun h => h.2) (fun h => absurd hTn h.1)
    refine ⟨?_, hm'.lt i k hk', ?_⟩
    · rcases hm'.fresh i k hk' with ⟨b, hb, hbk⟩ | hge'
      · grind
      · exact Or.inr hge'
    · obtain ⟨B, hB⟩ := hm'.some_ i k hk'
      grind
  · intro i j k hi hj hki hkj
    have hTi : Own hr i ∨ h.length ≤ i := by
      grind
    have hTj : Own hr j ∨ h.length ≤ j := by
      grind
    exact hm'.apart i j k (hki.elim (fun h => h.2) (fun h => absurd hTi h.1)) (hkj.elim (fun h => h.2) (fun h => absurd hTj h.1))

/-- a row lent to be read -/
def frzSB (z : Bool) : SB R → SB R
  | .inr (.inl (t, r)) => match z with
    | true => .inr (.inr (.inl r))
    | false => .inr (.inl (t, r))
  | B => B
def locHp (z : Nat → Bool) (u : Nat → Nat) (h : Hp R) : Nat → List Nat → Hp R
  | _, [] => []
  | i, b :: l => (match at2 h b with
    | some B => some (mvSB u (frzSB (z i) B))
    | none => none) :: locHp z u h (i + 1) l
def selOk (s : List Nat) (h : Hp R) : List Nat → Bool
  | [] => true
  | b :: l => Nat.blt b h.length && (match at2 h b with
    | some (.inl (_, cs)) => onL (mem s) cs
    | _ => true) && selOk s h l
def nub : List Nat → List Nat → List Nat
  | [], _ => []
  | a :: l, seen => if mem seen a then nub l seen else a :: nub l (a :: seen)
def outOf (s : List Nat) (n i : Nat) : Nat := if Nat.blt i s.length then nth s i else n + (i - s.length)
def mvO (f : Nat → Nat) : Option (SB R) → Option (SB R)
  | some B => some (mvSB f B)
  | none => none
def backHp (s : List Nat) (f : Nat → Nat) (hl hx : Hp R) : Nat → Hp R → Hp R
  | _, [] => []
  | b, x :: h => (if mem s b && ownAt hl (pos s b) then mvO f (at2 hx (pos s b)) else x) :: backHp s f hl hx (b + 1) h
def newHp (f : Nat → Nat) : Hp R → Hp R
  | [] => []
  | x :: l => mvO f x :: newHp f l
/-- a contract on a few blocks, on any heap: z tells which rows are lent to be read, d how far what is seen goes -/
def liftP (z : Nat → Bool) (d : Nat) (spec : Prim R) : Prim R := fun args h =>
  fNs (nub (reach h d (blksL args)) []) fun s =>
    if onL (mem s) args && selOk s h s && nodupB s then
      fHp (locHp z (pos s) h 0 s) fun hl =>
        match spec (mvL (pos s) args) hl with
        | some x => if backOk hl x.hp && inb x.hp.length x.v then
            some ⟨x.vc, mvV (outOf s h.length) x.v, x.lit, backHp s (outOf s h.length) hl x.hp 0 h ++ newHp (outOf s h.length) (x.hp.drop s.length), [], match x.wr with
              | [] => []
              | _ => [(0, 0)]⟩
          else none
        | none => none
    else none
def liftW (z : Nat → Bool) (d : Nat) (when : List Value → Hp R → Option Bool) (args : List Value) (h : Hp R) : Option Bool :=
  fNs (nub (reach h d (blksL args)) []) fun s => fHp (locHp z (pos s) h 0 s) fun hl => when (mvL (pos s) args) hl
def liftC (z : Nat → Bool) (d : Nat) (c : Con R) : Con R := ⟨liftW z d c.when, liftP z d c.yes, liftP z d c.no⟩
mutual
theorem on_mv {p q : Nat → Bool} {s : Nat → Nat} (h : ∀ i, p i = true → q (s i) = true) : ∀ v, onV p v = true → onV q (mvV s v) = true
  | .pointer (some a), hv => by exact onA_mv h hv
  | .pointer none, _ => by rfl
  | .slice (some a) k c, hv => by exact onA_mv h hv
  | .slice none _ _, _ => by rfl
  | .map (some r), hv => by grind[mvV,onV]
  | .map none, _ => by rfl
  | .chan (some r), hv => by grind[mvV,onV]
  | .chan none, _ => by rfl
  | .agg ⟨l⟩, hv => by exact onL_mv h l hv
  | .tuple ⟨l⟩, hv => by exact onL_mv h l hv
  | .func fn ⟨f⟩ ⟨c⟩, hv => by
    simp only [mvV, onV, Bool.and_eq_true] at *
    exact ⟨onL_mv h f hv.1, onL_mv h c hv.2⟩
  | .iface t v, hv => by exact on_mv h v hv
  | .int _ _, _ => by rfl
  | .bool _, _ => by rfl
  | .string _, _ => by rfl
  | .float _ _, _ => by rfl
  | .complex _ _ _, _ => by rfl
  | .nilFunc, _ => by rfl
  | .nilIface, _ => by rfl
theorem onL_mv {p q : Nat → Bool} {s : Nat → Nat} (h : ∀ i, p i = true → q (s i) = true) : ∀ l, onL p l = true → onL q (mvL s l) = true
  | [], _ => by rfl
  | v :: l, hv => by
    simp only [onL, Bool.and_eq_true] at hv
    simp only [mvL, onL, Bool.and_eq_true]
    exact ⟨on_mv h v hv.1, onL_mv h l hv.2⟩
theorem onA_mv {p q : Nat → Bool} {s : Nat → Nat} (h : ∀ i, p i = true → q (s i) = true) {a : Addr} (ha : onA p a = true) : onA q (mvA s a) = true := by
  have h1 := (onA_block ha).1
  have h2 := (onA_block ha).2
  obtain ⟨b, o, t⟩ := a
  cases t with
  | none => exact h b h1
  | some t =>
    grind[onQ_mv,mvA,onA]
end
theorem locHp_get {z : Nat → Bool} {u : Nat → Nat} {h : Hp R} : ∀ {l : List Nat} {i0 i : Nat}, (locHp z u h i0 l).length = l.length ∧ (i < l.length → (locHp z u h i0 l)[i]? = some (match at2 h (nth l i) with
    | some B => some (mvSB u (frzSB (z (i0 + i)) B))
    | none => none))
  | [], i0, i => ⟨rfl, fun h => by simp at h⟩
  | b :: l, i0, i => by
    obtain ⟨h1, h2⟩ := locHp_get (z := z) (u := u) (h := h) (l := l) (i0 := i0 + 1) (i := i - 1)
    refine ⟨by simp [locHp, h1], fun hl => ?_⟩
    cases i with
    | zero => rfl
    | succ i =>
      grind[locHp,nth]
theorem selOk_get {s : List Nat} {h : Hp R} : ∀ {l : List Nat} {b : Nat}, selOk s h l = true → b ∈ l → b < h.length ∧ ∀ t cs, at2 h b = some (.inl (t, cs)) → onL (mem s) cs = true
  | [], b, _, hb => by cases hb
  | a :: l, b, hs, hb => by
    simp only [selOk, Bool.and_eq_true, Nat.blt_eq] at hs
    rcases List.mem_cons.1 hb with rfl | hb
    · grind
    · exact selOk_get hs.2 hb
theorem backHp_get {s : List Nat} {f : Nat → Nat} {hl hx : Hp R} : ∀ {h : Hp R} {b0 b : Nat}, (backHp s f hl hx b0 h).length = h.length ∧ (b < h.length → (backHp s f hl hx b0 h)[b]? = some (if mem s (b0 + b) && ownAt hl (pos s (b0 + b)) then mvO f (at2 hx (pos s (b0 + b))) else at2 h b))
  | [], b0, b => ⟨rfl, fun h => by simp at h⟩
  | x :: h, b0, b => by
    obtain ⟨h1, h2⟩ := backHp_get (s := s) (f := f) (hl := hl) (hx := hx) (h := h) (b0 := b0 + 1) (b := b - 1)
    refine ⟨by simp [backHp, h1], fun hlt => ?_⟩
    cases b with
    | zero => rfl
    | succ b =>
      grind[backHp,at2]
theorem newHp_get {f : Nat → Nat} : ∀ {l : Hp R} {i : Nat}, (newHp f l).length = l.length ∧ (newHp f l)[i]? = (l[i]?).map (mvO f)
  | [], i => ⟨rfl, by rfl⟩
  | x :: l, i => by
    obtain ⟨h1, h2⟩ := newHp_get (f := f) (l := l) (i := i - 1)
    grind[newHp]
end
end Go.Proofs.YtobdpddamdkabaaDoor.Rx
namespace Go.Proofs.YtobdpddamdkabaaDoor.Rx
open Go.RowKit Go.Proofs.YtobdpddamdkabaaDoor.State
set_option linter.unusedVariables false
set_option linter.unusedSimpArgs false
def isLoop : Option Code → Bool
  | some (.loop _) => true
  | _ => false
section
variable {R : Type} {D : Res R} {P : Program} {C : Ctx} {w : World}
def tagT : List (Option Value) → List (Option Value)
  | [] => []
  | some v :: l => some (tagV v) :: tagT l
  | none :: l => none :: tagT l
theorem tagT_get {k : Nat} {u : Nat → Nat} {tm : List (Option Value)} : ∀ {ts : List Nat} {vs : List Value} {i : Nat} {v : Value}, tagT (vals tm ts) = tagT (someL (dnL k (mvL u vs))) → slot ts vs i = some v → ∃ v', tm[i]? = some (some v') ∧ tagV v' = tagV (dnV k (mvV u v))
  | [], _, i, v, _, h => by simp [slot] at h
  | _ :: _, [], i, v, _, h => by simp [slot] at h
  | t :: ts, x :: vs, i, v, hv, h => by
    simp only [vals, someL, mvL, dnL] at hv
    simp only [slot] at h
    cases hm : tm[t]? with
    | none => grind[tagT]
    | some o =>
      cases o with
      | none => grind[tagT]
      | some v' =>
        rw [hm] at hv
        injection hv with h1 h2
        injection h1 with h1
        split at h
        · simp_all
        · exact tagT_get h2 h
/-- the slots ts hold vs, the heap has h, under other numbers -/
structure FitsM (R : Type) (n0 N : Nat) (ts : List Nat) (vs : List Value) (h : Hp R) (tv : List (Option Value)) (hp : Hp R) (tl : Nat) : Prop where
  ex : ∃ s : List Nat, tagT tv = tagT (someL (dnL hp.length (mvL (nth s) vs))) ∧ Pulls hp.length (nth s) hp 0 h ∧ nodupB (hits hp.length (nth s) 0 h) = true ∧ allLt (fun i => Nat.beq (nth s i) i) n0 = true ∧ Nat.ble n0 hp.length = true ∧ tl = N
theorem slot_map {k : Nat} {u : Nat → Nat} : ∀ {ts : List Nat} {vs : List Value} {i : Nat} {v : Value}, slot ts vs i = some v → slot ts (dnL k (mvL u vs)) i = some (dnV k (mvV u v))
  | [], _, i, v, h => by simp [slot] at h
  | _ :: _, [], i, v, h => by simp [slot] at h
  | t :: ts, x :: vs, i, v, h => by
    simp only [slot, mvL, dnL] at h ⊢
    split at h
    · grind
    · rename_i hb
      rw [if_neg hb]
      exact slot_map h
theorem slot_mem : ∀ {ts : List Nat} {vs : List Value} {i : Nat} {v : Value}, slot ts vs i = some v → v ∈ vs
  | [], _, i, v, h => by simp [slot] at h
  | _ :: _, [], i, v, h => by simp [slot] at h
  | t :: ts, x :: vs, i, v, h => by
    simp only [slot] at h
    split at h
    · grind
    · exact List.mem_cons_of_mem _ (slot_mem h)
theorem M.weakM {σ : SS R} {a : Act} {n0 N : Nat} {ts : List Nat} {vs : List Value} {h : Hp R} (hC : C.n0 = n0) (hm : M D C σ a w) (hf : FitsM R n0 N ts vs h (vals σ.tm ts) σ.hp σ.tm.length) (hv : inbL h.length vs = true) (hi : hpIn h.length h = true) : M D C ⟨frame ts vs 0 N, [], h⟩ a w := by
  obtain ⟨ρ, ft, h0, h1, h2⟩ := hm.ex
  obtain ⟨s, f1, f2, f3, f4, f5, f6⟩ := hf.ex
  refine ⟨hm.defers, fun t b hb => (by cases hb), fun b => plusE ρ σ.hp.length (nth s b), _, fun i hi' => ?_, ⟨?_, fun t v ht => ?_⟩, h2.pulled f2 f3 hi⟩
  · have := allLt_get f4 (by omega : i < n0)
    show plusE ρ σ.hp.length (nth s i) = C.e0 i
    rw [Nat.eq_of_beq_eq_true this]
    have := Nat.le_of_ble_eq_true f5
    grind[plus_lt]
  · rw [h1.size, f6, (frame_get ts vs N 0 0).1]
  · have hl : t < N := by have := (List.getElem?_eq_some_iff.1 ht).1; rw [(frame_get ts vs N 0 0).1] at this; exact this
    rw [(frame_get ts vs N 0 t).2 hl, Nat.zero_add] at ht
    injection ht with ht
    obtain ⟨v', g1, e1⟩ := tagT_get f1 ht
    obtain ⟨g2, g3⟩ := h1.val t _ g1
    refine ⟨?_, inbL_iff.1 hv v (slot_mem ht)⟩
    have g4 : inb σ.hp.length (dnV σ.hp.length (mvV (nth s) v)) = true := by rw [← inb_tagV, ← e1, inb_tagV]; exact g3
    rw [g2, ← ren_tagV ρ v', e1, ren_tagV, ren_dn _ g4, ren_mv]
/-- a loop, by what holds at its head -/
theorem loop_atM {root : Code} {n0 : Nat} {k : Exit → SS R → Prop} {p : List Nat} {r : List (It R)} {σ : SS R} (hc : isLoop (codeAt root p) = true) {ι : Type} (I : ι → Prop) (ts : List Nat) (V : ι → List Value) (H : ι → Hp R) (μ : ι → Nat) (N : Nat)
    (hin : ∀ i, I i → inbL (H i).length (V i) = true ∧ hpIn (H i).length (H i) = true ∧ n0 ≤ (H i).length)
    (h0 : ∃ i, I i ∧ FitsM R n0 N ts (V i) (H i) (vals σ.tm ts) σ.hp σ.tm.length)
    (step : ∀ i, I i → At D P root n0 k (.inl (p ++ [0]) :: .inr (.inr fun σ' => ∃ j, I j ∧ μ j < μ i ∧ FitsM R n0 N ts (V j) (H j) (vals σ'.tm ts) σ'.hp σ'.tm.length) :: r) ⟨frame ts (V i) 0 N, [], H i⟩) :
    At D P root n0 k (.inl p :: r) σ := by
  have hc' : ∃ body, codeAt root p = some (.loop body) := by
    unfold isLoop at hc
    grind
  obtain ⟨body, hc⟩ := hc'
  refine ⟨fun C a w hC hn hm => ?_⟩
  simp only [stk, hc]
  obtain ⟨i0, hI0, hf0⟩ := h0
  obtain ⟨q1, q2, _⟩ := hin i0 hI0
  have key : ∀ (i : ι) (a : Act) (w : World), I i → M D C ⟨frame ts (V i) 0 N, [], H i⟩ a w → (Code.loop body).wp P (stk D P C root k r) a w := by
    intro i a w hI hM
    have least : ∀ (a : Act) (w : World), (∃ i, I i ∧ M D C ⟨frame ts (V i) 0 N, [], H i⟩ a w) →
        ∃ n i, μ i = n ∧ I i ∧ M D C ⟨frame ts (V i) 0 N, [], H i⟩ a w ∧ ∀ j, I j → M D C ⟨frame ts (V j) 0 N, [], H j⟩ a w → n ≤ μ j := by
      intro a w ⟨i, hI, hM⟩
      have : ∀ (n : Nat) (i : ι), μ i = n → I i → M D C ⟨frame ts (V i) 0 N, [], H i⟩ a w → ∃ n i, μ i = n ∧ I i ∧ M D C ⟨frame ts (V i) 0 N, [], H i⟩ a w ∧ ∀ j, I j → M D C ⟨frame ts (V j) 0 N, [], H j⟩ a w → n ≤ μ j := by
        intro n
        induction n using Nat.strongRecOn with
        | _ n ih =>
          grind
      grind
    have spec := fun a w h => Classical.epsilon_spec (p := fun n => ∃ i, μ i = n ∧ I i ∧ M D C ⟨frame ts (V i) 0 N, [], H i⟩ a w ∧ ∀ j, I j → M D C ⟨frame ts (V j) 0 N, [], H j⟩ a w → n ≤ μ j) (least a w h)
    refine wp_loop (fun a w => ∃ i, I i ∧ M D C ⟨frame ts (V i) 0 N, [], H i⟩ a w) (fun a w => Classical.epsilon fun n => ∃ i, μ i = n ∧ I i ∧ M D C ⟨frame ts (V i) 0 N, [], H i⟩ a w ∧ ∀ j, I j → M D C ⟨frame ts (V j) 0 N, [], H j⟩ a w → n ≤ μ j) ⟨i, hI, hM⟩ ?_
    intro a w ⟨i, hI, hM⟩
    obtain ⟨i', e1, hI', hM', hmin⟩ := spec a w ⟨i, hI, hM⟩
    obtain ⟨_, _, hn'⟩ := hin i' hI'
    have hbody := (step i' hI').run C a w hC hn' hM'
    simp only [stk] at hbody
    rw [show codeAt root (p ++ [0]) = some body by simp_all[codeAt_append,codeAt]] at hbody
    refine wp_mono hbody fun e a' w' h => ?_
    cases e with
    | normal =>
      obtain ⟨σ', ⟨j, hJ, hlt, hfit⟩, _, hM2⟩ := h
      obtain ⟨g1, g2, _⟩ := hin j hJ
      have hM3 := hM2.weakM hC hfit g1 g2
      refine ⟨⟨j, hJ, hM3⟩, ?_⟩
      obtain ⟨i2, e2, _, _, hmin2⟩ := spec a' w' ⟨j, hJ, hM3⟩
      grind
    | _ => exact h
  exact key i0 a w hI0 (hm.weakM hC hf0 q1 q2)
theorem exitTo_len {id : Nat} : ∀ {l l' : List Item}, exitTo id l = some l' → l'.length ≤ l.length
  | [], l', h => by simp [exitTo] at h
  | x :: l, l', h => by
    have ih : exitTo id l = some l' → l'.length ≤ (x :: l).length := fun h => by
      have := exitTo_len h
      grind
    cases x with
    | inBlock i =>
      simp only [exitTo] at h
      grind
    | _ => exact ih (by simpa [exitTo] using h)
theorem stk_bad {root : Code} {k : Exit → SS R → Prop} {e : Exit} {a : Act} (h1 : e ≠ .normal) (h2 : ∀ id, e ≠ .exit id) : ∀ {todo : List (It R)}, stk D P C root k todo e a w → ∃ σ, k e σ
  | [], h => ⟨_, h.choose_spec.1⟩
  | .inl p :: r, h => by
    cases e with
    | normal => grind
    | exit id => grind
    | _ => exact stk_bad h1 h2 (todo := r) h
  | .inr (.inl i) :: r, h => by
    cases e with
    | normal => grind
    | exit id => grind
    | _ => exact stk_bad h1 h2 (todo := r) h
  | .inr (.inr J) :: r, h => by
    cases e with
    | normal => grind
    | exit id => grind
    | _ => exact stk_bad h1 h2 (todo := r) h
theorem steps_past {m m1 x : Machine} (hs : step P m = .next m1) (h : Steps P m x) (hne : m ≠ x) : Steps P m1 x := by
  obtain ⟨n, hn⟩ := h
  cases n with
  | zero => simp only [runN] at hn; grind
  | succ n =>
    refine ⟨n, ?_⟩
    simp only [runN, hs] at hn
    exact hn
theorem lone_todo {w w' : World} {b : Frame} {a a' : Act} {l l' : List Item} {cs : List Frame} {m : FrameMode} (h : lone (b.at a l) cs w = lone { b.at a' l' with mode := m } cs w') : l = l' ∧ m = .run := by
  simp only [lone, Frame.at, Machine.mk.injEq, Array.mk.injEq, List.cons.injEq, Goroutine.mk.injEq, Frame.mk.injEq] at h
  grind
/-- a loop's first round -/
theorem loop_round {root : Code} {n0 : Nat} {k : Exit → SS R → Prop} {p : List Nat} {r : List (It R)} {σ : SS R} (hc : isLoop (codeAt root p) = true)
    (hk : ∀ e σ, k e σ → e = .ret ∨ e = .normal)
    (h : At D P root n0 k (.inl (p ++ [0]) :: .inl p :: r) σ) : At D P root n0 k (.inl p :: r) σ := by
  have hc' : ∃ body, codeAt root p = some (.loop body) := by
    unfold isLoop at hc
    grind
  obtain ⟨body, hc⟩ := hc'
  refine ⟨fun C a w hC hn hm => ?_⟩
  have h1 := h.run C a w hC hn hm
  simp only [stk, hc] at h1 ⊢
  rw [show codeAt root (p ++ [0]) = some body by simp_all[codeAt_append,codeAt]] at h1
  intro b kk cs
  obtain ⟨e, a₁, w₁, hq, harr⟩ := h1 b (.inLoop body :: kk) cs
  cases e with
  | normal =>
    obtain ⟨e₂, a₂, w₂, hq₂, harr₂⟩ := hq b kk cs
    have bad : (e₂ ≠ .normal) → (∀ id, e₂ ≠ .exit id) → e₂ ≠ .ret → False := fun h1 h2 h3 => by
      obtain ⟨σ', hσ⟩ := stk_bad h1 h2 hq₂
      grind
    refine ⟨e₂, a₂, w₂, hq₂, .of_steps (Steps.trans (.one step_loop) (Steps.trans harr (.one step_inLoop))) ?_⟩
    cases e₂ with
    | normal => exact steps_past step_loop harr₂ (fun e => by
        have := congrArg List.length (lone_todo (m := .run) e).1
        grind)
    | exit id => exact fun k' hk' => steps_past step_loop (harr₂ k' hk') (fun e => by
        have := congrArg List.length (lone_todo (m := .run) e).1
        have := exitTo_len hk'
        grind)
    | ret =>
      obtain ⟨todo, hs⟩ := harr₂
      exact ⟨todo, steps_past step_loop hs (fun e => by
        grind[lone_todo])⟩
    | goto l => grind
    | panic ch => grind
    | outgrown => grind
  | exit id => exact ⟨_, a₁, w₁, hq, .of_steps (.one step_loop) (.pass (x := .inLoop body) rfl (fun _ _ => .inl (by simp)) harr)⟩
  | goto l => exact ⟨_, a₁, w₁, hq, .of_steps (.one step_loop) (.pass (x := .inLoop body) rfl (fun _ _ => .inl (by simp)) harr)⟩
  | ret => exact ⟨_, a₁, w₁, hq, .of_steps (.one step_loop) (.pass (x := .inLoop body) rfl (fun _ _ => .inl (by simp)) harr)⟩
  | panic ch => exact ⟨_, a₁, w₁, hq, .of_steps (.one step_loop) (.pass (x := .inLoop body) rfl (fun _ _ => .inl (by simp)) harr)⟩
  | outgrown => exact ⟨_, a₁, w₁, hq, .of_steps (.one step_loop) (.pass (x := .inLoop body) rfl (fun _ _ => .inl (by simp)) harr)⟩
theorem retK_only {rs : List ResultVar} {G : Value → Hp R → Prop} : ∀ (e : Exit) (σ : SS R), retK P rs G e σ → e = .ret ∨ e = .normal := by
  intro e σ h
  cases e with
  | ret => simp
  | normal => simp
  | _ => exact h.out.elim
end
end Go.Proofs.YtobdpddamdkabaaDoor.Rx
namespace Go.Proofs.YtobdpddamdkabaaDoor.Rx
open Go.RowKit Go.Proofs.YtobdpddamdkabaaDoor.State
set_option linter.unusedVariables false
set_option linter.unusedSimpArgs false
section
variable {R : Type} {D : Res R} {P : Program} {T : Tab R} {C : Ctx} {w w' : World}
def eqP : List Nat → List Nat → Bool
  | [], [] => true
  | a :: l, b :: r => Nat.beq a b && eqP l r
  | _, _ => false
def memP : List (List Nat) → List Nat → Bool
  | [], _ => false
  | q :: l, p => eqP q p || memP l p
/-- the like, up to the places S, too -/
def rxS (S : List (List Nat)) (D : Res R) (P : Program) (T : Tab R) (root : Code) (n0 : Nat) (k : Exit → SS R → Prop) : Nat → List (It R) → SS R → Prop
  | 0, todo, σ => At D P root n0 k todo σ
  | n + 1, todo, σ =>
    match todo with
    | [] => k .normal σ
    | .inr (.inl _) :: r => rxS S D P T root n0 k n r σ
    | .inr (.inr J) :: r => Post (J σ)
    | .inl p :: r =>
      if memP S p then At D P root n0 k (.inl p :: r) σ else
      match codeAt root p with
      | none => Stuck 5
      | some c =>
        match c with
        | .skip => rxS S D P T root n0 k n r σ
        | .label _ => rxS S D P T root n0 k n r σ
        | .seq _ _ => rxS S D P T root n0 k n (.inl (p ++ [0]) :: .inl (p ++ [1]) :: r) σ
        | .block id _ => rxS S D P T root n0 k n (.inl (p ++ [0]) :: .inr (.inl id) :: r) σ
        | .cond x _ _ =>
          match litOf σ.li x with
          | some true => rxS S D P T root n0 k n (.inl (p ++ [0]) :: r) σ
          | some false => rxS S D P T root n0 k n (.inl (p ++ [1]) :: r) σ
          | none =>
            match x with
            | .tmp t => match σ.tm[t]? with
              | some (some (.bool b)) =>
                (b = true → fSS (assume σ t true) fun σ => rxS S D P T root n0 k n (.inl (p ++ [0]) :: r) σ) ∧
                (b = false → fSS (assume σ t false) fun σ => rxS S D P T root n0 k n (.inl (p ++ [1]) :: r) σ)
              | _ => Stuck 6
            | _ => Stuck 7
        | .exit id =>
          match popTo id r with
          | some r' => rxS S D P T root n0 k n r' σ
          | none => k (.exit id) σ
        | .ret => k .ret σ
        | .region _ ⟨ops⟩ false => rxList P T ops ops σ fun σ' => rxS S D P T root n0 k n r σ'
        | .region _ ⟨ops⟩ true => rxDraw P T ops σ (fun σ' => rxS S D P T root n0 k n r σ') (ops.length + 1) []
        | _ => At D P root n0 k (.inl p :: r) σ
theorem rxS_ok (S : List (List Nat)) (hT : TabOk D P T) (hmx : P.follows .mixedOrders = true) {root : Code} {n0 : Nat} {k : Exit → SS R → Prop} : ∀ (n : Nat) {todo : List (It R)} {σ : SS R}, rxS S D P T root n0 k n todo σ → At D P root n0 k todo σ
  | 0, todo, σ, h => h
  | n + 1, todo, σ, h => by
    refine ⟨fun C a w hC hn hm => ?_⟩
    have ih : ∀ {todo : List (It R)} {σ : SS R} {a : Act} {w : World}, rxS S D P T root n0 k n todo σ → n0 ≤ σ.hp.length → M D C σ a w → stk D P C root k todo .normal a w := fun h hn hm => (rxS_ok S hT hmx n h).run C _ _ hC hn hm
    unfold rxS at h
    simp only [fSS_eq] at h
    split at h
    · exact ⟨σ, h, hm⟩
    · rename_i id r
      show stk D P C root k r .normal a w
      grind
    · exact ⟨σ, h.out, by omega, hm⟩
    · rename_i p r
      split at h
      · exact h.run C a w hC hn hm
      split at h
      · exact h.elim
      · rename_i c hc
        simp only [stk, hc]
        have sub : ∀ (i : Nat) (d : Code), codeAt c [i] = some d → codeAt root (p ++ [i]) = some d := fun i d hd => by grind[codeAt_append]
        split at h
        · grind[wp_skip]
        · grind[wp_label]
        · rename_i x y
          have h1 := ih h hn hm
          simp only [stk, sub 0 x (by simp [codeAt])] at h1
          refine wp_seq (wp_mono h1 fun e a' w' h2 => ?_)
          cases e with
          | normal =>
            simp only [sub 1 y (by simp [codeAt])] at h2
            exact h2
          | _ => exact h2
        · have h1 := ih h hn hm
          simp_all[stk,codeAt,wp_block]
        · rename_i x y z
          split at h
          · rename_i hl
            have h1 := ih h hn hm
            simp only [stk, sub 0 y (by simp [codeAt])] at h1
            obtain ⟨ρ, ft, _, g1, _⟩ := hm.ex
            have := (ev_eval g1 (lit_ev hm.li hl)).1
            simp_all[wp_cond_true]
          · rename_i hl
            have h1 := ih h hn hm
            simp only [stk, sub 1 z (by simp [codeAt])] at h1
            obtain ⟨ρ, ft, _, g1, _⟩ := hm.ex
            have := (ev_eval g1 (lit_ev hm.li hl)).1
            simp_all[wp_cond_false]
          · split at h
            · rename_i t _
              split at h
              · rename_i b hb
                have ht := M_li hm hb
                have he : a.eval (.tmp t) = .bool b := by simp [Act.eval, ht]
                cases b with
                | true =>
                  have h1 := ih (h.1 rfl) (by grind[assume]) (hm.assume hb)
                  grind[stk,codeAt,wp_cond_true]
                | false =>
                  have h1 := ih (h.2 rfl) (by grind[assume]) (hm.assume hb)
                  grind[stk,codeAt,wp_cond_false]
              · exact h.elim
            · exact h.elim
        · grind[wp_exit,stk_exit]
        · grind[wp_ret,stk_ret]
        · grind[wp_region_list,rxList_ok]
        · grind[draw_ok]
        · have := h.run C a w hC hn hm
          grind[stk]
/-- what holds in between -/
theorem cut_atM {root : Code} {n0 : Nat} {k : Exit → SS R → Prop} {p : List Nat} {r : List (It R)} {σ : SS R} {ι : Type} (I : ι → Prop) (ts : List Nat) (V : ι → List Value) (H : ι → Hp R) (N : Nat)
    (hin : ∀ i, I i → inbL (H i).length (V i) = true ∧ hpIn (H i).length (H i) = true ∧ n0 ≤ (H i).length)
    (first : At D P root n0 k (.inl p :: .inr (.inr fun σ' => ∃ j, I j ∧ FitsM R n0 N ts (V j) (H j) (vals σ'.tm ts) σ'.hp σ'.tm.length) :: r) σ)
    (rest : ∀ j, I j → At D P root n0 k r ⟨frame ts (V j) 0 N, [], H j⟩) : At D P root n0 k (.inl p :: r) σ := by
  refine ⟨fun C a w hC hn hm => ?_⟩
  have h1 := first.run C a w hC hn hm
  simp only [stk] at h1 ⊢
  split at h1
  · refine wp_mono h1 fun e a' w' h => ?_
    cases e with
    | normal =>
      obtain ⟨σ', ⟨j, hJ, hfit⟩, _, hM2⟩ := h
      obtain ⟨g1, g2, g3⟩ := hin j hJ
      exact (rest j hJ).run C a' w' hC g3 (hM2.weakM hC hfit g1 g2)
    | _ => exact h
  omega
/-- truths that are known -/
theorem At.know {root : Code} {n0 : Nat} {k : Exit → SS R → Prop} {todo : List (It R)} {tm : List (Option Value)} {li : List (Nat × Bool)} {hp : Hp R} (li' : List (Nat × Bool)) (hl : ∀ x ∈ li', tm[x.1]? = some (some (.bool x.2)))
    (h : At D P root n0 k todo ⟨tm, li', hp⟩) : At D P root n0 k todo ⟨tm, li, hp⟩ :=
  ⟨fun C a w hC hn hm => h.run C a w hC hn ⟨hm.defers, fun t b hb => hl (t, b) hb, hm.ex⟩⟩
end
end Go.Proofs.YtobdpddamdkabaaDoor.Rx
namespace Go.Proofs.YtobdpddamdkabaaDoor.Rx
open Go.RowKit Go.Proofs.YtobdpddamdkabaaDoor.State
set_option linter.unusedVariables false
set_option linter.unusedSimpArgs false
def findP : List (List Nat × List Nat) → List Nat → Option (List Nat)
  | [], _ => none
  | (q, ts) :: l, p => match eqP q p with
    | true => some ts
    | false => findP l p
def keepT (ts : List Nat) : Nat → List (Option Value) → List (Option Value)
  | _, [] => []
  | i, x :: l => (match mem ts i with
    | true => x
    | false => none) :: keepT ts (i + 1) l
section
variable {R : Type} {D : Res R} {P : Program} {T : Tab R} {C : Ctx} {w w' : World}
theorem keepT_get (ts : List Nat) : ∀ (l : List (Option Value)) (i j : Nat), (keepT ts i l).length = l.length ∧ ∀ v, (keepT ts i l)[j]? = some (some v) → l[j]? = some (some v)
  | [], i, j => ⟨rfl, fun v h => by simp [keepT] at h⟩
  | x :: l, i, j => by
    obtain ⟨h1, h2⟩ := keepT_get ts l (i + 1) (j - 1)
    grind[keepT]
theorem M.keep {σ : SS R} {a : Act} {ts : List Nat} (hm : M D C σ a w) : M D C ⟨keepT ts 0 σ.tm, [], σ.hp⟩ a w := by
  obtain ⟨ρ, ft, h0, h1, h2⟩ := hm.ex
  exact ⟨hm.defers, fun t b hb => (by cases hb), ρ, ft, h0, ⟨by rw [h1.size, (keepT_get ts σ.tm 0 0).1], fun t v ht => h1.val t v ((keepT_get ts σ.tm 0 t).2 v ht)⟩, h2⟩
/-- the like, up to the places S, too -/
def rxK (S : List (List Nat × List Nat)) (D : Res R) (P : Program) (T : Tab R) (root : Code) (n0 : Nat) (k : Exit → SS R → Prop) : Nat → List (It R) → SS R → Prop
  | 0, todo, σ => At D P root n0 k todo σ
  | n + 1, todo, σ =>
    match todo with
    | [] => k .normal σ
    | .inr (.inl _) :: r => rxK S D P T root n0 k n r σ
    | .inr (.inr J) :: r => Post (J σ)
    | .inl p :: r =>
      match findP S p with
      | some ts => At D P root n0 k (.inl p :: r) ⟨keepT ts 0 σ.tm, [], σ.hp⟩
      | none =>
      match codeAt root p with
      | none => Stuck 5
      | some c =>
        match c with
        | .skip => rxK S D P T root n0 k n r σ
        | .label _ => rxK S D P T root n0 k n r σ
        | .seq _ _ => rxK S D P T root n0 k n (.inl (p ++ [0]) :: .inl (p ++ [1]) :: r) σ
        | .block id _ => rxK S D P T root n0 k n (.inl (p ++ [0]) :: .inr (.inl id) :: r) σ
        | .cond x _ _ =>
          match litOf σ.li x with
          | some true => rxK S D P T root n0 k n (.inl (p ++ [0]) :: r) σ
          | some false => rxK S D P T root n0 k n (.inl (p ++ [1]) :: r) σ
          | none =>
            match x with
            | .tmp t => match σ.tm[t]? with
              | some (some (.bool b)) =>
                (b = true → fSS (assume σ t true) fun σ => rxK S D P T root n0 k n (.inl (p ++ [0]) :: r) σ) ∧
                (b = false → fSS (assume σ t false) fun σ => rxK S D P T root n0 k n (.inl (p ++ [1]) :: r) σ)
              | _ => Stuck 6
            | _ => Stuck 7
        | .exit id =>
          match popTo id r with
          | some r' => rxK S D P T root n0 k n r' σ
          | none => k (.exit id) σ
        | .ret => k .ret σ
        | .region _ ⟨ops⟩ false => rxList P T ops ops σ fun σ' => rxK S D P T root n0 k n r σ'
        | .region _ ⟨ops⟩ true => rxDraw P T ops σ (fun σ' => rxK S D P T root n0 k n r σ') (ops.length + 1) []
        | _ => At D P root n0 k (.inl p :: r) σ
theorem rxK_ok (S : List (List Nat × List Nat)) (hT : TabOk D P T) (hmx : P.follows .mixedOrders = true) {root : Code} {n0 : Nat} {k : Exit → SS R → Prop} : ∀ (n : Nat) {todo : List (It R)} {σ : SS R}, rxK S D P T root n0 k n todo σ → At D P root n0 k todo σ
  | 0, todo, σ, h => h
  | n + 1, todo, σ, h => by
    refine ⟨fun C a w hC hn hm => ?_⟩
    have ih : ∀ {todo : List (It R)} {σ : SS R} {a : Act} {w : World}, rxK S D P T root n0 k n todo σ → n0 ≤ σ.hp.length → M D C σ a w → stk D P C root k todo .normal a w := fun h hn hm => (rxK_ok S hT hmx n h).run C _ _ hC hn hm
    unfold rxK at h
    simp only [fSS_eq] at h
    split at h
    · exact ⟨σ, h, hm⟩
    · rename_i id r
      show stk D P C root k r .normal a w
      grind
    · exact ⟨σ, h.out, by omega, hm⟩
    · rename_i p r
      split at h
      · exact h.run C a w hC hn hm.keep
      split at h
      · exact h.elim
      · rename_i c hc
        simp only [stk, hc]
        have sub : ∀ (i : Nat) (d : Code), codeAt c [i] = some d → codeAt root (p ++ [i]) = some d := fun i d hd => by grind[codeAt_append]
        split at h
        · grind[wp_skip]
        · grind[wp_label]
        · rename_i x y
          have h1 := ih h hn hm
          simp only [stk, sub 0 x (by simp [codeAt])] at h1
          refine wp_seq (wp_mono h1 fun e a' w' h2 => ?_)
          cases e with
          | normal =>
            simp only [sub 1 y (by simp [codeAt])] at h2
            exact h2
          | _ => exact h2
        · have h1 := ih h hn hm
          simp_all[stk,codeAt,wp_block]
        · rename_i x y z
          split at h
          · rename_i hl
            have h1 := ih h hn hm
            simp only [stk, sub 0 y (by simp [codeAt])] at h1
            obtain ⟨ρ, ft, _, g1, _⟩ := hm.ex
            have := (ev_eval g1 (lit_ev hm.li hl)).1
            simp_all[wp_cond_true]
          · rename_i hl
            have h1 := ih h hn hm
            simp only [stk, sub 1 z (by simp [codeAt])] at h1
            obtain ⟨ρ, ft, _, g1, _⟩ := hm.ex
            have := (ev_eval g1 (lit_ev hm.li hl)).1
            simp_all[wp_cond_false]
          · split at h
            · rename_i t _
              split at h
              · rename_i b hb
                have ht := M_li hm hb
                have he : a.eval (.tmp t) = .bool b := by simp [Act.eval, ht]
                cases b with
                | true =>
                  have h1 := ih (h.1 rfl) (by grind[assume]) (hm.assume hb)
                  grind[stk,codeAt,wp_cond_true]
                | false =>
                  have h1 := ih (h.2 rfl) (by grind[assume]) (hm.assume hb)
                  grind[stk,codeAt,wp_cond_false]
              · exact h.elim
            · exact h.elim
        · grind[wp_exit,stk_exit]
        · grind[wp_ret,stk_ret]
        · grind[wp_region_list,rxList_ok]
        · grind[draw_ok]
        · have := h.run C a w hC hn hm
          grind[stk]
/-- what is known, under other numbers -/
theorem At.fit {root : Code} {n0 : Nat} {k : Exit → SS R → Prop} {todo : List (It R)} {σ : SS R} (ts : List Nat) (V : List Value) (H : Hp R) (N : Nat) (hin : inbL H.length V = true ∧ hpIn H.length H = true ∧ n0 ≤ H.length)
    (hf : FitsM R n0 N ts V H (vals σ.tm ts) σ.hp σ.tm.length) (h : At D P root n0 k todo ⟨frame ts V 0 N, [], H⟩) : At D P root n0 k todo σ :=
  ⟨fun C a w hC _ hm => h.run C a w hC hin.2.2 (hm.weakM hC hf hin.1 hin.2.1)⟩
end
end Go.Proofs.YtobdpddamdkabaaDoor.Rx
namespace Go.Proofs.YtobdpddamdkabaaDoor.Rx
open Go.RowKit Go.Proofs.YtobdpddamdkabaaDoor.State
set_option linter.unusedVariables false
set_option linter.unusedSimpArgs false
section
variable {R : Type} {D : Res R} {P : Program} {T : Tab R}
/-- what a lifted contract yields -/
theorem liftP_out {z : Nat → Bool} {d : Nat} {spec : Prim R} {args : List Value} {h : Hp R} {y : Out R} (hy : liftP z d spec args h = some y) :
    ∃ s x, s = nub (reach h d (blksL args)) [] ∧ onL (mem s) args = true ∧ selOk s h s = true ∧ nodupB s = true ∧ spec (mvL (pos s) args) (locHp z (pos s) h 0 s) = some x ∧ backOk (locHp z (pos s) h 0 s) x.hp = true ∧ inb x.hp.length x.v = true ∧
      y = ⟨x.vc, mvV (outOf s h.length) x.v, x.lit, backHp s (outOf s h.length) (locHp z (pos s) h 0 s) x.hp 0 h ++ newHp (outOf s h.length) (x.hp.drop s.length), [], match x.wr with
        | [] => []
        | _ => [(0, 0)]⟩ := by
  simp only [liftP, fNs_eq, fHp_eq] at hy
  grind
theorem outOf_lt {s : List Nat} {n i : Nat} (h : i < s.length) : outOf s n i = nth s i := by grind[outOf,blt_iff]
theorem outOf_ge {s : List Nat} {n i : Nat} (h : ¬ i < s.length) : outOf s n i = n + (i - s.length) := by grind[outOf,blt_iff]
theorem mvO_some {f : Nat → Nat} {x : Option (SB R)} {X : SB R} (h : mvO f x = some X) : ∃ Y, x = some Y ∧ X = mvSB f Y := by
  cases x with
  | none => cases h
  | some Y => injection h with h; grind
theorem mvSB_view {f : Nat → Nat} {B : SB R} : isView (mvSB f B) = isView B := by
  rcases B with ⟨t, cs⟩ | B <;> rfl
theorem ownAt_own {h : Hp R} {b : Nat} : ownAt h b = true ↔ Own h b := ownAt_iff
def liftOn (z : Nat → Bool) (d : Nat) (on : List Value → Hp R → Prop) (args : List Value) (h : Hp R) : Prop :=
  on (mvL (pos (nub (reach h d (blksL args)) [])) args) (locHp z (pos (nub (reach h d (blksL args)) [])) h 0 (nub (reach h d (blksL args)) []))
theorem liftP_ok {f : FuncId} {on : List Value → Hp R → Prop} {spec : Prim R} (z : Nat → Bool) (d : Nat) (ok : PrimOk D P f on spec) : PrimOk D P f (liftOn z d on) (liftP z d spec) where
  known := ok.known
  len args h y hy := by
    grind[liftP_out,backHp_get]
  lit args h y hy b hb := by
    obtain ⟨s, x, _, _, _, _, hx, _, _, rfl⟩ := liftP_out hy
    have := ok.lit _ _ _ hx b hb
    grind[mvV]
  still args h y hy hw := by
    obtain ⟨s, x, hs0, h1, h2, h3, hx, h5, h6, rfl⟩ := liftP_out hy
    have hw' : x.wr = [] := by
      grind
    have he := ok.still _ _ _ hx hw'
    simp only [he]
    have hl0 : (locHp z (pos s) h 0 s).length = s.length := (locHp_get (i0 := 0) (i := 0)).1
    have hd : (locHp z (pos s) h 0 s).drop s.length = [] := by grind
    rw [hd]
    simp only [newHp, List.append_nil]
    apply List.ext_getElem?
    intro b
    rcases Nat.lt_or_ge b h.length with hlt | hge
    · rw [(backHp_get (b0 := 0) (b := b)).2 hlt, Nat.zero_add]
      split
      · rename_i hc
        simp only [Bool.and_eq_true] at hc
        have hm := mem_iff.1 hc.1
        obtain ⟨p1, p2⟩ := pos_nth hm
        obtain ⟨X, hX, hv⟩ := ownAt_iff.1 hc.2
        have hg := (locHp_get (z := z) (u := pos s) (h := h) (l := s) (i0 := 0) (i := pos s b)).2 p2
        rw [hX, p1] at hg
        injection hg with hg
        cases hb : at2 h b with
        | none => grind
        | some B =>
          rw [hb] at hg
          injection hg with hg
          rw [at2_of hX, at2_get hlt, hb, hg]
          simp only [mvO]
          have hfr : frzSB (z (0 + pos s b)) B = B := by
            rcases B with ⟨t, cs⟩ | ⟨t, r⟩ | r | q
            · rfl
            · cases hz : z (0 + pos s b) with
              | false => rfl
              | true =>
                grind[frzSB,mvSB,isView]
            all_goals rfl
          rw [hfr]
          rcases B with ⟨t, cs⟩ | B
          · simp only [mvSB]
            rw [mvL_mvL, mvL_id (p := mem s)]
            all_goals grind[pos_nth,mem_iff,outOf_lt,selOk_get]
          · rfl
      · rw [at2_get hlt]
    grind[backHp_get]
  run args h y hon hy C ρ ft w hm hvc hin := by
    obtain ⟨s, x, hs0, h1, h2, h3, hx, h5, h6, rfl⟩ := liftP_out hy
    unfold liftOn at hon
    rw [← hs0] at hon
    have hl0 : (locHp z (pos s) h 0 s).length = s.length := (locHp_get (i0 := 0) (i := 0)).1
    have hslt : ∀ b, b ∈ s → b < h.length := fun b hb => (selOk_get h2 hb).1
    -- what is seen, under the numbers of the whole
    let hr : Hp R := (List.range h.length).map fun b => if mem s b then (match at2 h b with
      | some B => some (frzSB (z (pos s b)) B)
      | none => none) else none
    have hrl : hr.length = h.length := by simp [hr]
    have hr_get : ∀ (b : Nat) (X : SB R), hr[b]? = some (some X) → b ∈ s ∧ ∃ B, at2 h b = some B ∧ X = frzSB (z (pos s b)) B := by
      grind[mem_iff]
    have hr_of : ∀ (b : Nat) (B : SB R), b ∈ s → at2 h b = some B → hr[b]? = some (some (frzSB (z (pos s b)) B)) := by
      intro b B hb hB
      simp only [hr, List.getElem?_map, List.getElem?_range (hslt b hb), Option.map_some, mem_iff.2 hb, if_true, hB]
    have hsub : Sub hr h := by
      intro b X hX
      obtain ⟨_, B, hB, rfl⟩ := hr_get b X hX
      have hB' := at2_some hB
      rcases B with ⟨t, cs⟩ | ⟨t, r⟩ | r | q
      · exact Or.inl hB'
      · cases hz : z (pos s b) with
        | false => exact Or.inl hB'
        | true => exact Or.inr ⟨t, r, rfl, hB'⟩
      · exact Or.inl hB'
      · exact Or.inl hB'
    have hlend := hm.lend hsub hrl 0
    -- and under numbers of its own
    have hpn : ∀ i, i < s.length → pos s (nth s i) = i := fun i hi => nth_pos h3 hi
    have hloc : HM D (lentC w hr ft ρ 0) (fun i => ρ (nth s i)) (fun b k => (∃ X, (locHp z (pos s) h 0 s)[b]? = some (some X)) ∧ (Own hr (nth s b) ∧ ft (nth s b) k)) (locHp z (pos s) h 0 s) w := by
      refine hlend.rename (nth s) (fun i X hX => Or.inl ⟨rfl, ?_⟩) fun i j X Y _ hX hY he => ?_
      · have hi : i < s.length := by grind
        have hg := (locHp_get (z := z) (u := pos s) (h := h) (l := s) (i0 := 0) (i := i)).2 hi
        rw [hX, Nat.zero_add] at hg
        injection hg with hg
        cases hb : at2 h (nth s i) with
        | none => grind
        | some B =>
          rw [hb] at hg
          injection hg with hg
          have hq := hr_of (nth s i) B (nth_mem hi) hb
          rw [hpn i hi] at hq
          refine ⟨_, hq, ?_⟩
          rw [hg]
          rcases B with ⟨t, cs⟩ | B
          · have hon' := (selOk_get h2 (nth_mem hi)).2 t cs hb
            refine ⟨rfl, ?_, ?_⟩
            · rw [map_ren_mv, ← renL_eq, ← renL_eq]
              grind[renL_on,pos_nth,mem_iff]
            grind[onL_inb,onL_mv,blt_iff,pos_nth,mem_iff]
          · rcases B with ⟨t, r⟩ | r | q
            · cases hz : z i
              · exact ⟨rfl, Or.inl rfl⟩
              · rfl
            all_goals rfl
      grind
    have hargs : args.map (ren ρ) = (mvL (pos s) args).map (ren (fun i => ρ (nth s i))) := by
      rw [map_ren_mv, ← renL_eq, ← renL_eq]
      grind[renL_on,pos_nth,mem_iff]
    rw [hargs]
    have hain : inbL (locHp z (pos s) h 0 s).length (mvL (pos s) args) = true := by
      grind[onL_inb,onL_mv,blt_iff,pos_nth,mem_iff]
    refine (ok.run _ _ _ hon hx _ _ _ w hloc hvc hain).mono fun e w' ⟨ρ', ft', g1, g2, g3⟩ => ?_
    rw [hl0] at g1
    -- back
    let tB : Nat → Nat := fun b => if mem s b then pos s b else s.length + (b - h.length)
    let ρ2 : Env := fun b => if b < h.length then ρ b else ρ' (s.length + (b - h.length))
    let hx2 : Hp R := (List.range (h.length + (x.hp.length - s.length))).map fun b => if b < h.length then (if mem s b then mvO (outOf s h.length) (at2 x.hp (pos s b)) else none) else mvO (outOf s h.length) (at2 x.hp (s.length + (b - h.length)))
    have hx2l : hx2.length = h.length + (x.hp.length - s.length) := by simp [hx2]
    have hx2_get : ∀ (b : Nat), b < h.length + (x.hp.length - s.length) → hx2[b]? = some (if b < h.length then (if mem s b then mvO (outOf s h.length) (at2 x.hp (pos s b)) else none) else mvO (outOf s h.length) (at2 x.hp (s.length + (b - h.length)))) := fun b hb => by
      grind
    have hx2_src : ∀ (b : Nat) (X : SB R), hx2[b]? = some (some X) → ∃ Y, x.hp[tB b]? = some (some Y) ∧ X = mvSB (outOf s h.length) Y ∧ ρ2 b = ρ' (tB b) ∧ (b < h.length → b ∈ s) ∧ (h.length ≤ b → ¬ b ∈ s) := by
      intro b X hX
      have hlt : b < h.length + (x.hp.length - s.length) := by
        grind
      rw [hx2_get b hlt] at hX
      injection hX with hX
      split at hX
      · rename_i hb
        split at hX
        · rename_i hms
          obtain ⟨Y, hY, rfl⟩ := mvO_some hX
          obtain ⟨p1, p2⟩ := pos_nth (mem_iff.1 hms)
          refine ⟨Y, ?_, rfl, ?_, fun _ => mem_iff.1 hms, fun hge => by omega⟩
          · simp only [tB, hms, if_true]; exact at2_some hY
          grind
        grind
      · rename_i hb
        obtain ⟨Y, hY, rfl⟩ := mvO_some hX
        have hns : ¬ b ∈ s := fun hh => hb (hslt b hh)
        have hms : mem s b = false := by
          grind[mem_iff]
        refine ⟨Y, ?_, rfl, ?_, fun hlt => absurd hlt hb, fun _ => hns⟩
        · simp only [tB, hms, Bool.false_eq_true, if_false]; exact at2_some hY
        grind
    have hout : ∀ i, i < x.hp.length → ρ2 (outOf s h.length i) = ρ' i ∧ outOf s h.length i < h.length + (x.hp.length - s.length) := by
      intro i hi
      by_cases hs : i < s.length
      · rw [outOf_lt hs]
        have := hslt _ (nth_mem hs)
        grind
      · rw [outOf_ge hs]
        grind
    have hback : HM D (lentC w hr ft ρ 0) ρ2 (fun b k => (∃ X, hx2[b]? = some (some X)) ∧ ft' (tB b) k) hx2 w' := by
      refine g3.rename tB (fun b X hX => Or.inl ?_) fun b b' X X' _ hX hX' he => ?_
      · obtain ⟨Y, hY, rfl, hρ, _⟩ := hx2_src b X hX
        refine ⟨hρ, Y, hY, ?_⟩
        rcases Y with ⟨t, cs⟩ | Y
        · have hcs := (g3.at_ _ _ hY).2
          refine ⟨rfl, ?_, ?_⟩
          · rw [map_ren_mv, ← renL_eq, ← renL_eq]
            exact renL_congr (n := x.hp.length) (fun i hi => (hout i hi).1) cs hcs
          · rw [hx2l]
            exact inbL_mv (n := x.hp.length) (fun i hi => (hout i hi).2) cs hcs
        · exact LikeI.refl Y
      · obtain ⟨_, _, _, _, a1, a2⟩ := hx2_src b X hX
        obtain ⟨_, _, _, _, b1, b2⟩ := hx2_src b' X' hX'
        simp only [tB] at he
        rcases Nat.lt_or_ge b h.length with c1 | c1 <;> rcases Nat.lt_or_ge b' h.length with c2 | c2
        all_goals grind[pos_nth,mem_iff]
    have hbk := fun b X => backOk_get (b := b) (X := X) h5
    -- what the caller's heap holds then
    have hown : ∀ b, Own hr b ↔ (b ∈ s ∧ ownAt (locHp z (pos s) h 0 s) (pos s b) = true) := by
      intro b
      constructor
      · intro ⟨X, hX, hv⟩
        obtain ⟨hb, B, hB, rfl⟩ := hr_get b X hX
        refine ⟨hb, ownAt_iff.2 ?_⟩
        obtain ⟨p1, p2⟩ := pos_nth hb
        have hg := (locHp_get (z := z) (u := pos s) (h := h) (l := s) (i0 := 0) (i := pos s b)).2 p2
        simp_all[mvSB_view]
      · intro ⟨hb, hh⟩
        obtain ⟨X, hX, hv⟩ := ownAt_iff.1 hh
        obtain ⟨p1, p2⟩ := pos_nth hb
        have hg := (locHp_get (z := z) (u := pos s) (h := h) (l := s) (i0 := 0) (i := pos s b)).2 p2
        rw [hX, p1, Nat.zero_add] at hg
        injection hg with hg
        cases hB : at2 h b with
        | none => rw [hB] at hg; cases hg
        | some B =>
          rw [hB] at hg
          simp only at hg
          injection hg with hg
          refine ⟨_, hr_of b B hb hB, ?_⟩
          rw [hg, mvSB_view] at hv
          exact hv
    have hregain := hm.regain hsub hrl (n := 0) (h' := backHp s (outOf s h.length) (locHp z (pos s) h 0 s) x.hp 0 h ++ newHp (outOf s h.length) (x.hp.drop s.length)) hback
      (fun b hb => by simp only [ρ2, hb, if_true]) (by rw [hx2l]; omega) ?_ ?_ ?_ ?_
    · refine ⟨ρ2, _, fun i hi => by simp only [ρ2, hi, if_true], ?_, hregain⟩
      rw [g2, ren_mv, ren_congr (n := x.hp.length) (fun i hi => (hout i hi).1) x.v h6]
    · intro b X hX
      obtain ⟨Y, hY, rfl, _, a1, a2⟩ := hx2_src b X hX
      rw [mvSB_view]
      rcases ((hbk _ Y).2 hY).2 with h7 | ⟨Z, hZ, hv⟩
      · exact Or.inl h7
      · right
        rcases Nat.lt_or_ge b h.length with c1 | c1
        · have hb := a1 c1
          obtain ⟨p1, p2⟩ := pos_nth hb
          simp only [tB, mem_iff.2 hb, if_true] at hZ
          have hg := (locHp_get (z := z) (u := pos s) (h := h) (l := s) (i0 := 0) (i := pos s b)).2 p2
          rw [hZ, p1, Nat.zero_add] at hg
          injection hg with hg
          cases hB : at2 h b with
          | none => rw [hB] at hg; cases hg
          | some B =>
            rw [hB] at hg
            simp only at hg
            injection hg with hg
            refine ⟨_, hr_of b B hb hB, ?_⟩
            rw [hg, mvSB_view] at hv
            exact hv
        · have hms : mem s b = false := by
            cases hh : mem s b with
            | false => rfl
            | true => exact absurd (mem_iff.1 hh) (a2 c1)
          simp only [tB, hms, Bool.false_eq_true, if_false] at hZ
          have := (List.getElem?_eq_some_iff.1 hZ).1
          omega
    · rw [List.length_append, (backHp_get (b0 := 0) (b := 0)).1, newHp_get (i := 0) |>.1, hx2l, List.length_drop]
    · intro b hb
      rcases Nat.lt_or_ge b h.length with c1 | c1
      · have ho : Own hr b := hb.elim id fun hge => by omega
        obtain ⟨hbs, hoa⟩ := (hown b).1 ho
        rw [List.getElem?_append_left (by rw [(backHp_get (b0 := 0) (b := 0)).1]; exact c1), (backHp_get (b0 := 0) (b := b)).2 c1, Nat.zero_add, hx2_get b (by omega)]
        rw [mem_iff.2 hbs, hoa]
        simp only [Bool.and_self, if_true, c1]
      · rw [List.getElem?_append_right (by rw [(backHp_get (b0 := 0) (b := 0)).1]; exact c1), (backHp_get (b0 := 0) (b := 0)).1, newHp_get.2, List.getElem?_drop]
        rcases Nat.lt_or_ge b (h.length + (x.hp.length - s.length)) with c2 | c2
        · rw [hx2_get b c2, if_neg (by omega)]
          have : s.length + (b - h.length) < x.hp.length := by omega
          rw [at2_get this]
          rfl
        · rw [List.getElem?_eq_none (by omega), List.getElem?_eq_none (by rw [hx2l]; omega)]
          rfl
    · intro b hb hn
      rw [List.getElem?_append_left (by rw [(backHp_get (b0 := 0) (b := 0)).1]; exact hb), (backHp_get (b0 := 0) (b := b)).2 hb, Nat.zero_add]
      split
      · rename_i hc
        simp only [Bool.and_eq_true] at hc
        exact absurd ((hown b).2 ⟨mem_iff.1 hc.1, hc.2⟩) hn
      · rw [at2_get hb]
theorem liftC_ok0 {f : FuncId} {c : Con R} (z : Nat → Bool) (d : Nat) (ok : ConOk D P f c) : ConOk D P f (liftC z d c) := by
  intro b
  have := liftP_ok z d (ok b)
  have e : (liftC z d c).go b = liftP z d (c.go b) := by cases b <;> rfl
  rw [e]
  refine ⟨this.known, fun args h x hon => this.run args h x ?_, this.len, this.lit, this.still⟩
  unfold way liftC liftW at hon
  simp only [fNs_eq, fHp_eq] at hon
  exact hon
theorem liftC_ok {f : FuncId} {c : Con R} (z : Nat → Bool) (d : Nat) (ok : ConOk D P f c) : ConOkK D P f (liftC z d c) := by
  refine ⟨liftC_ok0 z d ok, fun b args h x hx i hi hk => ?_⟩
  have e : (liftC z d c).go b = liftP z d (c.go b) := by cases b <;> rfl
  rw [e] at hx
  obtain ⟨s, y, _, _, _, _, _, _, _, rfl⟩ := liftP_out hx
  split at hk <;> cases hk
/-- the blocks of a contract but those of K -/
def selK (K : List Nat) : Nat → List Nat → List (Nat × Nat)
  | _, [] => []
  | i, b :: l => if mem K i then selK K (i + 1) l else (b, 0) :: selK K (i + 1) l
/-- a contract on a few blocks, on any heap, which leaves the blocks K of these as they are -/
def liftKP (K : List Nat) (d : Nat) (spec : Prim R) : Prim R := fun args h =>
  match liftP (fun _ => false) d spec args h with
  | some x => some ⟨x.vc, x.v, x.lit, x.hp, x.rd, match x.wr with
    | [] => []
    | _ => (0, 1) :: selK K 0 (nub (reach h d (blksL args)) [])⟩
  | none => none
def liftKC (K : List Nat) (d : Nat) (c : Con R) : Con R := ⟨liftW (fun _ => false) d c.when, liftKP K d c.yes, liftKP K d c.no⟩
def KeepC (K : List Nat) (c : Con R) : Prop := ∀ b args h x, c.go b args h = some x → ∀ i, i ∈ K → i < h.length → x.hp[i]? = h[i]?
theorem selK_mem {K : List Nat} {b : Nat} : ∀ {s : List Nat} {i j : Nat}, s[j]? = some b → mem K (i + j) = false → memF (selK K i s) b = true
  | [], _, _, h, _ => by simp at h
  | c :: l, i, 0, h, hK => by
    simp_all[selK,memF]
  | c :: l, i, j + 1, h, hK => by
    simp only [List.getElem?_cons_succ] at h
    have := selK_mem (i := i + 1) h (by rwa [show i + 1 + j = i + (j + 1) by omega])
    grind[selK,memF]
theorem nth_get {s : List Nat} {i : Nat} (h : i < s.length) : s[i]? = some (nth s i) := by
  induction s generalizing i with
  | nil => simp at h
  | cons a l ih =>
    cases i with
    | zero => rfl
    | succ i =>
      grind[nth]
theorem liftKC_ok {f : FuncId} {c : Con R} (K : List Nat) (d : Nat) (ok : ConOk D P f c) (hK : KeepC K c) : ConOkK D P f (liftKC K d c) := by
  have hgo : ∀ b args h x, (liftKC K d c).go b args h = some x → ∃ y, (liftC (fun _ => false) d c).go b args h = some y ∧ x = ⟨y.vc, y.v, y.lit, y.hp, y.rd, match y.wr with
      | [] => []
      | _ => (0, 1) :: selK K 0 (nub (reach h d (blksL args)) [])⟩ := by
    intro b args h x hx
    cases b
    all_goals
      simp only [liftKC, Con.go, liftKP] at hx
      split at hx
      · rename_i y hy
        injection hx with hx
        exact ⟨y, hy, hx.symm⟩
      · cases hx
  refine ⟨fun b => ?_, fun b args h x hx i hi hk => ?_⟩
  · have o := liftC_ok0 (fun _ => false) d ok b
    refine ⟨o.known, fun args h x hon hx => ?_, fun args h x hx => ?_, fun args h x hx => ?_, fun args h x hx hw => ?_⟩
    · obtain ⟨y, hy, rfl⟩ := hgo _ _ _ _ hx
      exact o.run args h y hon hy
    · obtain ⟨y, hy, rfl⟩ := hgo _ _ _ _ hx
      exact o.len args h y hy
    · obtain ⟨y, hy, rfl⟩ := hgo _ _ _ _ hx
      exact o.lit args h y hy
    · obtain ⟨y, hy, rfl⟩ := hgo _ _ _ _ hx
      refine o.still args h y hy ?_
      simp only at hw
      split at hw
      · assumption
      · cases hw
  · obtain ⟨y, hy, rfl⟩ := hgo _ _ _ _ hx
    have e : (liftC (fun _ => false) d c).go b = liftP (fun _ => false) d (c.go b) := by cases b <;> rfl
    rw [e] at hy
    obtain ⟨s, x, hs0, h1, h2, h3, hx2, h5, h6, rfl⟩ := liftP_out hy
    have hkp : memF (selK K 0 s) i = false := by
      simp only at hk
      split at hk
      · cases hk
      · rw [← hs0] at hk
        simpa [keepB] using hk
    clear hk
    have hl0 : (locHp (fun _ => false) (pos s) h 0 s).length = s.length := (locHp_get (i0 := 0) (i := 0)).1
    have hbl : (backHp s (outOf s h.length) (locHp (fun _ => false) (pos s) h 0 s) x.hp 0 h).length = h.length := (backHp_get (b0 := 0) (b := 0)).1
    simp only
    rw [List.getElem?_append_left (by rw [hbl]; exact hi), (backHp_get (b0 := 0) (b := i)).2 hi, Nat.zero_add]
    split
    · rename_i hc
      simp only [Bool.and_eq_true] at hc
      have hm := mem_iff.1 hc.1
      obtain ⟨p1, p2⟩ := pos_nth hm
      have hmK : pos s i ∈ K := by
        cases hmk : mem K (pos s i) with
        | true => exact mem_iff.1 hmk
        | false =>
          have := selK_mem (K := K) (i := 0) (nth_get p2) (by rwa [Nat.zero_add])
          rw [p1] at this
          rw [this] at hkp
          cases hkp
      have hke := hK b _ _ _ hx2 (pos s i) hmK (by rw [hl0]; exact p2)
      obtain ⟨X, hX, hv⟩ := ownAt_iff.1 hc.2
      rw [hX] at hke
      have hg := (locHp_get (z := fun _ => false) (u := pos s) (h := h) (l := s) (i0 := 0) (i := pos s i)).2 p2
      rw [hX, p1] at hg
      injection hg with hg
      cases hb : at2 h i with
      | none => rw [hb] at hg; cases hg
      | some B =>
        rw [hb] at hg
        simp only at hg
        injection hg with hg
        rw [at2_of hke, at2_get hi, hb, hg]
        have hfr : frzSB false B = B := by rcases B with ⟨t, cs⟩ | ⟨t, r⟩ | r | q <;> rfl
        simp only [mvO, hfr]
        congr 2
        rcases B with ⟨t, cs⟩ | B
        · simp only [mvSB]
          rw [mvL_mvL, mvL_id (p := mem s)]
          · intro j hj
            obtain ⟨q1, q2⟩ := pos_nth (mem_iff.1 hj)
            rw [outOf_lt q2, q1]
          · exact (selOk_get h2 hm).2 t cs hb
        · rfl
    · rw [at2_get hi]
end
end Go.Proofs.YtobdpddamdkabaaDoor.Rx
namespace Go.Proofs.YtobdpddamdkabaaDoor.Rx
open Go.RowKit Go.Proofs.YtobdpddamdkabaaDoor.State
set_option linter.unusedVariables false
set_option linter.unusedSimpArgs false
section
variable {R R0 : Type}
/-- what things of the proof's stand for -/
structure Lay (R R0 : Type) where
  lay : R → Hp R0
  ne : ∀ x, 0 < (lay x).length
  own : ∀ (x : R) (b : Nat) (X : SB R0), (lay x)[b]? = some (some X) → isView X = false
  ins : ∀ x, hpIn (lay x).length (lay x) = true
def resOf (D0 : Res R0) (L : Lay R R0) : Res R where
  H x p F w := ∃ ρl ftl, ρl 0 = p ∧ (∀ k, F k ↔ ∃ i, ftl i k) ∧ HM0 D0 ⟨w, F, ρl, 0⟩ ρl ftl (L.lay x) w
  keep x p F w w' h hk := by
    obtain ⟨ρl, ftl, h1, h2, h3⟩ := h
    refine ⟨ρl, ftl, h1, h2, ?_⟩
    refine ⟨fun i B hi => ⟨hold_ctx (L.own x i B hi) (hold_keep (h3.at_ i B hi).1 fun k hk' => hk k ((h2 k).2 ⟨i, hk'⟩)), (h3.at_ i B hi).2⟩, fun i k hik => ?_, fun i k hik => Or.inl ((h2 k).2 ⟨i, hik⟩), h3.apart, h3.some_, Kept.refl _ _⟩
    have h4 := hk k ((h2 k).2 ⟨i, hik⟩)
    have h5 := h3.lt i k hik
    grind
  lt x p F w k h hk := by
    obtain ⟨ρl, ftl, h1, h2, h3⟩ := h
    obtain ⟨i, hi⟩ := (h2 k).1 hk
    exact h3.lt i k hi
variable {L : Lay R R0}
def width (L : Lay R R0) : Option (SB R) → Nat
  | some (.inr (.inr (.inr x))) => (L.lay x).length
  | _ => 1
/-- where a block's first one is -/
def off (L : Lay R R0) : Hp R → Nat → Nat
  | [], b => b
  | _ :: _, 0 => 0
  | x :: l, b + 1 => width L x + off L l b
def loc (L : Lay R R0) : Hp R → Nat → Nat × Nat
  | [], j => (j, 0)
  | x :: l, j => if j < width L x then (0, j) else ((loc L l (j - width L x)).1 + 1, (loc L l (j - width L x)).2)
def unfB (L : Lay R R0) (s : Nat → Nat) (o : Nat) : Option (SB R) → Hp R0
  | none => [none]
  | some (.inl (t, cs)) => [some (.inl (t, mvL s cs))]
  | some (.inr (.inl tr)) => [some (.inr (.inl tr))]
  | some (.inr (.inr (.inl r))) => [some (.inr (.inr (.inl r)))]
  | some (.inr (.inr (.inr x))) => newHp (fun i => i + o) (L.lay x)
def unfGo (L : Lay R R0) (s : Nat → Nat) : Nat → Hp R → Hp R0
  | _, [] => []
  | o, x :: l => unfB L s o x ++ unfGo L s (o + width L x) l
/-- a heap without such things -/
def unf (L : Lay R R0) (h : Hp R) : Hp R0 := unfGo L (off L h) 0 h
theorem width_pos (x : Option (SB R)) : 0 < width L x := by
  rcases x with _ | ⟨t, cs⟩ | tr | r | x
  · exact Nat.one_pos
  · exact Nat.one_pos
  · exact Nat.one_pos
  · exact Nat.one_pos
  · exact L.ne x
theorem unfB_length (s : Nat → Nat) (o : Nat) (x : Option (SB R)) : (unfB L s o x).length = width L x := by
  rcases x with _ | ⟨t, cs⟩ | tr | r | x
  · rfl
  · rfl
  · rfl
  · rfl
  · exact (newHp_get (i := 0)).1
theorem unfGo_get (s : Nat → Nat) : ∀ (h : Hp R) (o b i : Nat), b < h.length → i < width L (at2 h b) → (unfGo L s o h)[off L h b + i]? = (unfB L s (o + off L h b) (at2 h b))[i]?
  | [], o, b, i, hb, _ => by simp at hb
  | x :: l, o, 0, i, _, hi => by
    simp_all[at2,unfGo,off,List.getElem?_append_left,unfB_length]
  | x :: l, o, b + 1, i, hb, hi => by
    have e : at2 (x :: l) (b + 1) = at2 l b := by rfl
    rw [e] at hi ⊢
    simp only [List.length_cons] at hb
    simp only [unfGo, off]
    rw [List.getElem?_append_right (by rw [unfB_length]; omega), unfB_length, show width L x + off L l b + i - width L x = off L l b + i by omega]
    rw [unfGo_get s l (o + width L x) b i (by omega) hi, Nat.add_assoc]
theorem off_mono : ∀ (h : Hp R) (b b' : Nat), b < b' → b < h.length → off L h b + width L (at2 h b) ≤ off L h b'
  | [], b, b', _, hb => by simp at hb
  | x :: l, 0, 0, h, _ => by omega
  | x :: l, 0, b' + 1, _, _ => by
    grind[at2,off]
  | x :: l, b + 1, 0, h, _ => by omega
  | x :: l, b + 1, b' + 1, h, hb => by
    have e : at2 (x :: l) (b + 1) = at2 l b := by rfl
    rw [e]
    simp only [List.length_cons] at hb
    simp only [off]
    have := off_mono l b b' (by omega) (by omega)
    omega
theorem unfGo_length (s : Nat → Nat) : ∀ (h : Hp R) (o : Nat), (unfGo L s o h).length = off L h h.length
  := by intro a;induction a<;>intros<;>grind[unfGo,unfB_length,off]
theorem unf_length (h : Hp R) : (unf L h).length = off L h h.length := unfGo_length _ _ _
theorem off_lt (h : Hp R) {b i : Nat} (hb : b < h.length) (hi : i < width L (at2 h b)) : off L h b + i < (unf L h).length := by
  rw [unf_length]
  have := off_mono (L := L) h b h.length hb hb
  omega
theorem loc_off : ∀ (h : Hp R) (b i : Nat), b < h.length → i < width L (at2 h b) → loc L h (off L h b + i) = (b, i)
  | [], b, i, hb, _ => by simp at hb
  | x :: l, 0, i, _, hi => by
    simp_all[at2,loc,off]
  | x :: l, b + 1, i, hb, hi => by
    have e : at2 (x :: l) (b + 1) = at2 l b := by rfl
    simp only [List.length_cons] at hb
    have e2 : off L (x :: l) (b + 1) + i = width L x + (off L l b + i) := by grind[off]
    rw [e2]
    simp only [loc]
    rw [if_neg (by omega), show width L x + (off L l b + i) - width L x = off L l b + i by omega, loc_off l b i (by omega) hi]
theorem off_loc : ∀ (h : Hp R) (j : Nat), (loc L h j).1 < h.length → off L h (loc L h j).1 + (loc L h j).2 = j ∧ (loc L h j).2 < width L (at2 h (loc L h j).1)
  | [], j, hj => by simp at hj
  | x :: l, j, hj => by
    simp only [loc] at hj ⊢
    split
    · rename_i hlt
      have e : at2 (x :: l) 0 = x := by simp [at2]
      refine ⟨by simp [off], by rw [e]; exact hlt⟩
    · rename_i hge
      rw [if_neg hge] at hj
      simp only [List.length_cons] at hj
      obtain ⟨h1, h2⟩ := off_loc l (j - width L x) (by simpa using hj)
      have e : at2 (x :: l) ((loc L l (j - width L x)).1 + 1) = at2 l (loc L l (j - width L x)).1 := by simp [at2]
      simp only [off]
      rw [e]
      exact ⟨by omega, h2⟩
theorem loc_lt : ∀ (h : Hp R) (j : Nat), j < off L h h.length → (loc L h j).1 < h.length
  := by intro a;induction a<;>intros<;>grind[off,loc]
/-- a block of the heap without such things comes from one with -/
theorem unf_src (h : Hp R) {j : Nat} {B : SB R0} (hj : (unf L h)[j]? = some (some B)) : ∃ b i, b < h.length ∧ i < width L (at2 h b) ∧ j = off L h b + i ∧ loc L h j = (b, i) ∧ (unfB L (off L h) (off L h b) (at2 h b))[i]? = some (some B) := by
  have hlt : j < off L h h.length := by
    grind[unf_length]
  have h1 := loc_lt h j hlt
  obtain ⟨h2, h3⟩ := off_loc h j h1
  refine ⟨_, _, h1, h3, h2.symm, rfl, ?_⟩
  rw [← h2] at hj
  unfold unf at hj
  rw [unfGo_get _ h 0 _ _ h1 h3, Nat.zero_add] at hj
  exact hj
variable {D0 : Res R0} {C : Ctx} {ρ ρ' : Env} {ft ft' : Nat → Nat → Prop} {w w' : World} {h : Hp R} {P : Program}
/-- the blocks that such things stand for -/
theorem HM.open_ (hm : HM (resOf D0 L) C ρ ft h w) : ∃ ρ' ft', (∀ b, b < h.length → ρ' (off L h b) = ρ b) ∧ HM D0 C ρ' ft' (unf L h) w := by
  have key : ∀ b, ∃ pr : (Env × (Nat → Nat → Prop)), pr.1 0 = ρ b ∧ (∀ k, ft b k ↔ ∃ i, pr.2 i k) ∧ (∀ i k, b < h.length → pr.2 i k → i < width L (at2 h b)) ∧
      (∀ x, at2 h b = some (.inr (.inr (.inr x))) → HM0 D0 ⟨w, ft b, pr.1, 0⟩ pr.1 pr.2 (L.lay x) w) ∧ ((∀ x, at2 h b ≠ some (.inr (.inr (.inr x)))) → ∀ i k, pr.2 i k → i = 0) := by
    intro b
    by_cases hx : ∃ x, at2 h b = some (.inr (.inr (.inr x)))
    · obtain ⟨x, hx⟩ := hx
      obtain ⟨ρl, ftl, h1, h2, h3⟩ := (hm.at_ b _ (at2_some hx)).1
      refine ⟨⟨ρl, ftl⟩, h1, h2, fun i k _ hik => ?_, fun y hy => ?_, fun hn => absurd hx (hn x)⟩
      · rw [hx]
        obtain ⟨B, hB⟩ := h3.some_ i k hik
        exact (List.getElem?_eq_some_iff.1 hB).1
      · rw [hx] at hy
        injection hy with hy; injection hy with hy; injection hy with hy; injection hy with hy
        subst hy
        exact h3
    · refine ⟨⟨fun _ => ρ b, fun i k => i = 0 ∧ ft b k⟩, rfl, fun k => ⟨fun hk => ⟨0, rfl, hk⟩, fun ⟨_, _, hk⟩ => hk⟩, fun i k _ hik => ?_, fun x hx' => absurd ⟨x, hx'⟩ hx, fun _ i k hik => hik.1⟩
      rw [hik.1]
      exact width_pos _
  obtain ⟨pr, hpr⟩ := Classical.axiomOfChoice key
  have hρ : ∀ b, b < h.length → (pr (loc L h (off L h b)).1).1 (loc L h (off L h b)).2 = ρ b := fun b hb => by
    have := loc_off (L := L) h b 0 hb (width_pos _)
    rw [Nat.add_zero] at this
    rw [this]
    exact (hpr b).1
  refine ⟨fun j => (pr (loc L h j).1).1 (loc L h j).2, fun j k => (pr (loc L h j).1).2 (loc L h j).2 k, hρ, ?_⟩
  have hsub : ∀ j k, (pr (loc L h j).1).2 (loc L h j).2 k → ft (loc L h j).1 k := fun j k hk => ((hpr _).2.1 k).2 ⟨_, hk⟩
  have hb : ∀ b k, ft b k → b < h.length := fun b k hk => by
    obtain ⟨B, hB⟩ := hm.some_ b k hk
    exact (List.getElem?_eq_some_iff.1 hB).1
  refine ⟨⟨fun j B hj => ?_, fun j k hk => hm.lt _ k (hsub j k hk), fun j k hk => hm.fresh _ k (hsub j k hk), fun j j' k hk hk' => ?_, fun j k hk => ?_, hm.kept⟩, hm.gl⟩
  · obtain ⟨b, i, hbl, hil, rfl, hl, hB⟩ := unf_src h hj
    rw [hl]
    obtain ⟨p1, p2, p3, p4, p5⟩ := hpr b
    have hfb : (∀ x, at2 h b ≠ some (.inr (.inr (.inr x)))) → (pr b).2 0 = ft b := fun hn => funext fun k => propext ⟨fun hk => (p2 k).2 ⟨0, hk⟩, fun hk => by
      obtain ⟨i, hi⟩ := (p2 k).1 hk
      rw [p5 hn i k hi] at hi
      exact hi⟩
    cases hx : at2 h b with
    | none =>
      rw [hx] at hil hB
      simp only [width] at hil
      obtain rfl : i = 0 := by omega
      simp [unfB] at hB
    | some X =>
      have hX := at2_some hx
      obtain ⟨g1, g2⟩ := hm.at_ b X hX
      rcases X with ⟨t, cs⟩ | ⟨t, r⟩ | r | x
      · rw [hx] at hil hB
        simp only [width] at hil
        obtain rfl : i = 0 := by omega
        simp only [unfB, List.getElem?_cons_zero, Option.some.injEq] at hB
        subst hB
        simp only [hfb (fun x e => by rw [hx] at e; cases e)]
        obtain ⟨q1, q2, q3⟩ := g1
        simp only [inside] at g2
        refine ⟨?_, ?_⟩
        · simp only [hold, hl, p1]
          refine ⟨q1, q2, ?_⟩
          have e : (mvL (off L h) cs).map (ren (fun j => (pr (loc L h j).1).1 (loc L h j).2)) = cs.map (ren ρ) := by
            rw [map_ren_mv, ← renL_eq, ← renL_eq]
            exact renL_congr (n := h.length) (fun b hb => hρ b hb) cs g2
          rw [e]
          exact q3
        · simp only [inside]
          refine inbL_mv (n := h.length) (fun b hb => ?_) cs g2
          have := off_lt (L := L) h (b := b) (i := 0) hb (width_pos _)
          simpa using this
      · rw [hx] at hil hB
        simp only [width] at hil
        obtain rfl : i = 0 := by omega
        simp only [unfB, List.getElem?_cons_zero, Option.some.injEq] at hB
        subst hB
        simp only [hfb (fun x e => by rw [hx] at e; cases e)]
        simp only [hold, hl, p1] at g1 ⊢
        exact ⟨g1, trivial⟩
      · rw [hx] at hil hB
        simp only [width] at hil
        obtain rfl : i = 0 := by omega
        simp only [unfB, List.getElem?_cons_zero, Option.some.injEq] at hB
        subst hB
        simp only [hfb (fun x e => by rw [hx] at e; cases e)]
        simp only [hold, hl, p1] at g1 ⊢
        exact ⟨g1, trivial⟩
      · rw [hx] at hil hB
        simp only [width] at hil
        simp only [unfB] at hB
        rw [newHp_get.2] at hB
        cases hY : (L.lay x)[i]? with
        | none => rw [hY] at hB; cases hB
        | some Y =>
          rw [hY] at hB
          simp only [Option.map_some, Option.some.injEq] at hB
          obtain ⟨Y, rfl, rfl⟩ := mvO_some hB
          have h3 := p4 x hx
          obtain ⟨q1, q2⟩ := h3.at_ i Y hY
          have hnv := L.own x i Y hY
          have q3 : hold D0 C (pr b).1 i ((pr b).2 i) w Y := hold_ctx hnv q1
          have hρ2 : ∀ i', i' < (L.lay x).length → (pr (loc L h (i' + off L h b)).1).1 (loc L h (i' + off L h b)).2 = (pr b).1 i' := fun i' hi' => by
            rw [Nat.add_comm i' (off L h b), loc_off h b i' hbl (by rw [hx]; exact hi')]
          rcases Y with ⟨t, cs⟩ | ⟨t, r⟩ | r | y
          · obtain ⟨z1, z2, z3⟩ := q3
            simp only [inside] at q2
            refine ⟨?_, ?_⟩
            · simp only [mvSB, hold, hl]
              refine ⟨z1, z2, ?_⟩
              have e : (mvL (fun i => i + off L h b) cs).map (ren (fun j => (pr (loc L h j).1).1 (loc L h j).2)) = cs.map (ren (pr b).1) := by
                rw [map_ren_mv, ← renL_eq, ← renL_eq]
                exact renL_congr (n := (L.lay x).length) (fun i' hi' => hρ2 i' hi') cs q2
              rw [e]
              exact z3
            · simp only [mvSB, inside]
              refine inbL_mv (n := (L.lay x).length) (fun i' hi' => ?_) cs q2
              have := off_lt (L := L) h (b := b) (i := i') hbl (by rw [hx]; exact hi')
              omega
          · simp only [mvSB, hold, hl] at q3 ⊢; exact ⟨q3, trivial⟩
          · simp [isView] at hnv
          · simp only [mvSB, hold, hl] at q3 ⊢; exact ⟨q3, trivial⟩
  · have e1 := hm.apart _ _ k (hsub j k hk) (hsub j' k hk')
    have hbl := hb _ k (hsub j k hk)
    have hbl' := hb _ k (hsub j' k hk')
    have o1 := off_loc h j hbl
    have o2 := off_loc h j' hbl'
    obtain ⟨p1, p2, p3, p4, p5⟩ := hpr (loc L h j).1
    have e2 : (loc L h j).2 = (loc L h j').2 := by
      rw [← e1] at hk'
      by_cases hx : ∃ x, at2 h (loc L h j).1 = some (.inr (.inr (.inr x)))
      · obtain ⟨x, hx⟩ := hx
        exact (p4 x hx).apart _ _ k hk hk'
      · have hn : ∀ x, at2 h (loc L h j).1 ≠ some (.inr (.inr (.inr x))) := fun x e => hx ⟨x, e⟩
        rw [p5 hn _ k hk, p5 hn _ k hk']
    rw [← o1.1, ← o2.1, e1, e2]
  · have hft := hsub j k hk
    have hbl := hb _ k hft
    obtain ⟨o1, o2⟩ := off_loc h j hbl
    have hg := unfGo_get (L := L) (off L h) h 0 _ _ hbl o2
    rw [Nat.zero_add, o1] at hg
    show ∃ B, (unfGo L (off L h) 0 h)[j]? = some (some B)
    rw [hg]
    obtain ⟨X, hX⟩ := hm.some_ _ k hft
    obtain ⟨p1, p2, p3, p4, p5⟩ := hpr (loc L h j).1
    rw [at2_of hX] at o2 ⊢
    rcases X with ⟨t, cs⟩ | tr | r | x
    · have : (loc L h j).2 = 0 := by simp only [width] at o2; omega
      rw [this]; exact ⟨_, rfl⟩
    · have : (loc L h j).2 = 0 := by simp only [width] at o2; omega
      rw [this]; exact ⟨_, rfl⟩
    · have : (loc L h j).2 = 0 := by simp only [width] at o2; omega
      rw [this]; exact ⟨_, rfl⟩
    · obtain ⟨B, hB⟩ := (p4 x (at2_of hX)).some_ _ k hk
      simp only [unfB]
      rw [newHp_get.2, hB]
      exact ⟨_, rfl⟩
/-- and back -/
theorem HM.close_ (hm : HM D0 C ρ ft (unf L h) w) (hin : hpIn h.length h = true) :
    HM (resOf D0 L) C (fun b => ρ (off L h b)) (fun b k => b < h.length ∧ ∃ i, i < width L (at2 h b) ∧ ft (off L h b + i) k) h w := by
  have hunf : ∀ b i, b < h.length → i < width L (at2 h b) → (unf L h)[off L h b + i]? = (unfB L (off L h) (off L h b) (at2 h b))[i]? := fun b i hb hi => by
    have := unfGo_get (L := L) (off L h) h 0 b i hb hi
    rw [Nat.zero_add] at this
    exact this
  refine ⟨⟨fun b B hB => ⟨?_, hpIn_get hin hB⟩, fun b k hk => ?_, fun b k hk => ?_, fun b b' k hk hk' => ?_, fun b k hk => ?_, hm.kept⟩, hm.gl⟩
  · have hbl : b < h.length := (List.getElem?_eq_some_iff.1 hB).1
    have hx := at2_of hB
    have hbase : width L (at2 h b) = 1 → (fun k => b < h.length ∧ ∃ i, i < width L (at2 h b) ∧ ft (off L h b + i) k) = ft (off L h b) := fun hw => funext fun k => propext ⟨fun ⟨_, i, hi, hk⟩ => by
      grind, fun hk => ⟨hbl, 0, by omega, hk⟩⟩
    have h0 := hunf b 0 hbl (width_pos _)
    rcases B with ⟨t, cs⟩ | ⟨t, r⟩ | r | x
    · rw [hbase (by rw [hx]; rfl)]
      rw [hx] at h0
      obtain ⟨g1, g2⟩ := hm.at_ _ _ h0
      obtain ⟨q1, q2, q3⟩ := g1
      refine ⟨q1, q2, ?_⟩
      grind[map_ren_mv]
    · rw [hbase (by rw [hx]; rfl)]
      rw [hx] at h0
      exact (hm.at_ _ _ h0).1
    · rw [hbase (by rw [hx]; rfl)]
      rw [hx] at h0
      exact (hm.at_ _ _ h0).1
    · refine ⟨fun i => ρ (off L h b + i), fun i k => i < (L.lay x).length ∧ ft (off L h b + i) k, rfl, fun k => ⟨fun ⟨_, i, hi, hk⟩ => ⟨i, by rw [hx] at hi; exact hi, hk⟩, fun ⟨i, hi, hk⟩ => ⟨hbl, i, by rw [hx]; exact hi, hk⟩⟩, ?_⟩
      have hget : ∀ i Y, (L.lay x)[i]? = some (some Y) → (unf L h)[off L h b + i]? = some (some (mvSB (fun i => i + off L h b) Y)) := fun i Y hY => by
        have hil := (List.getElem?_eq_some_iff.1 hY).1
        rw [hunf b i hbl (by rw [hx]; exact hil), hx]
        simp only [unfB]
        rw [newHp_get.2, hY]
        rfl
      refine ⟨fun i Y hY => ?_, fun i k hk => hm.lt _ k hk.2, fun i k hk => Or.inl ⟨hbl, i, by rw [hx]; exact hk.1, hk.2⟩, fun i j k hi hj => ?_, fun i k hk => ?_, Kept.refl _ _⟩
      · have hil := (List.getElem?_eq_some_iff.1 hY).1
        obtain ⟨g1, g2⟩ := hm.at_ _ _ (hget i Y hY)
        have hins := hpIn_get (L.ins x) hY
        have := hold_like g1 (like_mv (ρn := fun i => ρ (off L h b + i)) (fun i => by grind) hins) (b := i) rfl
        have e : (fun k => i < (L.lay x).length ∧ ft (off L h b + i) k) = ft (off L h b + i) := funext fun k => propext ⟨fun h => h.2, fun h => ⟨hil, h⟩⟩
        rw [e]
        exact ⟨hold_ctx (L.own x i Y hY) this.1, this.2⟩
      · have := hm.apart _ _ k hi.2 hj.2
        omega
      · obtain ⟨Z, hZ⟩ := hm.some_ _ k hk.2
        rw [hunf b i hbl (by rw [hx]; exact hk.1), hx] at hZ
        simp only [unfB] at hZ
        rw [newHp_get.2] at hZ
        cases hY : (L.lay x)[i]? with
        | none => grind
        | some Y =>
          rw [hY] at hZ
          simp only [Option.map_some, Option.some.injEq] at hZ
          obtain ⟨Y, rfl, _⟩ := mvO_some hZ
          simp
  · obtain ⟨_, i, _, hk⟩ := hk
    exact hm.lt _ k hk
  · obtain ⟨_, i, _, hk⟩ := hk
    exact hm.fresh _ k hk
  · obtain ⟨hb, i, hi, hk⟩ := hk
    obtain ⟨hb', i', hi', hk'⟩ := hk'
    have e := hm.apart _ _ k hk hk'
    rcases Nat.lt_trichotomy b b' with hlt | he | hlt
    · have := off_mono (L := L) h b b' hlt hb; omega
    · exact he
    · have := off_mono (L := L) h b' b hlt hb'; omega
  · obtain ⟨hb, i, hi, hk⟩ := hk
    obtain ⟨Z, hZ⟩ := hm.some_ _ k hk
    rw [hunf b i hb hi] at hZ
    cases hx : at2 h b with
    | none =>
      grind[unfB]
    | some X => grind[at2_some]
/-- a run's end is as the contract says, whose things stand for blocks -/
structure EndsU (L : Lay R R0) (hh : Hp R) (x : Out R) (v : Value) (hp : Hp R0) : Prop where
  ex : ∃ s : List Nat, v = dnV hp.length (mvV (nth s) (mvV (off L x.hp) x.v)) ∧ inb hp.length v = true ∧ Pulls hp.length (nth s) hp 0 (unf L x.hp) ∧ nodupB (hits hp.length (nth s) 0 (unf L x.hp)) = true ∧ Nat.ble (unf L hh).length hp.length = true ∧ allLt (fun b => Nat.beq (nth s (off L x.hp b)) (off L hh b)) hh.length = true ∧
    hpIn (unf L x.hp).length (unf L x.hp) = true ∧ hpIn x.hp.length x.hp = true
/-- a contract on such things, out of a run on what they stand for -/
theorem res_prim {f : FuncId} {fn : Func} {root : Code} {on : List Value → Hp R → Prop} {spec : Prim R} (hf : P.funcs[f]? = some fn) (hb : fn.body = some root) (hname : (fn.name == "runtime.NumGoroutine") = false)
    (H : ∀ args hh x, spec args hh = some x → hh.length ≤ x.hp.length ∧ (∀ b, x.lit = some b → x.v = .bool b) ∧ (x.wr = [] → x.hp = hh) ∧
      (on args hh → x.vc → At D0 P root (unf L hh).length (retK P fn.results.toList (EndsU L hh x)) [.inl []] ⟨someL (mvL (off L hh) args) ++ List.replicate (fn.ntmps - args.length) none, [], unf L hh⟩)) : PrimOk (resOf D0 L) P f on spec where
  known := ⟨fn, hf, hname, by grind⟩
  run args hh x hon hx C ρ ft w hm hv hi := by
    obtain ⟨_, _, _, h4⟩ := H args hh x hx
    obtain ⟨ρ1, ft1, o1, o2⟩ := hm.open_
    have hargs : args.map (ren ρ) = (mvL (off L hh) args).map (ren ρ1) := by
      rw [map_ren_mv, ← renL_eq, ← renL_eq]
      grind[renL_congr]
    have hlen : (mvL (off L hh) args).length = args.length := by
      have : ∀ l : List Value, (mvL (off L hh) l).length = l.length := fun l => by
        induction l with
        | nil => rfl
        | cons v l ih => simp [mvL, ih]
      grind
    rw [hargs]
    have hin : inbL (unf L hh).length (mvL (off L hh) args) = true := inbL_mv (n := hh.length) (fun b hb => by
      have := off_lt (L := L) hh (b := b) (i := 0) hb (width_pos _)
      omega) args hi
    have h5 := h4 hon hv
    rw [← hlen] at h5
    refine (calls_At hf hb h5 o2 hin).mono fun e w' ⟨ρ', ft', v, hp', g1, g2, g3, g4⟩ => ?_
    obtain ⟨s, e1, e1', e2, e3, e3', e4, e5, e6⟩ := g3.ex
    have hren := g4.pulled e2 e3 e5
    refine ⟨_, _, fun b hb => ?_, ?_, hren.close_ e6⟩
    · have h6 : off L hh b < (unf L hh).length := by
        have := off_lt (L := L) hh (b := b) (i := 0) hb (width_pos _)
        omega
      have := allLt_get e4 hb
      have h7 := Nat.le_of_ble_eq_true e3'
      grind[Nat.eq_of_beq_eq_true,plus_lt]
    grind[ren_dn,ren_mv]
  len args hh x hx := (H args hh x hx).1
  lit args hh x hx := (H args hh x hx).2.1
  still args hh x hx := (H args hh x hx).2.2.1
/-- the cells of a thing's first block, to be read -/
def rdCon (L : Lay R R0) : Con R := con1 fun args hh =>
  match args, hh with
  | [.pointer (some ⟨0, e, none⟩)], [some (.inr (.inr (.inr X)))] =>
    match L.lay X with
    | some (.inl (_, cs)) :: _ => match cs[e]? with
      | some v => if flat v then some ⟨True, v, none, hh, [], []⟩ else none
      | none => none
    | _ => none
  | _, _ => none
theorem rdCon_ok : RdOk (resOf D0 L) (rdCon L) := by
  refine ⟨(fun h => by cases h), ?_⟩
  intro e X x p F w hx ⟨ρl, ftl, h1, h2, h3⟩
  simp only [rdCon, con1] at hx
  split at hx
  · rename_i t cs tl hl
    split at hx
    · rename_i v hv
      split at hx
      · injection hx with hx
        have h4 := cells_reads0 h3 (i := 0) (t := t) (cs := cs) (by grind) e
        grind[flat_ren]
      grind
    grind
  grind
end
end Go.Proofs.YtobdpddamdkabaaDoor.Rx
namespace Go.Proofs.YtobdpddamdkabaaDoor.Rx
open Go.ChangeShapes Go.WideShapes Go.ChangeAt Go.RowKit Go.Deep Go.Proofs.YtobdpddamdkabaaDoor.State
set_option linter.unusedVariables false
set_option linter.unusedSimpArgs false
/-- a cell like another, its number in its kind -/
def okCell : Value → Value → Prop
  | .int k _, .int k' x => k = k' ∧ (Lit.int k x).wf = true
  | .bool _, .bool _ => True
  | .string _, .string s => s.size ≤ maxLen
  | _, _ => False
def okCells : List Value → List Value → Prop
  | [], [] => True
  | t :: tm, v :: l => okCell t v ∧ okCells tm l
  | _, _ => False
theorem okCells_append : ∀ {a b c d : List Value}, okCells a c → okCells b d → okCells (a ++ b) (c ++ d)
  | [], b, [], d, _, h => h
  | [], b, _ :: _, d, h, _ => h.elim
  | _ :: _, b, [], d, h, _ => h.elim
  | t :: a, b, v :: c, d, h, h' => ⟨h.1, okCells_append h.2 h'⟩
theorem okCells_length : ∀ {a c : List Value}, okCells a c → c.length = a.length
  | [], [], _ => rfl
  | [], _ :: _, h => h.elim
  | _ :: _, [], h => h.elim
  | t :: a, v :: c, h => by simp [okCells_length h.2]
theorem okCells_get : ∀ {a c : List Value} {f : Nat} {t : Value}, okCells a c → a[f]? = some t → ∃ v, c[f]? = some v ∧ okCell t v
  | [], _, f, t, _, h => by simp at h
  | _ :: _, [], f, t, h, _ => h.elim
  | u :: a, v :: c, f, t, h, ht => by
    cases f with
    | zero => simp only [List.getElem?_cons_zero, Option.some.injEq] at ht ⊢; subst ht; exact ⟨v, rfl, h.1⟩
    | succ f => simp only [List.getElem?_cons_succ] at ht ⊢; exact okCells_get h.2 ht
/-- the zero cells of a plain type -/
def tmFs (P : Program) (rec : TypeId → Option (List Value)) : Nat → List Field → Option (List Value)
  | _, [] => some []
  | off, f :: fs =>
    match rec f.type with
    | some tm => if Nat.beq f.offset off && Nat.beq (P.cellsOf f.type) tm.length then
        match tmFs P rec (off + tm.length) fs with
        | some r => some (tm ++ r)
        | none => none
      else none
    | none => none
def repF (tm : List Value) : Nat → List Value
  | 0 => []
  | n + 1 => tm ++ repF tm n
theorem repF_length (tm : List Value) : ∀ n, (repF tm n).length = n * tm.length
  := by intro a;induction a<;>intros<;>grind[repF]
theorem mem_repF {tm : List Value} {v : Value} : ∀ {n}, v ∈ repF tm n → v ∈ tm
  | 0, h => by simp [repF] at h
  | n + 1, h => by
    rcases List.mem_append.1 h with h | h
    · exact h
    · exact mem_repF h
def tmOf (P : Program) : Nat → TypeId → Option (List Value)
  | 0, _ => none
  | n + 1, t =>
    match P.underlying t with
    | some (.int k) => some [.int k 0]
    | some .bool => some [.bool false]
    | some .string => some [.string ⟨#[]⟩]
    | some (.struct fs) =>
      match tmFs P (tmOf P n) 0 fs.toList with
      | some tm => if Nat.beq (P.cellsOf t) tm.length then some tm else none
      | none => none
    | some (.array k el) =>
      match tmOf P n el with
      | some tm => if Nat.beq (P.cellsOf el) tm.length && Nat.beq (P.cellsOf t) (k * tm.length) then some (repF tm k) else none
      | none => none
    | _ => none
section
variable {H : Type} {enc : TypeId × Value → H} {P : Program} {w : World} {base : Nat} {spare : Nat → Bool} {held : Bool}
theorem repF_ok {tm cs : List Value} {m : Nat} {e : TypeId} (hc : P.cellsOf e = tm.length) (ih : ∀ (cs : List Value) (x : DataW H × List MemPlace), DataW.trod enc P w base spare held m e cs = some x → okCells tm cs) :
    ∀ (k i0 : Nat), (∀ i, i < i0 + k → ∃ y, DataW.trod enc P w base spare held m e ((cs.drop (i * P.cellsOf e)).take (P.cellsOf e)) = some y) → okCells (repF tm k) ((cs.drop (i0 * tm.length)).take (k * tm.length))
  | 0, i0, _ => by simp [repF, okCells]
  | k + 1, i0, hy => by
    obtain ⟨y, h1⟩ := hy i0 (by omega)
    have a1 := ih _ _ h1
    rw [hc] at a1
    have a2 := repF_ok hc ih k (i0 + 1) fun i hi => hy i (by omega)
    have := okCells_append a1 a2
    rw [show (k + 1) * tm.length = tm.length + k * tm.length by grind, List.take_add, List.drop_drop]
    rw [show (i0 + 1) * tm.length = i0 * tm.length + tm.length by grind] at this
    exact this
theorem tmFs_ok {rec : TypeId → Option (List Value)} {cs : List Value} {n : Nat}
    (ih : ∀ (t : TypeId) (tm cs : List Value) (x : DataW H × List MemPlace), rec t = some tm → DataW.trod enc P w base spare held n t cs = some x → okCells tm cs) :
    ∀ (fs : List Field) (off : Nat) (tm : List Value), tmFs P rec off fs = some tm → (∀ f ∈ fs, ∃ y, DataW.trod enc P w base spare held n f.type ((cs.drop f.offset).take (P.cellsOf f.type)) = some y) → okCells tm ((cs.drop off).take tm.length)
  | [], off, tm, h, _ => by grind[tmFs,okCells]
  | f :: fs, off, tm, h, hy => by
    simp only [tmFs] at h
    split at h
    · rename_i tm1 h1
      split at h
      · rename_i hc
        simp only [Bool.and_eq_true] at hc
        have e1 := Nat.eq_of_beq_eq_true hc.1
        have e2 := Nat.eq_of_beq_eq_true hc.2
        split at h
        · rename_i r hr
          injection h with h
          obtain ⟨y, hy1⟩ := hy f List.mem_cons_self
          have a1 := ih _ _ _ _ h1 hy1
          have a2 := tmFs_ok ih fs (off + tm1.length) r hr fun g hg => hy g (List.mem_cons_of_mem _ hg)
          grind[okCells_append,List.drop_drop]
        · cases h
      · cases h
    · cases h
theorem tmOf_ok : ∀ (m : Nat) (t : TypeId) (tm cs : List Value) (fuel : Nat) (x : DataW H × List MemPlace), tmOf P m t = some tm → DataW.trod enc P w base spare held fuel t cs = some x → okCells tm cs
  | 0, _, _, _, _, _, h, _ => by simp [tmOf] at h
  | m + 1, t, tm, cs, fuel, x, h, ht => by
    simp only [tmOf] at h
    split at h
    · rename_i k hk
      injection h with h
      subst h
      obtain ⟨n, rfl, _, hw⟩ := DataW.trod_int hk ht
      exact ⟨⟨rfl, hw⟩, trivial⟩
    · rename_i hk
      injection h with h
      subst h
      obtain ⟨b, rfl, _⟩ := DataW.trod_bool hk ht
      exact ⟨trivial, trivial⟩
    · rename_i hk
      injection h with h
      subst h
      obtain ⟨s, rfl, _, hs⟩ := DataW.trod_string hk ht
      exact ⟨hs, trivial⟩
    · rename_i fs hk
      split at h
      · rename_i tm1 h1
        split at h
        · rename_i hc
          injection h with h
          have hc := Nat.eq_of_beq_eq_true hc
          obtain ⟨xs, n, rfl, _, hl, hxs, hf⟩ := DataW.trod_struct hk ht
          have := tmFs_ok (fun t tm cs x h1 h2 => tmOf_ok m t tm cs n x h1 h2) fs.toList 0 tm1 h1 (cs := cs) fun f hf' => by
            grind[List.mem_iff_getElem?]
          grind
        · cases h
      · cases h
    · rename_i k el hk
      split at h
      · rename_i tm1 h1
        split at h
        · rename_i hc
          injection h with h
          simp only [Bool.and_eq_true] at hc
          have hc1 := Nat.eq_of_beq_eq_true hc.1
          have hc2 := Nat.eq_of_beq_eq_true hc.2
          obtain ⟨xs, n, rfl, _, hl, hxs, hf⟩ := DataW.trod_array hk ht
          have := repF_ok (cs := cs) hc1 (fun cs x h2 => tmOf_ok m el tm1 cs n x h1 h2) k 0 fun i hi => by
            grind
          grind
        · cases h
      · cases h
    · cases h
end
/-- a row in a world's memory -/
structure ViewOk (W : World) (p : Place) (r : Row) : Prop where
  ne : 0 < r.tm.length
  n : r.n ≤ p.cap
  cap : p.cap ≤ maxLen
  nil : p.nil = true → p.cap = 0
  ex : ∃ arr, (p.nil = false → 0 < r.n → p.blk < W.heap.size ∧ ∃ t fz, W.heap[p.blk]? = some (.cells arr t fz)) ∧ RowIn r arr p.off
/-- its numbers in their kinds, and no other columns -/
def wfCol : Value → Col → Nat → Prop
  | .int k _, c, n => c = colI c.i ∧ c.i.length = n ∧ ∀ x ∈ c.i, (Lit.int k x).wf = true
  | .bool _, c, n => c = colB c.b ∧ c.b.length = n
  | .string _, c, n => c = colS c.s ∧ c.s.length = n ∧ ∀ x ∈ c.s, x.size ≤ maxLen
  | _, _, _ => False
def wfCols : List Value → List Col → Nat → Prop
  | [], [], _ => True
  | t :: tm, c :: cs, n => wfCol t c n ∧ wfCols tm cs n
  | _, _, _ => False
def cellAt (W : World) (a : Addr) : Value := (W.cell? a).getD undef
/-- a column out of memory -/
def colAt (W : World) (b o s n f : Nat) (t : Value) : Col :=
  match t with
  | .int _ _ => colI ((List.range n).map fun e => match cellAt W ⟨b, o + (e * s + f), none⟩ with
    | .int _ x => x
    | _ => 0)
  | .bool _ => colB ((List.range n).map fun e => match cellAt W ⟨b, o + (e * s + f), none⟩ with
    | .bool x => x
    | _ => false)
  | .string _ => colS ((List.range n).map fun e => match cellAt W ⟨b, o + (e * s + f), none⟩ with
    | .string x => x
    | _ => ⟨#[]⟩)
  | _ => noCol
def colsAt (W : World) (b o s n : Nat) : Nat → List Value → List Col
  | _, [] => []
  | f, t :: tm => colAt W b o s n f t :: colsAt W b o s n (f + 1) tm
theorem colsAt_get (W : World) (b o s n : Nat) : ∀ (tm : List Value) (f0 f : Nat), (colsAt W b o s n f0 tm).length = tm.length ∧ (colsAt W b o s n f0 tm)[f]? = (tm[f]?).map (colAt W b o s n (f0 + f))
  | [], f0, f => ⟨rfl, by rfl⟩
  | t :: tm, f0, f => by
    obtain ⟨h1, h2⟩ := colsAt_get W b o s n tm (f0 + 1) (f - 1)
    grind[colsAt]
theorem wfCols_of : ∀ {tm : List Value} {cs : List Col} {n : Nat}, cs.length = tm.length → (∀ (f : Nat) (t : Value) (c : Col), tm[f]? = some t → cs[f]? = some c → wfCol t c n) → wfCols tm cs n
  | [], [], _, _, _ => trivial
  | [], _ :: _, _, h, _ => by simp at h
  | _ :: _, [], _, h, _ => by simp at h
  | t :: tm, c :: cs, n, h, hf => ⟨hf 0 t c rfl rfl, wfCols_of (by grind) fun f t c h1 h2 => hf (f + 1) t c h1 h2⟩
theorem tm_plain {P : Program} : ∀ (m : Nat) (t : TypeId) (tm : List Value), tmOf P m t = some tm → ∀ v ∈ tm, (∃ k, v = .int k 0) ∨ v = .bool false ∨ v = .string ⟨#[]⟩
  | 0, _, _, h => by simp [tmOf] at h
  | m + 1, t, tm, h => by
    simp only [tmOf] at h
    split at h
    · grind
    · grind
    · grind
    · have key : ∀ (fs : List Field) (off : Nat) (tm : List Value), tmFs P (tmOf P m) off fs = some tm → ∀ v ∈ tm, (∃ k, v = .int k 0) ∨ v = .bool false ∨ v = .string ⟨#[]⟩ := by
        intro fs
        induction fs with
        | nil => grind[tmFs]
        | cons f fs ih =>
          intro off tm h v hv
          simp only [tmFs] at h
          split at h
          · rename_i tm1 h1
            split at h
            · split at h
              · injection h with h
                subst h
                rcases List.mem_append.1 hv with hv | hv
                · exact tm_plain m _ _ h1 v hv
                grind
              · cases h
            · cases h
          · cases h
      grind
    · split at h
      · rename_i tm1 h1
        split at h
        · injection h with h; subst h; exact fun v hv => tm_plain m _ _ h1 v (mem_repF hv)
        · cases h
      · cases h
    · cases h
/-- an argument that is a slice of plain elements -/
theorem slice_arg {H : Type} {enc : TypeId × Value → H} {P : Program} {W : World} {base : Nat} {t el : TypeId} {v : Value} {d : DataW H} {pl : List MemPlace} {tm : List Value} {m : Nat}
    (ht : P.underlying t = some (.slice el)) (htm : tmOf P m el = some tm) (hne : 0 < tm.length) (hcl : P.cellsOf el = tm.length) (hmx : 0 < tm.length ∧ tm.length < 1000)
    (hv : Value.okWide P W .any base t v) (h : DataW.Trod enc P W 0 (fun _ => true) true t v d pl) :
    ∃ (p : Place) (r : Row), r.tm = tm ∧ wfCols tm r.cols r.n ∧ ViewOk W p r ∧ ∀ (ρ : Env) (i : Nat), ρ i = p → v = ren ρ (.slice (some ⟨i, 0, some (1000 * tm.length)⟩) r.n 0) := by
  obtain ⟨a0, len, cap, rfl⟩ := okWide_slice ht hv
  obtain ⟨fuel, hf⟩ := h
  rcases open_slice ht hf with ⟨hcs, _⟩ | ⟨a, l, c, mm, n, D, Pl, hcs, _, hl, hm, hmm, _, hi⟩
  · obtain ⟨rfl, rfl, rfl⟩ := hcs
    refine ⟨⟨0, 0, 0, true⟩, ⟨tm, 0, colsAt W 0 0 tm.length 0 0 tm⟩, rfl, ?_, ⟨hne, Nat.le_refl _, Nat.zero_le _, fun _ => rfl, ⟨#[], (fun h => by cases h), ?_⟩⟩, fun ρ i hρ => ?_⟩
    · refine wfCols_of (colsAt_get W 0 0 tm.length 0 tm 0 0).1 fun f t c h1 h2 => ?_
      have h3 := (colsAt_get W 0 0 tm.length 0 tm 0 f).2
      rw [h1, h2] at h3
      simp only [Option.map_some, Option.some.injEq] at h3
      subst h3
      rcases tm_plain _ _ _ htm t (List.mem_of_getElem? h1) with ⟨k, rfl⟩ | rfl | rfl <;> simp [colAt, wfCol, colI, colB, colS]
    · refine ⟨(colsAt_get W 0 0 tm.length 0 tm 0 0).1, fun f t c h1 h2 => ?_, fun f t c e h1 h2 he => by simp at he⟩
      have h3 := (colsAt_get W 0 0 tm.length 0 tm 0 f).2
      rw [h1, h2] at h3
      simp only [Option.map_some, Option.some.injEq] at h3
      subst h3
      rcases tm_plain _ _ _ htm t (List.mem_of_getElem? h1) with ⟨k, rfl⟩ | rfl | rfl <;> simp [colAt, colOk, colI, colB, colS]
    grind[ren,renS]
  · obtain ⟨rfl, rfl, rfl⟩ := hcs
    have hmc : mm = cap := by grind
    have hel : ∀ e, e < cap → ∃ cs, okCells tm cs ∧ ∀ f, f < tm.length → W.cell? ((a.add (e * tm.length)).add f) = cs[f]? := by
      intro e he
      obtain ⟨cs', hc, ht'⟩ := hi e (by omega)
      rw [hcl] at hc
      obtain ⟨_, hlen, hat⟩ := World.cells?_some hc
      exact ⟨cs', tmOf_ok _ _ _ _ _ _ htm ht', hat⟩
    have hspot : a.spot = none := by
      simp only [Value.okWide, ht, Cell.okWide, Cell.ok] at hv
      exact hv.2.2.2.1
    obtain ⟨b, o, spot⟩ := a
    subst hspot
    have hat : ∀ e f, e < cap → f < tm.length → ∃ t v, tm[f]? = some t ∧ W.cell? ⟨b, o + (e * tm.length + f), none⟩ = some v ∧ okCell t v := by
      intro e f he hf
      obtain ⟨cs, hok, hc⟩ := hel e he
      obtain ⟨v, hv, hk⟩ := okCells_get hok (List.getElem?_eq_getElem hf)
      grind[add_at]
    have hwf : ∀ (f : Nat) (t : Value), tm[f]? = some t → wfCol t (colAt W b o tm.length len f t) len ∧ ∀ e, e < len → W.cell? ⟨b, o + (e * tm.length + f), none⟩ = some (cellVal t (colAt W b o tm.length len f t) e) := by
      intro f t ht1
      have hf : f < tm.length := (List.getElem?_eq_some_iff.1 ht1).1
      have hall : ∀ e, e < len → ∃ v, W.cell? ⟨b, o + (e * tm.length + f), none⟩ = some v ∧ okCell t v := fun e he => by
        obtain ⟨t', v, h1, h2, h3⟩ := hat e f (by omega) hf
        grind
      rcases tm_plain _ _ _ htm t (List.mem_of_getElem? ht1) with ⟨k, rfl⟩ | rfl | rfl
      · refine ⟨⟨rfl, by simp [colAt, colI], fun x hx => ?_⟩, fun e he => ?_⟩
        · simp only [colAt, colI, List.mem_map, List.mem_range] at hx
          obtain ⟨e, he, rfl⟩ := hx
          obtain ⟨v, h1, h2⟩ := hall e he
          cases v <;> simp only [okCell] at h2
          grind[cellAt]
        · obtain ⟨v, h1, h2⟩ := hall e he
          cases v <;> simp only [okCell] at h2
          grind[cellVal,colAt,colI,cellAt]
      · refine ⟨⟨rfl, by simp [colAt, colB]⟩, fun e he => ?_⟩
        obtain ⟨v, h1, h2⟩ := hall e he
        cases v <;> simp only [okCell] at h2
        grind[cellVal,colAt,colB,cellAt]
      · refine ⟨⟨rfl, by simp [colAt, colS], fun x hx => ?_⟩, fun e he => ?_⟩
        · simp only [colAt, colS, List.mem_map, List.mem_range] at hx
          obtain ⟨e, he, rfl⟩ := hx
          obtain ⟨v, h1, h2⟩ := hall e he
          cases v <;> simp only [okCell] at h2
          simp only [cellAt, h1, Option.getD_some]
          exact h2
        · obtain ⟨v, h1, h2⟩ := hall e he
          cases v <;> simp only [okCell] at h2
          rw [h1]
          simp [cellVal, colAt, colS, he, cellAt, h1]
    have hcol : ∀ (f : Nat) (t : Value) (c : Col), tm[f]? = some t → (colsAt W b o tm.length len 0 tm)[f]? = some c → c = colAt W b o tm.length len f t := fun f t c h1 h2 => by
      have h3 := (colsAt_get W b o tm.length len tm 0 f).2
      rw [h1, h2] at h3
      simpa using h3
    have hlen := (colsAt_get W b o tm.length len tm 0 0).1
    have hrow : ∀ arr, (0 < len → ∃ t fz, W.heap[b]? = some (.cells arr t fz)) → RowIn ⟨tm, len, colsAt W b o tm.length len 0 tm⟩ arr o := by
      intro arr harr
      refine ⟨hlen, fun f t c h1 h2 => ?_, fun f t c e h1 h2 he => ?_⟩
      · rw [hcol f t c h1 h2]
        have := (hwf f t h1).1
        rcases tm_plain _ _ _ htm t (List.mem_of_getElem? h1) with ⟨k, rfl⟩ | rfl | rfl <;> simp [colAt, colOk, colI, colB, colS]
      · rw [hcol f t c h1 h2]
        obtain ⟨t', fz, hb⟩ := harr (by simp only at he; omega)
        rw [← (hwf f t h1).2 e he, cell_of_row W b _ arr t' fz hb]
    refine ⟨⟨b, o, cap, false⟩, ⟨tm, len, colsAt W b o tm.length len 0 tm⟩, rfl, wfCols_of hlen fun f t c h1 h2 => by rw [hcol f t c h1 h2]; exact (hwf f t h1).1, ⟨hne, hl, hm, (fun h => by cases h), ?_⟩, fun ρ i hρ => ?_⟩
    · by_cases h0 : 0 < len
      · obtain ⟨t, v, _, h2, _⟩ := hat 0 0 (by omega) hne
        unfold World.cell? at h2
        simp only [Option.isSome_none, Bool.false_eq_true, if_false] at h2
        split at h2
        · rename_i arr t' fz hb
          exact ⟨arr, fun _ _ => ⟨by have := Array.getElem?_eq_some_iff.1 hb; exact this.1, _, _, hb⟩, hrow arr fun _ => ⟨_, _, hb⟩⟩
        · cases h2
      · exact ⟨#[], fun _ h => absurd h h0, hrow #[] fun h => absurd h h0⟩
    grind[ren,renS,renA,cellOf]
/-- rows in a world's memory, as a heap of rows that are only read -/
def viewsHp {R : Type} : List (Place × Row) → Hp R
  | [] => []
  | x :: l => some (.inr (.inr (.inl x.2))) :: viewsHp l
theorem viewsHp_get {R : Type} : ∀ {l : List (Place × Row)} {i : Nat} {B : SB R}, (viewsHp l : Hp R)[i]? = some (some B) → ∃ x, l[i]? = some x ∧ B = .inr (.inr (.inl x.2))
  := by intro a;induction a<;>intros<;>grind[viewsHp]
def viewsE (l : List (Place × Row)) : Env := fun i => match l[i]? with
  | some x => x.1
  | none => ⟨0, 0, 0, true⟩
theorem views_HM {R : Type} {D : Res R} {W : World} {l : List (Place × Row)} (h : ∀ x ∈ l, ViewOk W x.1 x.2) (hg : Glob W fun _ => False) (n : Nat) : HM D ⟨W, fun _ => False, viewsE l, n⟩ (viewsE l) (fun _ _ => False) (viewsHp l) W where
  at_ i B hB := by
    obtain ⟨x, hx, rfl⟩ := viewsHp_get hB
    obtain ⟨h1, h2, h3, h4, arr, h5, h6⟩ := h x (List.mem_of_getElem? hx)
    have e : viewsE l i = x.1 := by simp [viewsE, hx]
    refine ⟨?_, trivial⟩
    grind[hold]
  lt i k hk := hk.elim
  fresh i k hk := hk.elim
  apart i j k hk := hk.elim
  some_ i k hk := hk.elim
  kept := Kept.refl _ _
  gl := hg
theorem Kept.below {W W' : World} (h : Kept (fun _ => False) W W') : Below W.heap.size W W' := ⟨h.os, h.tape, h.output, h.size, fun k hk => h.block k hk fun hf => hf⟩
/-- a law, out of its run -/
theorem law_calls {R : Type} {D : Res R} {P : Program} {f : FuncId} {fn : Func} {root : Code} {args : List Value} {W : World} (l : List (Place × Row)) (hf : P.funcs[f]? = some fn) (hb : fn.body = some root)
    (hW : ∀ x ∈ l, ViewOk W x.1 x.2) (hg : Glob W fun _ => False) (hi : inbL (viewsHp l : Hp R).length args = true)
    (h : At D P root (viewsHp l : Hp R).length (retK P fn.results.toList fun v _ => v = .bool true) [.inl []] ⟨someL args ++ List.replicate (fn.ntmps - args.length) none, [], viewsHp l⟩) :
    Calls P f (args.map (ren (viewsE l))).toArray W fun e W' => e = .returned (.bool true) ∧ Below W.heap.size W W' := by
  refine (calls_At hf hb h (views_HM hW hg 0) hi).mono fun e w' ⟨ρ', ft', v, hp', _, h2, h3, h4⟩ => ?_
  subst h3
  exact ⟨by simp[*], Kept.below h4.kept⟩
end Go.Proofs.YtobdpddamdkabaaDoor.Rx
