/- Symbolic runs: the blocks of a run numbered anew. Nothing of the program. -/
import Derived.Test.YtloibbakklenbaaRxGo
namespace Go.Proofs.Ytloibbakklenbaa.Rx
open Go.RowKit Go.Proofs.Ytloibbakklenbaa.State
set_option linter.unusedVariables false
set_option linter.unusedSimpArgs false
def mvQ (s : Nat → Nat) (q : Nat) : Nat :=
  match Nat.blt q 1000000 with
  | true => q
  | false => q % 1000000 + 1000000 * (s (q / 1000000 - 1) + 1)
def mvA (s : Nat → Nat) (a : Addr) : Addr :=
  match a with
  | ⟨b, o, none⟩ => ⟨s b, o, none⟩
  | ⟨b, o, some q⟩ => ⟨s b, o, some (mvQ s q)⟩
mutual
/-- blocks numbered anew -/
def mvV (s : Nat → Nat) : Value → Value
  | .pointer (some a) => .pointer (some (mvA s a))
  | .slice (some a) n c => .slice (some (mvA s a)) n c
  | .map (some r) => .map (some (s r))
  | .chan (some r) => .chan (some (s r))
  | .agg ⟨l⟩ => .agg ⟨mvL s l⟩
  | .tuple ⟨l⟩ => .tuple ⟨mvL s l⟩
  | .func fn ⟨f⟩ ⟨c⟩ => .func fn ⟨mvL s f⟩ ⟨mvL s c⟩
  | .iface t v => .iface t (mvV s v)
  | v => v
def mvL (s : Nat → Nat) : List Value → List Value
  | [] => []
  | v :: l => mvV s v :: mvL s l
end
def onQ (p : Nat → Bool) (q : Nat) : Bool :=
  match Nat.blt q 1000000 with
  | true => true
  | false => p (q / 1000000 - 1)
def onA (p : Nat → Bool) (a : Addr) : Bool :=
  match a with
  | ⟨b, _, none⟩ => p b
  | ⟨b, _, some q⟩ => p b && onQ p q
mutual
/-- every block in it is one of p -/
def onV (p : Nat → Bool) : Value → Bool
  | .pointer (some a) => onA p a
  | .slice (some a) _ _ => onA p a
  | .map (some r) | .chan (some r) => p r
  | .agg ⟨l⟩ => onL p l
  | .tuple ⟨l⟩ => onL p l
  | .func _ ⟨f⟩ ⟨c⟩ => onL p f && onL p c
  | .iface _ v => onV p v
  | _ => true
def onL (p : Nat → Bool) : List Value → Bool
  | [] => true
  | v :: l => onV p v && onL p l
end
section
variable {ρ ρ' : Env} {s u : Nat → Nat} {p : Nat → Bool} {n m : Nat}
theorem blt_iff {a b : Nat} : Nat.blt a b = true ↔ a < b := by rw [Nat.blt_eq]
theorem mvQ_lt {q : Nat} (s : Nat → Nat) (h : q < 1000000) : mvQ s q = q := by
  unfold mvQ; rw [blt_iff.2 h]
theorem mvQ_ge {q : Nat} (s : Nat → Nat) (h : ¬ q < 1000000) : mvQ s q = q % 1000000 + 1000000 * (s (q / 1000000 - 1) + 1) := by
  unfold mvQ
  split
  · rename_i hb; exact absurd (blt_iff.1 hb) h
  · rfl
theorem mvQ_mod (s : Nat → Nat) (q : Nat) : mvQ s q % 1000000 = q % 1000000 := by
  by_cases h : q < 1000000
  · rw [mvQ_lt s h]
  · rw [mvQ_ge s h]; omega
theorem mvQ_div (s : Nat → Nat) (q : Nat) : mvQ s q / 1000000 = if q / 1000000 = 0 then 0 else s (q / 1000000 - 1) + 1 := by
  by_cases h : q < 1000000
  · rw [mvQ_lt s h, if_pos (by omega)]; omega
  · rw [mvQ_ge s h, if_neg (by omega)]; omega
theorem mvQ_mvQ (s u : Nat → Nat) (q : Nat) : mvQ s (mvQ u q) = mvQ (fun i => s (u i)) q := by
  by_cases h : q < 1000000
  · rw [mvQ_lt u h, mvQ_lt s h, mvQ_lt _ h]
  · rw [mvQ_ge u h, mvQ_ge _ h, mvQ_ge s (by omega)]
    have e1 : (q % 1000000 + 1000000 * (u (q / 1000000 - 1) + 1)) % 1000000 = q % 1000000 := by omega
    have e2 : (q % 1000000 + 1000000 * (u (q / 1000000 - 1) + 1)) / 1000000 - 1 = u (q / 1000000 - 1) := by omega
    rw [e1, e2]
theorem cellOf_mv (s : Nat → Nat) (e q : Nat) : cellOf e (some (mvQ s q)) = cellOf e (some q) := by
  have h := mvQ_mod s q
  simp only [cellOf, h]
  rw [← Nat.mod_mod_of_dvd (mvQ s q) (by decide : 1000 ∣ 1000000), h, Nat.mod_mod_of_dvd q (by decide : 1000 ∣ 1000000)]
theorem renA_mv (a : Addr) : renA ρ (mvA s a) = renA (fun i => ρ (s i)) a := by
  obtain ⟨b, o, q⟩ := a
  cases q with
  | none => rfl
  | some q => simp only [mvA, renA, cellOf_mv]
theorem renS_some (ρ : Env) (b o q k c : Nat) : renS ρ ⟨b, o, some q⟩ k c = if (ρ b).nil = true then .slice none k 0
    else if q / 1000000 ≠ 0 ∧ (ρ b).cap ≤ o then .slice (some ⟨(ρ (q / 1000000 - 1)).blk, (ρ (q / 1000000 - 1)).off, none⟩) k 0
    else .slice (some (renA ρ ⟨b, o, some q⟩)) k ((ρ b).cap - o) := rfl
theorem renS_mv (a : Addr) (k c : Nat) : renS ρ (mvA s a) k c = renS (fun i => ρ (s i)) a k c := by
  have h := renA_mv (ρ := ρ) (s := s) a
  obtain ⟨b, o, q⟩ := a
  cases q with
  | none => simp only [mvA, renS] at *; rw [h]
  | some q =>
    show renS ρ ⟨s b, o, some (mvQ s q)⟩ k c = _
    have h : renA ρ ⟨s b, o, some (mvQ s q)⟩ = _ := h
    rw [renS_some, renS_some, h, mvQ_div]
    by_cases hn : (ρ (s b)).nil = true
    · rw [if_pos hn, if_pos hn]
    · rw [if_neg hn, if_neg hn]
      by_cases h0 : q / 1000000 = 0
      · rw [if_pos h0, if_neg (by simp), if_neg (by simp [h0])]
      · rw [if_neg h0]
        by_cases hc : (ρ (s b)).cap ≤ o
        · rw [if_pos ⟨by omega, hc⟩, if_pos ⟨h0, hc⟩]; rfl
        · rw [if_neg (fun hh => hc hh.2), if_neg (fun hh => hc hh.2)]
mutual
theorem ren_mv : ∀ v, ren ρ (mvV s v) = ren (fun i => ρ (s i)) v
  | .pointer (some a) => by simp only [mvV, ren, renA_mv]
  | .pointer none => by simp [mvV, ren]
  | .slice (some a) k c => by simp only [mvV, ren, renS_mv]
  | .slice none _ _ => by simp [mvV, ren]
  | .map (some r) => by simp [mvV, ren]
  | .map none => by simp [mvV, ren]
  | .chan (some r) => by simp [mvV, ren]
  | .chan none => by simp [mvV, ren]
  | .agg ⟨l⟩ => by simp only [mvV, ren, renL_mv l]
  | .tuple ⟨l⟩ => by simp only [mvV, ren, renL_mv l]
  | .func fn ⟨f⟩ ⟨c⟩ => by simp only [mvV, ren, renL_mv f, renL_mv c]
  | .iface t v => by simp only [mvV, ren, ren_mv v]
  | .int _ _ => by simp [mvV]
  | .bool _ => by simp [mvV]
  | .string _ => by simp [mvV]
  | .float _ _ => by simp [mvV, ren]
  | .complex _ _ _ => by simp [mvV, ren]
  | .nilFunc => by simp [mvV, ren]
  | .nilIface => by simp [mvV, ren]
theorem renL_mv : ∀ l, renL ρ (mvL s l) = renL (fun i => ρ (s i)) l
  | [] => by simp [mvL, renL]
  | v :: l => by simp only [mvL, renL, ren_mv v, renL_mv l]
end
theorem onA_block {a : Addr} (h : onA p a = true) : p a.block = true ∧ ∀ q, a.spot = some q → onQ p q = true := by
  obtain ⟨b, o, q⟩ := a
  cases q with
  | none => exact ⟨h, fun q e => by cases e⟩
  | some q =>
    simp only [onA, Bool.and_eq_true] at h
    exact ⟨h.1, fun q' e => by injection e with e; subst e; exact h.2⟩
theorem onQ_tag {q : Nat} (h : onQ p q = true) (h0 : q / 1000000 ≠ 0) : p (q / 1000000 - 1) = true := by
  unfold onQ at h
  split at h
  · rename_i hb
    have := blt_iff.1 hb
    omega
  · exact h
theorem onQ_lt {q : Nat} (p : Nat → Bool) (h : q < 1000000) : onQ p q = true := by
  unfold onQ; rw [blt_iff.2 h]
theorem onQ_ge {q : Nat} (p : Nat → Bool) (h : ¬ q < 1000000) : onQ p q = p (q / 1000000 - 1) := by
  unfold onQ
  split
  · rename_i hb; exact absurd (blt_iff.1 hb) h
  · rfl
theorem onQ_mv {p' : Nat → Bool} {t : Nat} (h : ∀ i, p i = true → p' (s i) = true) (ht : onQ p t = true) : onQ p' (mvQ s t) = true := by
  by_cases hq : t < 1000000
  · rw [mvQ_lt s hq]; exact onQ_lt p' hq
  · rw [onQ_ge p hq] at ht
    have hge : ¬ mvQ s t < 1000000 := by rw [mvQ_ge s hq]; omega
    rw [onQ_ge p' hge, mvQ_div, if_neg (by omega)]
    exact h _ ht
theorem renA_on {a : Addr} (h : ∀ i, p i = true → ρ i = ρ' i) (ha : onA p a = true) : renA ρ a = renA ρ' a := by
  unfold renA; rw [h _ (onA_block ha).1]
theorem renS_on {a : Addr} {k c : Nat} (h : ∀ i, p i = true → ρ i = ρ' i) (ha : onA p a = true) : renS ρ a k c = renS ρ' a k c := by
  unfold renS
  rw [renA_on h ha, h _ (onA_block ha).1]
  cases hs : a.spot with
  | none => rfl
  | some q =>
    simp only
    split
    · rfl
    · split
      · rename_i hq
        rw [h (q / 1000000 - 1) (onQ_tag ((onA_block ha).2 q hs) hq.1)]
      · rfl
mutual
theorem ren_on (h : ∀ i, p i = true → ρ i = ρ' i) : ∀ v, onV p v = true → ren ρ v = ren ρ' v
  | .pointer (some a), hv => by simp only [onV] at hv; simp only [ren, renA_on h hv]
  | .pointer none, _ => by simp [ren]
  | .slice (some a) k c, hv => by simp only [onV] at hv; simp only [ren, renS_on h hv]
  | .slice none _ _, _ => by simp [ren]
  | .map (some r), hv => by simp only [onV] at hv; simp [ren, h _ hv]
  | .map none, _ => by simp [ren]
  | .chan (some r), hv => by simp only [onV] at hv; simp [ren, h _ hv]
  | .chan none, _ => by simp [ren]
  | .agg ⟨l⟩, hv => by simp only [onV] at hv; simp only [ren, renL_on h l hv]
  | .tuple ⟨l⟩, hv => by simp only [onV] at hv; simp only [ren, renL_on h l hv]
  | .func fn ⟨f⟩ ⟨c⟩, hv => by
    simp only [onV, Bool.and_eq_true] at hv
    simp only [ren, renL_on h f hv.1, renL_on h c hv.2]
  | .iface t v, hv => by simp only [onV] at hv; simp only [ren, ren_on h v hv]
  | .int _ _, _ => by simp
  | .bool _, _ => by simp
  | .string _, _ => by simp
  | .float _ _, _ => by simp [ren]
  | .complex _ _ _, _ => by simp [ren]
  | .nilFunc, _ => by simp [ren]
  | .nilIface, _ => by simp [ren]
theorem renL_on (h : ∀ i, p i = true → ρ i = ρ' i) : ∀ l, onL p l = true → renL ρ l = renL ρ' l
  | [], _ => rfl
  | v :: l, hv => by
    simp only [onL, Bool.and_eq_true] at hv
    simp only [renL, ren_on h v hv.1, renL_on h l hv.2]
end
theorem mvA_mvA (a : Addr) : mvA s (mvA u a) = mvA (fun i => s (u i)) a := by
  obtain ⟨b, o, q⟩ := a
  cases q with
  | none => rfl
  | some q => simp only [mvA]; rw [mvQ_mvQ]
mutual
theorem mv_mv : ∀ v, mvV s (mvV u v) = mvV (fun i => s (u i)) v
  | .pointer (some a) => by simp only [mvV, mvA_mvA]
  | .pointer none => by simp [mvV]
  | .slice (some a) k c => by simp only [mvV, mvA_mvA]
  | .slice none _ _ => by simp [mvV]
  | .map (some r) => by simp [mvV]
  | .map none => by simp [mvV]
  | .chan (some r) => by simp [mvV]
  | .chan none => by simp [mvV]
  | .agg ⟨l⟩ => by simp only [mvV, mvL_mvL l]
  | .tuple ⟨l⟩ => by simp only [mvV, mvL_mvL l]
  | .func fn ⟨f⟩ ⟨c⟩ => by simp only [mvV, mvL_mvL f, mvL_mvL c]
  | .iface t v => by simp only [mvV, mv_mv v]
  | .int _ _ => by simp [mvV]
  | .bool _ => by simp [mvV]
  | .string _ => by simp [mvV]
  | .float _ _ => by simp [mvV]
  | .complex _ _ _ => by simp [mvV]
  | .nilFunc => by simp [mvV]
  | .nilIface => by simp [mvV]
theorem mvL_mvL : ∀ l, mvL s (mvL u l) = mvL (fun i => s (u i)) l
  | [] => by simp [mvL]
  | v :: l => by simp only [mvL, mv_mv v, mvL_mvL l]
end
theorem mvA_id {a : Addr} (h : ∀ i, p i = true → s i = i) (ha : onA p a = true) : mvA s a = a := by
  have h1 := (onA_block ha).1
  have h2 := (onA_block ha).2
  obtain ⟨b, o, q⟩ := a
  cases q with
  | none => simp only [mvA]; rw [h b h1]
  | some q =>
    simp only [mvA]
    rw [h b h1]
    congr 2
    by_cases hq : q < 1000000
    · exact mvQ_lt s hq
    · rw [mvQ_ge s hq, h _ (onQ_tag (h2 q rfl) (by omega))]
      omega
mutual
theorem mv_id (h : ∀ i, p i = true → s i = i) : ∀ v, onV p v = true → mvV s v = v
  | .pointer (some a), hv => by simp only [onV] at hv; simp only [mvV, mvA_id h hv]
  | .pointer none, _ => by simp [mvV]
  | .slice (some a) k c, hv => by simp only [onV] at hv; simp only [mvV, mvA_id h hv]
  | .slice none _ _, _ => by simp [mvV]
  | .map (some r), hv => by simp only [onV] at hv; simp [mvV, h _ hv]
  | .map none, _ => by simp [mvV]
  | .chan (some r), hv => by simp only [onV] at hv; simp [mvV, h _ hv]
  | .chan none, _ => by simp [mvV]
  | .agg ⟨l⟩, hv => by simp only [onV] at hv; simp only [mvV, mvL_id h l hv]
  | .tuple ⟨l⟩, hv => by simp only [onV] at hv; simp only [mvV, mvL_id h l hv]
  | .func fn ⟨f⟩ ⟨c⟩, hv => by
    simp only [onV, Bool.and_eq_true] at hv
    simp only [mvV, mvL_id h f hv.1, mvL_id h c hv.2]
  | .iface t v, hv => by simp only [onV] at hv; simp only [mvV, mv_id h v hv]
  | .int _ _, _ => by simp [mvV]
  | .bool _, _ => by simp [mvV]
  | .string _, _ => by simp [mvV]
  | .float _ _, _ => by simp [mvV]
  | .complex _ _ _, _ => by simp [mvV]
  | .nilFunc, _ => by simp [mvV]
  | .nilIface, _ => by simp [mvV]
theorem mvL_id (h : ∀ i, p i = true → s i = i) : ∀ l, onL p l = true → mvL s l = l
  | [], _ => by simp [mvL]
  | v :: l, hv => by
    simp only [onL, Bool.and_eq_true] at hv
    simp only [mvL, mv_id h v hv.1, mvL_id h l hv.2]
end
theorem inb_mvA {a : Addr} {k c : Nat} (h : ∀ i, i < n → s i < m) (hv : inb n (.slice (some a) k c) = true) : inb m (.slice (some (mvA s a)) k c) = true := by
  obtain ⟨b, o, q⟩ := a
  simp only [inb, Bool.and_eq_true, Nat.blt_eq, Nat.ble_eq] at hv ⊢
  cases q with
  | none =>
    simp only [mvA, tagB]
    exact ⟨h b hv.1, Nat.zero_le _⟩
  | some q =>
    simp only [mvA, tagB] at hv ⊢
    refine ⟨h b hv.1, ?_⟩
    rw [mvQ_div]
    split
    · omega
    · rename_i h0
      have := h (q / 1000000 - 1) (by omega)
      omega
theorem inb_mvP {a : Addr} (h : ∀ i, i < n → s i < m) (hv : inb n (.pointer (some a)) = true) : inb m (.pointer (some (mvA s a))) = true := by
  obtain ⟨b, o, q⟩ := a
  simp only [inb, Nat.blt_eq] at hv ⊢
  cases q <;> exact h b hv
mutual
theorem inb_mv (h : ∀ i, i < n → s i < m) : ∀ v, inb n v = true → inb m (mvV s v) = true
  | .pointer (some a), hv => by simp only [mvV]; exact inb_mvP h hv
  | .pointer none, _ => by simp [mvV, inb]
  | .slice (some a) k c, hv => by simp only [mvV]; exact inb_mvA h hv
  | .slice none _ _, _ => by simp [mvV, inb]
  | .map (some r), hv => by simp only [mvV, inb, Nat.blt_eq] at *; exact h r hv
  | .map none, _ => by simp [mvV, inb]
  | .chan (some r), hv => by simp only [mvV, inb, Nat.blt_eq] at *; exact h r hv
  | .chan none, _ => by simp [mvV, inb]
  | .agg ⟨l⟩, hv => by simp only [mvV, inb] at *; exact inbL_mv h l hv
  | .tuple ⟨l⟩, hv => by simp only [mvV, inb] at *; exact inbL_mv h l hv
  | .func fn ⟨f⟩ ⟨c⟩, hv => by
    simp only [mvV, inb, Bool.and_eq_true] at *
    exact ⟨inbL_mv h f hv.1, inbL_mv h c hv.2⟩
  | .iface t v, hv => by simp only [mvV, inb] at *; exact inb_mv h v hv
  | .int _ _, _ => by simp [mvV, inb]
  | .bool _, _ => by simp [mvV, inb]
  | .string _, _ => by simp [mvV, inb]
  | .float _ _, _ => by simp [mvV, inb]
  | .complex _ _ _, _ => by simp [mvV, inb]
  | .nilFunc, _ => by simp [mvV, inb]
  | .nilIface, _ => by simp [mvV, inb]
theorem inbL_mv (h : ∀ i, i < n → s i < m) : ∀ l, inbL n l = true → inbL m (mvL s l) = true
  | [], _ => by simp [mvL, inbL]
  | v :: l, hv => by
    simp only [inbL, Bool.and_eq_true] at hv
    simp only [mvL, inbL, Bool.and_eq_true]
    exact ⟨inb_mv h v hv.1, inbL_mv h l hv.2⟩
end
mutual
theorem on_inb : ∀ v, onV (fun i => Nat.blt i n) v = true → inb n v = true
  | .pointer (some a), hv => by
    simp only [onV] at hv
    simpa [inb] using (onA_block hv).1
  | .pointer none, _ => by simp [inb]
  | .slice (some a) k c, hv => by
    simp only [onV] at hv
    have h1 := (onA_block hv).1
    have h2 := (onA_block hv).2
    simp only [Nat.blt_eq] at h1
    simp only [inb, Bool.and_eq_true, Nat.blt_eq, Nat.ble_eq]
    refine ⟨h1, ?_⟩
    cases hs : a.spot with
    | none => simp [tagB]
    | some q =>
      simp only [tagB]
      by_cases h0 : q / 1000000 = 0
      · omega
      · have := onQ_tag (h2 q hs) h0
        simp only [Nat.blt_eq] at this
        omega
  | .slice none _ _, _ => by simp [inb]
  | .map (some r), hv => by simpa [onV, inb] using hv
  | .map none, _ => by simp [inb]
  | .chan (some r), hv => by simpa [onV, inb] using hv
  | .chan none, _ => by simp [inb]
  | .agg ⟨l⟩, hv => by simp only [onV] at hv; simp only [inb]; exact onL_inb l hv
  | .tuple ⟨l⟩, hv => by simp only [onV] at hv; simp only [inb]; exact onL_inb l hv
  | .func fn ⟨f⟩ ⟨c⟩, hv => by
    simp only [onV, Bool.and_eq_true] at hv
    simp only [inb, Bool.and_eq_true]
    exact ⟨onL_inb f hv.1, onL_inb c hv.2⟩
  | .iface t v, hv => by simp only [onV] at hv; simp only [inb]; exact on_inb v hv
  | .int _ _, _ => by simp [inb]
  | .bool _, _ => by simp [inb]
  | .string _, _ => by simp [inb]
  | .float _ _, _ => by simp [inb]
  | .complex _ _ _, _ => by simp [inb]
  | .nilFunc, _ => by simp [inb]
  | .nilIface, _ => by simp [inb]
theorem onL_inb : ∀ l, onL (fun i => Nat.blt i n) l = true → inbL n l = true
  | [], _ => by simp [inbL]
  | v :: l, hv => by
    simp only [onL, Bool.and_eq_true] at hv
    simp only [inbL, Bool.and_eq_true]
    exact ⟨on_inb v hv.1, onL_inb l hv.2⟩
end
end
mutual
/-- slices that lie in no block below k are nil -/
def dnV (k : Nat) : Value → Value
  | .slice (some ⟨b, o, some q⟩) n c => match Nat.blt b k with
    | true => .slice (some ⟨b, o, some q⟩) n c
    | false => .slice none n 0
  | .agg ⟨l⟩ => .agg ⟨dnL k l⟩
  | .tuple ⟨l⟩ => .tuple ⟨dnL k l⟩
  | .func fn ⟨f⟩ ⟨c⟩ => .func fn ⟨dnL k f⟩ ⟨dnL k c⟩
  | .iface t v => .iface t (dnV k v)
  | v => v
def dnL (k : Nat) : List Value → List Value
  | [] => []
  | v :: l => dnV k v :: dnL k l
end
def nilP : Place := ⟨0, 0, 0, true⟩
def plusE (ρ : Env) (k : Nat) : Env := fun i => if i < k then ρ i else nilP
section
variable {ρ : Env} {k : Nat}
theorem plus_lt {i : Nat} (h : i < k) : plusE ρ k i = ρ i := by simp [plusE, h]
theorem plus_ge {i : Nat} (h : ¬ i < k) : plusE ρ k i = nilP := by simp [plusE, h]
theorem renA_plus {a : Addr} (h : a.block < k) : renA ρ a = renA (plusE ρ k) a := by unfold renA; rw [plus_lt h]
theorem renS_plus {a : Addr} {n c : Nat} (h : a.block < k) (ht : tagB a.spot ≤ k) : renS ρ a n c = renS (plusE ρ k) a n c := by
  refine renS_congr (n := k) (fun i hi => (plus_lt hi).symm) h ht
mutual
theorem ren_dn : ∀ v, inb k (dnV k v) = true → ren ρ (dnV k v) = ren (plusE ρ k) v
  | .pointer (some a), hv => by
    simp only [dnV] at hv ⊢
    exact ren_congr (n := k) (fun i hi => (plus_lt hi).symm) _ hv
  | .pointer none, _ => by simp [dnV, ren]
  | .slice (some ⟨b, o, none⟩) n c, hv => by
    simp only [dnV] at hv ⊢
    exact ren_congr (n := k) (fun i hi => (plus_lt hi).symm) _ hv
  | .slice (some ⟨b, o, some q⟩) n c, hv => by
    simp only [dnV] at hv ⊢
    split
    · rename_i hb
      rw [hb] at hv
      exact ren_congr (n := k) (fun i hi => (plus_lt hi).symm) _ hv
    · rename_i hb
      have hge : ¬ b < k := fun h => by rw [blt_iff.2 h] at hb; cases hb
      simp only [ren, renS]
      rw [plus_ge hge]
      rfl
  | .slice none _ _, _ => by simp [dnV, ren]
  | .map (some r), hv => by
    simp only [dnV] at hv ⊢
    exact ren_congr (n := k) (fun i hi => (plus_lt hi).symm) _ hv
  | .map none, _ => by simp [dnV, ren]
  | .chan (some r), hv => by
    simp only [dnV] at hv ⊢
    exact ren_congr (n := k) (fun i hi => (plus_lt hi).symm) _ hv
  | .chan none, _ => by simp [dnV, ren]
  | .agg ⟨l⟩, hv => by simp only [dnV, inb] at hv; simp only [dnV, ren, renL_dn l hv]
  | .tuple ⟨l⟩, hv => by simp only [dnV, inb] at hv; simp only [dnV, ren, renL_dn l hv]
  | .func fn ⟨f⟩ ⟨c⟩, hv => by
    simp only [dnV, inb, Bool.and_eq_true] at hv
    simp only [dnV, ren, renL_dn f hv.1, renL_dn c hv.2]
  | .iface t v, hv => by simp only [dnV, inb] at hv; simp only [dnV, ren, ren_dn v hv]
  | .int _ _, _ => by simp [dnV]
  | .bool _, _ => by simp [dnV]
  | .string _, _ => by simp [dnV]
  | .float _ _, _ => by simp [dnV, ren]
  | .complex _ _ _, _ => by simp [dnV, ren]
  | .nilFunc, _ => by simp [dnV, ren]
  | .nilIface, _ => by simp [dnV, ren]
theorem renL_dn : ∀ l, inbL k (dnL k l) = true → renL ρ (dnL k l) = renL (plusE ρ k) l
  | [], _ => by simp [dnL, renL]
  | v :: l, hv => by
    simp only [dnL, inbL, Bool.and_eq_true] at hv
    simp only [dnL, renL, ren_dn v hv.1, renL_dn l hv.2]
end
end
/-- a row of no elements -/
def noCols : List Value → List Col → Bool
  | [], [] => true
  | .int _ _ :: tm, c :: cs => c.i.isEmpty && noCols tm cs
  | .bool _ :: tm, c :: cs => c.b.isEmpty && noCols tm cs
  | .string _ :: tm, c :: cs => c.s.isEmpty && noCols tm cs
  | _, _ => false
structure NoRow (r : Row) : Prop where
  n : r.n = 0
  ne : 0 < r.tm.length
  cols : noCols r.tm r.cols = true
theorem noCols_ok : ∀ {tm : List Value} {cs : List Col}, noCols tm cs = true → cs.length = tm.length ∧ ∀ (f : Nat) (t : Value) (c : Col), tm[f]? = some t → cs[f]? = some c → colOk t c 0
  | [], [], _ => ⟨rfl, fun f t c h => by simp at h⟩
  | [], _ :: _, h => by simp [noCols] at h
  | v :: tm, [], h => by cases v <;> simp [noCols] at h
  | v :: tm, c :: cs, h => by
    have : colOk v c 0 ∧ noCols tm cs = true := by
      cases v <;> simp only [noCols, Bool.and_eq_true, List.isEmpty_iff] at h <;> first | exact ⟨by simp [colOk, h.1], h.2⟩ | cases h
    obtain ⟨h1, h2⟩ := noCols_ok this.2
    refine ⟨by simp [h1], fun f t c' ht hc => ?_⟩
    cases f with
    | zero =>
      simp only [List.getElem?_cons_zero, Option.some.injEq] at ht hc
      subst ht; subst hc
      exact this.1
    | succ f =>
      simp only [List.getElem?_cons_succ] at ht hc
      exact h2 f t c' ht hc
section
variable {R : Type} {D : Res R} {C : Ctx} {ρ ρn : Env} {ft : Nat → Nat → Prop} {w : World} {h hn : Hp R}
theorem hold_none {b : Nat} {F : Nat → Prop} {t : TypeId} {r : Row} (hr : NoRow r) (hp : ρ b = nilP) (hF : ∀ k, ¬ F k) : hold D C ρ b F w (.inr (.inl (t, r))) := by
  obtain ⟨c1, c2⟩ := noCols_ok hr.cols
  simp only [hold, hp, nilP]
  refine ⟨fun k => ⟨fun hk => absurd hk (hF k), fun hk => by cases hk.1⟩, hr.ne, by rw [hr.n]; exact Nat.le_refl _, Nat.zero_le _, by simp, #[], (fun hk => by cases hk), ⟨c1, fun f t c ht hc => by rw [hr.n]; exact c2 f t c ht hc, fun f t c e _ _ he => by rw [hr.n] at he; omega⟩⟩
def headCol (n : Nat) (c : Col) : Col := ⟨c.i.take n, c.b.take n, c.s.take n⟩
/-- the first elements of a row -/
structure RowLt (r' r : Row) : Prop where
  tm : r'.tm = r.tm
  n : r'.n ≤ r.n
  cols : r'.cols = r.cols.map (headCol r'.n)
theorem colOk_take {t : Value} {c : Col} {n m : Nat} (h : colOk t c n) (hm : m ≤ n) : colOk t (headCol m c) m := by
  cases t <;> simp only [colOk, headCol] at h ⊢ <;> first | exact h | (rw [List.length_take]; omega)
theorem cellVal_take {t : Value} {c : Col} {m e : Nat} (h : e < m) : cellVal t (headCol m c) e = cellVal t c e := by
  cases t <;> simp only [cellVal, headCol, List.getD_eq_getElem?_getD, List.getElem?_take, h, if_true]
theorem RowIn.lt {r' r : Row} {arr : Array Value} {o : Nat} (h : RowIn r arr o) (hl : RowLt r' r) : RowIn r' arr o where
  len := by rw [hl.cols, hl.tm, List.length_map]; exact h.len
  col f t c ht hc := by
    rw [hl.tm] at ht
    rw [hl.cols, List.getElem?_map] at hc
    cases hc' : r.cols[f]? with
    | none => rw [hc'] at hc; cases hc
    | some c0 =>
      rw [hc'] at hc
      injection hc with hc
      subst hc
      exact colOk_take (h.col f t c0 ht hc') hl.n
  cell f t c e ht hc he := by
    rw [hl.tm] at ht ⊢
    rw [hl.cols, List.getElem?_map] at hc
    cases hc' : r.cols[f]? with
    | none => rw [hc'] at hc; cases hc
    | some c0 =>
      rw [hc'] at hc
      injection hc with hc
      subst hc
      rw [cellVal_take he]
      exact h.cell f t c0 e ht hc' (Nat.lt_of_lt_of_le he hl.n)
def RowLe (r' r : Row) : Prop := r' = r ∨ RowLt r' r
def LikeI (y x : (TypeId × Row) ⊕ Row ⊕ R) : Prop :=
  match y, x with
  | .inl (t, r), .inl (t', r') => t' = t ∧ RowLe r' r
  | .inl _, .inr _ => False
  | .inr _, .inl _ => False
  | .inr y, .inr x => y = x
/-- a block as another run calls it; of a row, its first elements may be taken -/
def LikeSB (ρ ρn : Env) (n : Nat) (Y X : SB R) : Prop :=
  match Y, X with
  | .inl (t, cs), .inl (t', cs') => t = t' ∧ cs'.map (ren ρn) = cs.map (ren ρ) ∧ inbL n cs' = true
  | .inl _, _ => False
  | .inr _, .inl _ => False
  | .inr y, .inr x => LikeI y x
theorem LikeI.refl (y : (TypeId × Row) ⊕ Row ⊕ R) : LikeI y y := by
  rcases y with ⟨t, r⟩ | r | x
  · exact ⟨rfl, Or.inl rfl⟩
  · rfl
  · rfl
theorem hold_like {i b : Nat} {F : Nat → Prop} {Y X : SB R} {n : Nat} (hh : hold D C ρ i F w Y) (hl : LikeSB ρ ρn n Y X) (hp : ρn b = ρ i) : hold D C ρn b F w X ∧ inside n X := by
  rcases Y with ⟨t, cs⟩ | Y
  · rcases X with ⟨t', cs'⟩ | X
    · obtain ⟨rfl, h2, h3⟩ := hl
      simp only [hold] at hh ⊢
      rw [hp, h2]
      exact ⟨hh, h3⟩
    · cases hl
  · rcases X with ⟨t', cs'⟩ | X
    · cases hl
    · replace hl : LikeI Y X := hl
      rcases Y with ⟨t, r⟩ | Y <;> rcases X with ⟨t', r'⟩ | X
      · have hq : t' = t ∧ (r' = r ∨ RowLt r' r) := hl
        clear hl
        obtain ⟨e1, e2⟩ := hq
        subst e1
        rcases e2 with e3 | hl
        · subst e3; simp only [hold] at hh ⊢; rw [hp]; exact ⟨hh, trivial⟩
        · simp only [hold] at hh ⊢
          rw [hp]
          obtain ⟨h1, h2, h3, h4, h5, arr, h6, h7⟩ := hh
          exact ⟨⟨h1, by rw [hl.tm]; exact h2, Nat.le_trans hl.n h3, h4, h5, arr, by rw [hl.tm]; exact h6, h7.lt hl⟩, trivial⟩
      · exact False.elim hl
      · exact False.elim hl
      · have hl : Y = X := hl
        subst hl
        rcases Y with r | x
        · simp only [hold] at hh ⊢; rw [hp]; exact ⟨hh, trivial⟩
        · simp only [hold] at hh ⊢; rw [hp]; exact ⟨hh, trivial⟩
/-- the blocks of a heap under other numbers; some may be left out -/
theorem HM.rename (hm : HM D C ρ ft h w) (s : Nat → Nat)
    (hb : ∀ (b : Nat) (X : SB R), hn[b]? = some (some X) → (ρn b = ρ (s b) ∧ ∃ Y, h[s b]? = some (some Y) ∧ LikeSB ρ ρn hn.length Y X) ∨ (h.length ≤ s b ∧ ρn b = nilP ∧ ∃ t r, X = .inr (.inl (t, r)) ∧ NoRow r))
    (hi : ∀ (b b' : Nat) (X X' : SB R), s b < h.length → hn[b]? = some (some X) → hn[b']? = some (some X') → s b = s b' → b = b') :
    HM D C ρn (fun b k => (∃ X, hn[b]? = some (some X)) ∧ ft (s b) k) hn w where
  at_ b X hX := by
    rcases hb b X hX with ⟨h1, Y, hY, hl⟩ | ⟨hge, hp, t, r, rfl, hr⟩
    rotate_left
    · exact ⟨hold_none hr hp fun k hk => by
        obtain ⟨B, hB⟩ := hm.some_ _ k hk.2
        have := (List.getElem?_eq_some_iff.1 hB).1
        omega, trivial⟩
    have := hold_like (hm.at_ (s b) Y hY).1 hl h1
    have e : (fun k => (∃ X, hn[b]? = some (some X)) ∧ ft (s b) k) = ft (s b) := funext fun k => propext ⟨fun h => h.2, fun h => ⟨⟨X, hX⟩, h⟩⟩
    rw [e]
    exact this
  lt b k hk := hm.lt _ k hk.2
  fresh b k hk := hm.fresh _ k hk.2
  apart b b' k hk hk' := by
    obtain ⟨⟨X, hX⟩, h1⟩ := hk
    obtain ⟨⟨X', hX'⟩, h2⟩ := hk'
    have hlt : s b < h.length := by
      obtain ⟨B, hB⟩ := hm.some_ _ k h1
      exact (List.getElem?_eq_some_iff.1 hB).1
    exact hi b b' X X' hlt hX hX' (hm.apart _ _ k h1 h2)
  some_ b k hk := hk.1
  kept := hm.kept
def mvSB (s : Nat → Nat) : SB R → SB R
  | .inl (t, cs) => .inl (t, mvL s cs)
  | .inr x => .inr x
theorem map_ren_mv {ρ : Env} {s : Nat → Nat} (l : List Value) : (mvL s l).map (ren ρ) = l.map (ren (fun i => ρ (s i))) := by rw [← renL_eq, ← renL_eq, renL_mv]
end
end Go.Proofs.Ytloibbakklenbaa.Rx
