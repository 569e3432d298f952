/- Symbolic runs: lengths and cuts of slices and texts, append. Nothing of the program. -/
import Derived.Test.YtloibbakklenbaaRxSlice
import Derived.Laws.Append
namespace Go.Proofs.Ytloibbakklenbaa.Rx
open Go.RowKit Go.Proofs.Ytloibbakklenbaa.State
set_option linter.unusedVariables false
set_option linter.unusedSimpArgs false
section
variable {R : Type} {D : Res R} {P : Program} {C : Ctx} {ρ : Env} {ft : Nat → Nat → Prop} {w w' : World}
/-- the length of a slice -/
def opLen (P : Program) (σ : SS R) (t : TypeId) (y : Operand) : Option (Out R) :=
  match ev σ.tm y, P.underlying t with
  | some (.slice (some _) n _), some (.slice _) => some (quietOut σ True (.int .i64 n) none [])
  | _, _ => none
theorem opLen_ok {σ : SS R} {o : Oper} {t : TypeId} {y : Operand} {x : Out R} (ho : o.op = .call { callee := .builtin .len, args := #[y], argTypes := #[t] }) (h : opLen P σ t y = some x) : OpOk D P o σ x := by
  unfold opLen at h
  split at h
  · rename_i ad n c el ha hu
    injection h with h
    subst h
    refine quiet_ok (fun C ρ ft a w ht hli hm _ => ?_) (fun hli c hc => by cases hc)
    have h1 := (ev_eval ht ha).1
    simp only [ren] at h1
    obtain ⟨A, c', e⟩ := renS_form (ρ := ρ) ad n c
    rw [e] at h1
    simp [execOp, ho, resolve, invoke, builtin, h1, Builtin.len_, run_underlying hu, goInt]
  · cases h
/-- a text's octet -/
def byteAt (s : ByteArray) (i : Nat) : Int := ((s.data.toList[i]?).getD 0).toNat
def opIndexStr (P : Program) (σ : SS R) (t : TypeId) (y z : Operand) : Option (Out R) :=
  match ev σ.tm y, ev σ.tm z, P.underlying t with
  | some (.string s), some (.int _ j), some .string => some (quietOut σ (0 ≤ j ∧ j < s.size) (.int .u8 (byteAt s j.toNat)) none [])
  | _, _, _ => none
theorem opIndexStr_ok {σ : SS R} {o : Oper} {t : TypeId} {y z : Operand} {x : Out R} (ho : o.op = .index t y z) (h : opIndexStr P σ t y z = some x) : OpOk D P o σ x := by
  unfold opIndexStr at h
  split at h
  · rename_i s k j ha hb hu
    injection h with h
    subst h
    refine quiet_ok (fun C ρ ft a w ht hli hm hv => ?_) (fun hli c hc => by cases hc)
    obtain ⟨v0, v1⟩ := hv
    have h1 := (ev_eval ht ha).1
    have h2 := (ev_eval ht hb).1
    simp only [ren_string] at h1
    simp only [ren_int] at h2
    have hlt : j.toNat < s.size := by omega
    have hlt2 : j.toNat < s.data.toList.length := by simpa using hlt
    have hget : s[j.toNat]? = some (s[j.toNat]) := by simp [hlt]
    have hb : (s[j.toNat].toNat : Int) = byteAt s j.toNat := by
      unfold byteAt
      rw [List.getElem?_eq_getElem hlt2]
      simp
      rfl
    simp only [execOp, ho, h1, h2, Instr.index, asIntOf, Sem.run_bind, Sem.run_pure, Result.andThen_ok, run_underlying hu, v0, if_true, hget, ren_int, ← hb]
  · cases h
/-- a bound of a cut -/
def evB (tm : List (Option Value)) : Option Operand → Option (Option Int)
  | none => some none
  | some y => match ev tm y with
    | some (.int _ j) => some (some j)
    | _ => none
theorem evB_eval {n : Nat} {tm : List (Option Value)} {a : Act} {y : Option Operand} {b : Option Int} (ht : TM ρ n tm a) (h : evB tm y = some b) :
    (∃ (k : IntKind), ∃ j, b = some j ∧ y.map a.eval = some (.int k j)) ∨ (b = none ∧ y.map a.eval = none) := by
  cases y with
  | none => simp only [evB] at h; injection h with h; subst h; exact Or.inr ⟨rfl, rfl⟩
  | some y =>
    simp only [evB] at h
    split at h
    · rename_i k j hj
      injection h with h
      subst h
      have := (ev_eval ht hj).1
      simp only [ren_int] at this
      exact Or.inl ⟨k, j, rfl, by simp [this]⟩
    · cases h
theorem sliceBounds_run {isS : Bool} {len cap : Nat} {lo hi : Option Value} {l h : Int} (w : World)
    (hl : (∃ k, lo = some (.int k l)) ∨ (lo = none ∧ l = 0)) (hh : (∃ k, hi = some (.int k h)) ∨ (hi = none ∧ h = len)) (h0 : 0 ≤ l) (h1 : l ≤ h) (h2 : h ≤ cap) :
    (Instr.sliceBounds isS len cap lo hi none).run P w = .ok (l.toNat, h.toNat, cap) w := by
  have hh0 : 0 ≤ h := by omega
  obtain ⟨lN, rfl⟩ := Int.eq_ofNat_of_zero_le h0
  obtain ⟨hN, rfl⟩ := Int.eq_ofNat_of_zero_le hh0
  have hA : hN ≤ cap := by omega
  have hB : lN ≤ hN := by omega
  rcases hl with ⟨k, rfl⟩ | ⟨rfl, hl0⟩ <;> rcases hh with ⟨k', rfl⟩ | ⟨rfl, hhl⟩
  · simp [Instr.sliceBounds, Instr.sliceBound, asIntOf, hA, hB]
  · obtain rfl : hN = len := by omega
    simp [Instr.sliceBounds, Instr.sliceBound, asIntOf, hA, hB]
  · obtain rfl : lN = 0 := by omega
    simp [Instr.sliceBounds, Instr.sliceBound, asIntOf, hA, hB]
  · obtain rfl : hN = len := by omega
    obtain rfl : lN = 0 := by omega
    simp [Instr.sliceBounds]
def opSlice (P : Program) (σ : SS R) (t : TypeId) (y : Operand) (lo hi mx : Option Operand) : Option (Out R) :=
  match mx with
  | some _ => none
  | none =>
    match ev σ.tm y, evB σ.tm lo, evB σ.tm hi with
    | some (.string s), some l, some h =>
      match P.underlying t with
      | some .string => some (quietOut σ (0 ≤ l.getD 0 ∧ l.getD 0 ≤ h.getD s.size ∧ h.getD s.size ≤ s.size) (.string (s.extract (l.getD 0).toNat (h.getD s.size).toNat)) none [])
      | _ => none
    | some (.slice (some ⟨i, e0, some q⟩) n c), some l, some h =>
      match elemOf P t, rowOf σ.hp[i]? with
      | some (el, tm, _), some r =>
        if Nat.beq (q % 1000000) (1000 * tm.length) && Nat.beq tm.length r.tm.length then
          match l with
          | none => some (quietOut σ (0 ≤ h.getD n ∧ h.getD n ≤ n ∧ e0 + n ≤ r.n) (.slice (some ⟨i, e0, some q⟩) (h.getD n).toNat c) none [])
          | some l => some ⟨0 ≤ l ∧ l ≤ h.getD n ∧ h.getD n ≤ n ∧ e0 + n ≤ r.n, .slice (some ⟨i, e0 + l.toNat, some (1000 * tm.length + 1000000 * (σ.hp.length + 1))⟩) (h.getD n - l).toNat c, none, σ.hp ++ [none], [], [(σ.hp.length, 0)]⟩
        else none
      | _, _ => none
    | _, _, _ => none
theorem sel_hi {hi : Option Operand} {h : Option Int} {a : Act} {n : Nat} (hx : (∃ (k : IntKind), ∃ j, h = some j ∧ hi.map a.eval = some (.int k j)) ∨ (h = none ∧ hi.map a.eval = none)) :
    (∃ k, hi.map a.eval = some (.int k (h.getD n))) ∨ (hi.map a.eval = none ∧ h.getD n = n) := by
  rcases hx with ⟨k, j, rfl, e⟩ | ⟨rfl, e⟩
  · exact Or.inl ⟨k, by simpa using e⟩
  · exact Or.inr ⟨e, rfl⟩
theorem sel_lo {lo : Option Operand} {l : Option Int} {a : Act} (hx : (∃ (k : IntKind), ∃ j, l = some j ∧ lo.map a.eval = some (.int k j)) ∨ (l = none ∧ lo.map a.eval = none)) :
    (∃ k, lo.map a.eval = some (.int k (l.getD 0))) ∨ (lo.map a.eval = none ∧ l.getD 0 = 0) := by
  rcases hx with ⟨k, j, rfl, e⟩ | ⟨rfl, e⟩
  · exact Or.inl ⟨k, by simpa using e⟩
  · exact Or.inr ⟨e, rfl⟩
theorem slice_run {t el : TypeId} {A : Option Addr} {n cap : Nat} {lo hi : Option Value} {l h : Int} {inf : TypeInfo} (w : World) (hu : P.underlying t = some (.slice el)) (hinf : P.info? el = some inf)
    (hl : (∃ k, lo = some (.int k l)) ∨ (lo = none ∧ l = 0)) (hh : (∃ k, hi = some (.int k h)) ∨ (hi = none ∧ h = n)) (h0 : 0 ≤ l) (h1 : l ≤ h) (h2 : h ≤ cap) :
    (Instr.sliceAt t (.slice A n cap) lo hi none).run P w = .ok (.slice (if cap = l.toNat then A else A.map (·.add (l.toNat * inf.size))) (h.toNat - l.toNat) (cap - l.toNat)) w := by
  have hb := sliceBounds_run (P := P) (isS := true) (len := n) (cap := cap) w hl hh h0 h1 h2
  simp [Instr.sliceAt, run_underlying hu, Instr.slice, hb, sizeOf, typeInfo, hinf]
theorem opSlice_ok {σ : SS R} {o : Oper} {t : TypeId} {y : Operand} {lo hi mx : Option Operand} {x : Out R} (ho : o.op = .slice t y lo hi mx) (h : opSlice P σ t y lo hi mx = some x) : OpOk D P o σ x := by
  unfold opSlice at h
  split at h
  · cases h
  · split at h
    · rename_i s l hh ha hl hhi
      split at h
      · rename_i hu
        injection h with h
        subst h
        refine quiet_ok (fun C ρ ft a w ht hli hm hv => ?_) (fun hli c hc => by cases hc)
        obtain ⟨v0, v1, v2⟩ := hv
        have h1 := (ev_eval ht ha).1
        simp only [ren_string] at h1
        have hb := sliceBounds_run (P := P) (isS := false) (len := s.size) (cap := s.size) w (sel_lo (evB_eval ht hl)) (sel_hi (n := s.size) (evB_eval ht hhi)) v0 v1 v2
        simp [execOp, ho, h1, Instr.sliceAt, run_underlying hu, Instr.slice, hb]
      · cases h
    · rename_i i e0 q n c l hh ha hl hhi
      split at h
      · rename_i el tm by_ r he hr
        obtain ⟨inf, z, hu, hinf, hz, htm, hsz, _, hfl, h0, h1k⟩ := elemOf_ok he
        split at h
        · rename_i hc
          simp only [Bool.and_eq_true] at hc
          have hq := Nat.eq_of_beq_eq_true hc.1
          have hq1 : q % 1000000 / 1000 = tm.length := by omega
          have hq2 : q % 1000 = 0 := by omega
          split at h
          · injection h with h
            subst h
            refine quiet_ok (fun C ρ ft a w ht hli hm hv => ?_) (fun hli c hc => by cases hc)
            obtain ⟨v0, v1, v2⟩ := hv
            have h1 := (ev_eval ht ha).1
            obtain ⟨g1, g2, _⟩ := row_reads hm hr
            have hlo : (∃ k, lo.map a.eval = some (.int k 0)) ∨ (lo.map a.eval = none ∧ (0 : Int) = 0) := by
              rcases evB_eval ht hl with ⟨k, j, e, _⟩ | ⟨_, e⟩
              · cases e
              · exact Or.inr ⟨e, rfl⟩
            have hhx := sel_hi (n := n) (evB_eval ht hhi)
            have hadd : ∀ A : Option Addr, (A.map fun x => x.add 0) = A := fun A => by cases A <;> simp [Addr.add]
            have hnil := (fun (hz : (ρ i).nil = true) => (show (ρ i).cap = 0 from by
              unfold rowOf at hr
              split at hr
              · rename_i t0 r0 hi; exact (hm.at_ i _ hi).1.2.2.2.2.1 hz
              · rename_i r0 hi; exact (hm.at_ i _ hi).1.2.2.2.2.1 hz
              · cases hr))
            simp only [ren, renS] at h1 ⊢
            by_cases hn : (ρ i).nil = true
            · rw [if_pos hn] at h1 ⊢
              have hcap := hnil hn
              have hn0 : n = 0 := by omega
              subst hn0
              have hr2 := slice_run (P := P) (A := none) (n := 0) (cap := 0) w hu hinf hlo hhx (Int.le_refl 0) v0 (by simpa using v1)
              simp [execOp, ho, h1, hr2]
            · rw [if_neg hn] at h1 ⊢
              by_cases hex : q / 1000000 ≠ 0 ∧ (ρ i).cap ≤ e0
              · rw [if_pos hex] at h1 ⊢
                have hn0 : n = 0 := by omega
                subst hn0
                have hr2 := slice_run (P := P) (A := some ⟨(ρ (q / 1000000 - 1)).blk, (ρ (q / 1000000 - 1)).off, none⟩) (n := 0) (cap := 0) w hu hinf hlo hhx (Int.le_refl 0) v0 (by simpa using v1)
                simp [execOp, ho, h1, hr2]
              · rw [if_neg hex] at h1 ⊢
                have hr2 := slice_run (P := P) (A := some (renA ρ ⟨i, e0, some q⟩)) (n := n) (cap := (ρ i).cap - e0) w hu hinf hlo hhx (Int.le_refl 0) v0 (by omega)
                simp [execOp, ho, h1, hr2, hadd]
          · rename_i l
            injection h with h
            subst h
            refine ⟨fun C ρ ft a w K Q ht hli hm hv hK => ?_, by simp, fun _ b hb => by cases hb⟩
            obtain ⟨v0, v1, v2, v3⟩ := hv
            have h1 := (ev_eval ht ha).1
            obtain ⟨hb1, hb2⟩ := ev_eval ht ha
            simp only [inb, Bool.and_eq_true, Nat.blt_eq] at hb2
            have hil : i < σ.hp.length := hb2.1
            obtain ⟨g1, g2, _⟩ := row_reads hm hr
            have hlo : (∃ k, lo.map a.eval = some (.int k l)) ∨ (lo.map a.eval = none ∧ l = 0) := by
              rcases evB_eval ht hl with ⟨k, j, e, e2⟩ | ⟨e, _⟩
              · injection e with e; subst e; exact Or.inl ⟨k, e2⟩
              · cases e
            have hhx := sel_hi (n := n) (evB_eval ht hhi)
            have hnil := (fun (hz : (ρ i).nil = true) => (show (ρ i).cap = 0 from by
              unfold rowOf at hr
              split at hr
              · rename_i t0 r0 hi; exact (hm.at_ i _ hi).1.2.2.2.2.1 hz
              · rename_i r0 hi; exact (hm.at_ i _ hi).1.2.2.2.2.1 hz
              · cases hr))
            generalize hN : σ.hp.length = N at *
            have e1 : (1000 * tm.length + 1000000 * (N + 1)) / 1000000 = N + 1 := by omega
            have e2 : (1000 * tm.length + 1000000 * (N + 1)) % 1000000 / 1000 = tm.length := by omega
            have e3 : (1000 * tm.length + 1000000 * (N + 1)) % 1000 = 0 := by omega
            have hfin : ∀ (A : Addr) (v : Value), (execOp a.eval o).run P w = .ok (.value v) w →
                ren (upd ρ N ⟨A.block, A.off, 0, false⟩) (.slice (some ⟨i, e0 + l.toNat, some (1000 * tm.length + 1000000 * (N + 1))⟩) (hh.getD ↑n - l).toNat c) = v → o.wp P a w K Q := by
              intro A v hrun hv
              have hp := hm.pushNone ⟨A.block, A.off, 0, false⟩
              rw [hN] at hp
              have := hK _ _ _ (fun i hi => upd_lt ρ N ⟨A.block, A.off, 0, false⟩ hi) hp
              rw [hv] at this
              exact wp_value hrun this
            have hupd : ∀ p : Place, upd ρ N p i = ρ i := fun p => upd_lt _ _ _ hil
            simp only [ren, renS] at h1
            by_cases hn : (ρ i).nil = true
            · rw [if_pos hn] at h1
              have hcap := hnil hn
              have hn0 : n = 0 := by omega
              subst hn0
              have hl0 : l = 0 := by omega
              subst hl0
              have hr2 := slice_run (P := P) (A := none) (n := 0) (cap := 0) w hu hinf hlo hhx v0 v1 (by simpa using v2)
              refine hfin ⟨0, 0, none⟩ (.slice none (hh.getD 0).toNat 0) (by simp [execOp, ho, h1, hr2]) ?_
              simp only [ren, renS, hupd, hn, if_true]
              simp
            · rw [if_neg hn] at h1
              by_cases hex : q / 1000000 ≠ 0 ∧ (ρ i).cap ≤ e0
              · rw [if_pos hex] at h1
                have hn0 : n = 0 := by omega
                subst hn0
                have hl0 : l = 0 := by omega
                subst hl0
                have hr2 := slice_run (P := P) (A := some ⟨(ρ (q / 1000000 - 1)).blk, (ρ (q / 1000000 - 1)).off, none⟩) (n := 0) (cap := 0) w hu hinf hlo hhx v0 v1 (by simpa using v2)
                refine hfin ⟨(ρ (q / 1000000 - 1)).blk, (ρ (q / 1000000 - 1)).off, none⟩ (.slice (some ⟨(ρ (q / 1000000 - 1)).blk, (ρ (q / 1000000 - 1)).off, none⟩) (hh.getD 0).toNat 0) (by simp [execOp, ho, h1, hr2]) ?_
                simp only [ren, renS, hupd, hn, if_false, e1, Nat.add_sub_cancel, upd_same]
                have hc2 : N + 1 ≠ 0 ∧ (ρ i).cap ≤ e0 + (0 : Int).toNat := ⟨by omega, by simpa using hex.2⟩
                simp [hn, hc2.2]
                exact fun h => absurd h (by simpa using hex.2)
              · rw [if_neg hex] at h1
                have hr2 := slice_run (P := P) (A := some (renA ρ ⟨i, e0, some q⟩)) (n := n) (cap := (ρ i).cap - e0) w hu hinf hlo hhx v0 v1 (by omega)
                refine hfin (renA ρ ⟨i, e0, some q⟩) _ (by simp only [execOp, ho, h1, Option.map_none, hr2, Sem.run_bind, Sem.run_pure, Result.andThen_ok]; rfl) ?_
                simp only [ren, renS]
                rw [hupd, if_neg hn, e1]
                have hnl : (hh.getD (n : Int) - l).toNat = (hh.getD (n : Int)).toNat - l.toNat := by omega
                by_cases hc2 : (ρ i).cap - e0 = l.toNat
                · rw [if_pos hc2, if_pos ⟨by omega, by omega⟩, hnl, hc2, Nat.sub_self]
                  simp [upd_same, renA]
                · rw [if_neg hc2, if_neg (by omega), hnl]
                  simp only [renA, hupd, cellOf, e2, e3, hq1, hq2, Option.map_some, add_at, hsz]
                  simp [Nat.add_mul, Nat.add_assoc, Nat.sub_add_eq]
        · cases h
      · cases h
    · cases h
end
end Go.Proofs.Ytloibbakklenbaa.Rx
