/- box: the calls as contracts. -/
import Derived.Test.YtagiodenlhfgfaaBxCon
namespace Go.Proofs.Ytagiodenlhfgfaa.Bx
open Go.RowKit Go.Conc Go.Proofs.Ytagiodenlhfgfaa.State Go.Proofs.Ytagiodenlhfgfaa.Rx
set_option linter.unusedVariables false
set_option linter.unusedSimpArgs false
set_option maxRecDepth 100000
def newP : Prim Rs := fun args hh => match args, hh with
  | [.int .i64 n], [] => some ⟨True, .pointer (some ⟨0, 0, none⟩), none, [some (.inr (.inr (.inr (.ints ⟨(min (max n 1) 1000).toNat, [], false⟩))))], [], [(0, 0)]⟩
  | _, _ => none
theorem new_ok : ConOk D Try.prog 8 (con1 newP) := by
  refine con1_ok (thing0 (known_of Try.func8 (by kernel_rfl) (by kernel_rfl)) fun args hh x hx => ?_)
  unfold newP at hx
  split at hx
  · rename_i n
    injection hx with hx
    subst hx
    exact ⟨.ints ⟨(min (max n 1) 1000).toNat, [], false⟩, n, _, rfl, rfl, rfl, rfl, rfl, rfl, fun w => new_at_int n w⟩
  · cases hx
def offerP : Prim Rs := fun args hh => match args, hh with
  | [.pointer (some ⟨0, 0, none⟩), .int .i64 v], [some (.inr (.inr (.inr (.ints m))))] => some ⟨True, .bool m.takes, none, [some (.inr (.inr (.inr (.ints (m.offer v)))))], [], [(0, 0)]⟩
  | _, _ => none
theorem offer_ok : ConOk D Try.prog 12 (con1 offerP) := by
  refine con1_ok (thing1 (known_of Try.func12 (by kernel_rfl) (by kernel_rfl)) fun args hh x hx => ?_)
  unfold offerP at hx
  split at hx
  · rename_i v m
    injection hx with hx
    subst hx
    refine ⟨.ints m, .ints (m.offer v), [.int .i64 v], _, _, rfl, rfl, rfl, rfl, rfl, (fun h => by cases h), fun b F w hb => ?_⟩
    obtain ⟨h0, c, s, r, gs, hB, hF⟩ := hb
    have hl : gs.length = m.xs.length := by have := hB.vals.len; simpa [Rs.core, BI.core] using this
    cases hc : m.closed with
    | true =>
      have ht : m.takes = false := by simp [BI.takes, hc]
      refine (offer_closed_int v hB hc).mono fun e w' ⟨h1, h2⟩ => ⟨by rw [h1, ht], ?_⟩
      have hm : m.offer v = m := by simp [BI.offer, ht]
      subst h2
      show Left (BI.core (m.offer v)) b F w _
      rw [hm]
      exact left_alloc _ ⟨h0, c, s, r, gs, hB, hF⟩
    | false =>
      by_cases hr : gs.length < m.cap
      · have ht : m.takes = true := by simp only [BI.takes, hc, Bool.not_false, Bool.true_and, Nat.blt_eq]; omega
        refine (offer_room_int v hB hc hr).mono fun e w' ⟨h1, h2⟩ => ⟨by rw [h1, ht], ?_⟩
        subst h2
        have := left_put (.int .i64 v) hB hF
        simpa [Rs.core, BI.core, BI.offer, ht] using this
      · have ht : m.takes = false := by
          have : Nat.blt m.xs.length m.cap = false := by simp only [Nat.blt_eq, ← Bool.not_eq_true]; omega
          simp [BI.takes, hc, this]
        refine (offer_full_int v hB hc (Nat.le_of_not_lt hr)).mono fun e w' ⟨h1, h2⟩ => ⟨by rw [h1, ht], ?_⟩
        have hm : m.offer v = m := by simp [BI.offer, ht]
        subst h2
        show Left (BI.core (m.offer v)) b F w _
        rw [hm]
        exact left_alloc _ ⟨h0, c, s, r, gs, hB, hF⟩
  · cases hx
def takeP : Prim Rs := fun args hh => match args, hh with
  | [.pointer (some ⟨0, 0, none⟩)], [some (.inr (.inr (.inr (.ints m))))] => some ⟨True, .tuple #[.int .i64 (m.xs.getD 0 0), .bool (decide (m.xs.length ≠ 0))], none, [some (.inr (.inr (.inr (.ints m.take))))], [], [(0, 0)]⟩
  | _, _ => none
theorem take_ok : ConOk D Try.prog 14 (con1 takeP) := by
  refine con1_ok (thing1 (known_of Try.func14 (by kernel_rfl) (by kernel_rfl)) fun args hh x hx => ?_)
  unfold takeP at hx
  split at hx
  · rename_i m
    injection hx with hx
    subst hx
    refine ⟨.ints m, .ints m.take, [], _, _, rfl, rfl, rfl, rfl, rfl, (fun h => by cases h), fun b F w hb => ?_⟩
    obtain ⟨h0, c, s, r, gs, hB, hF⟩ := hb
    have hl : gs.length = m.xs.length := by have := hB.vals.len; simpa [Rs.core, BI.core] using this
    obtain ⟨cap, xs, cl⟩ := m
    cases xs with
    | nil =>
      have hg : gs = [] := List.eq_nil_of_length_eq_zero hl
      refine (take_none_int hB hg).mono fun e w' ⟨h1, h2⟩ => ⟨by rw [h1]; rfl, ?_⟩
      subst h2
      exact left_same ⟨h0, c, s, r, gs, hB, hF⟩
    | cons x xs =>
      obtain ⟨g, gs, rfl⟩ : ∃ g gs', gs = g :: gs' := by cases gs with
        | nil => simp at hl
        | cons g gs => exact ⟨g, gs, rfl⟩
      have hv := hB.vals.1
      refine (take_some_int x hB g gs rfl hv).mono fun e w' ⟨h1, h2⟩ => ⟨by rw [h1]; simp, ?_⟩
      subst h2
      exact left_get (m := Rs.core (.ints ⟨cap, x :: xs, cl⟩)) rfl hB hF
  · cases hx
def lenP : Prim Rs := fun args hh => match args, hh with
  | [.pointer (some ⟨0, 0, none⟩)], [some (.inr (.inr (.inr (.ints m))))] => some ⟨True, .int .i64 m.xs.length, none, [some (.inr (.inr (.inr (.ints m))))], [], []⟩
  | _, _ => none
theorem len_ok : ConOk D Try.prog 21 (con1 lenP) := by
  refine con1_ok (thing1 (known_of Try.func21 (by kernel_rfl) (by kernel_rfl)) fun args hh x hx => ?_)
  unfold lenP at hx
  split at hx
  · rename_i m
    injection hx with hx
    subst hx
    refine ⟨.ints m, .ints m, [], _, _, rfl, rfl, rfl, rfl, rfl, (fun _ => rfl), fun b F w hb => ?_⟩
    obtain ⟨h0, c, s, r, gs, hB, hF⟩ := hb
    have hl : gs.length = m.xs.length := by have := hB.vals.len; simpa [Rs.core, BI.core] using this
    refine (len_at_int hB).mono fun e w' ⟨h1, h2⟩ => ⟨by rw [h1]; rw [hl], ?_⟩
    subst h2
    exact left_same ⟨h0, c, s, r, gs, hB, hF⟩
  · cases hx
def capP : Prim Rs := fun args hh => match args, hh with
  | [.pointer (some ⟨0, 0, none⟩)], [some (.inr (.inr (.inr (.ints m))))] => some ⟨True, .int .i64 m.cap, none, [some (.inr (.inr (.inr (.ints m))))], [], []⟩
  | _, _ => none
theorem cap_ok : ConOk D Try.prog 10 (con1 capP) := by
  refine con1_ok (thing1 (known_of Try.func10 (by kernel_rfl) (by kernel_rfl)) fun args hh x hx => ?_)
  unfold capP at hx
  split at hx
  · rename_i m
    injection hx with hx
    subst hx
    refine ⟨.ints m, .ints m, [], _, _, rfl, rfl, rfl, rfl, rfl, (fun _ => rfl), fun b F w hb => ?_⟩
    obtain ⟨h0, c, s, r, gs, hB, hF⟩ := hb
    have hl : gs.length = m.xs.length := by have := hB.vals.len; simpa [Rs.core, BI.core] using this
    refine (cap_at_int hB).mono fun e w' ⟨h1, h2⟩ => ⟨by rw [h1]; rfl, ?_⟩
    subst h2
    exact left_same ⟨h0, c, s, r, gs, hB, hF⟩
  · cases hx
def closedP : Prim Rs := fun args hh => match args, hh with
  | [.pointer (some ⟨0, 0, none⟩)], [some (.inr (.inr (.inr (.ints m))))] => some ⟨True, .bool m.closed, none, [some (.inr (.inr (.inr (.ints m))))], [], []⟩
  | _, _ => none
theorem closed_ok : ConOk D Try.prog 22 (con1 closedP) := by
  refine con1_ok (thing1 (known_of Try.func22 (by kernel_rfl) (by kernel_rfl)) fun args hh x hx => ?_)
  unfold closedP at hx
  split at hx
  · rename_i m
    injection hx with hx
    subst hx
    refine ⟨.ints m, .ints m, [], _, _, rfl, rfl, rfl, rfl, rfl, (fun _ => rfl), fun b F w hb => ?_⟩
    obtain ⟨h0, c, s, r, gs, hB, hF⟩ := hb
    have hl : gs.length = m.xs.length := by have := hB.vals.len; simpa [Rs.core, BI.core] using this
    refine (closed_at_int hB).mono fun e w' ⟨h1, h2⟩ => ⟨by rw [h1]; rfl, ?_⟩
    subst h2
    exact left_same ⟨h0, c, s, r, gs, hB, hF⟩
  · cases hx
def closeP : Prim Rs := fun args hh => match args, hh with
  | [.pointer (some ⟨0, 0, none⟩)], [some (.inr (.inr (.inr (.ints m))))] => some ⟨True, .bool (!m.closed), none, [some (.inr (.inr (.inr (.ints m.close))))], [], [(0, 0)]⟩
  | _, _ => none
theorem close_ok : ConOk D Try.prog 16 (con1 closeP) := by
  refine con1_ok (thing1 (known_of Try.func16 (by kernel_rfl) (by kernel_rfl)) fun args hh x hx => ?_)
  unfold closeP at hx
  split at hx
  · rename_i m
    injection hx with hx
    subst hx
    refine ⟨.ints m, .ints m.close, [], _, _, rfl, rfl, rfl, rfl, rfl, (fun h => by cases h), fun b F w hb => ?_⟩
    obtain ⟨h0, c, s, r, gs, hB, hF⟩ := hb
    refine (close_at_int hB).mono fun e w' ⟨h1, h2⟩ => ⟨by rw [h1]; rfl, ?_⟩
    subst h2
    exact left_close hB hF
  · cases hx
def newSP : Prim Rs := fun args hh => match args, hh with
  | [.int .i64 n], [] => some ⟨True, .pointer (some ⟨0, 0, none⟩), none, [some (.inr (.inr (.inr (.texts ⟨(min (max n 1) 1000).toNat, [], false⟩))))], [], [(0, 0)]⟩
  | _, _ => none
theorem newS_ok : ConOk D Try.prog 24 (con1 newSP) := by
  refine con1_ok (thing0 (known_of Try.func24 (by kernel_rfl) (by kernel_rfl)) fun args hh x hx => ?_)
  unfold newSP at hx
  split at hx
  · rename_i n
    injection hx with hx
    subst hx
    exact ⟨.texts ⟨(min (max n 1) 1000).toNat, [], false⟩, n, _, rfl, rfl, rfl, rfl, rfl, rfl, fun w => new_at_string n w⟩
  · cases hx
def offerSP : Prim Rs := fun args hh => match args, hh with
  | [.pointer (some ⟨0, 0, none⟩), .string v], [some (.inr (.inr (.inr (.texts m))))] => some ⟨True, .bool m.takes, none, [some (.inr (.inr (.inr (.texts (m.offer v)))))], [], [(0, 0)]⟩
  | _, _ => none
theorem offerS_ok : ConOk D Try.prog 25 (con1 offerSP) := by
  refine con1_ok (thing1 (known_of Try.func25 (by kernel_rfl) (by kernel_rfl)) fun args hh x hx => ?_)
  unfold offerSP at hx
  split at hx
  · rename_i v m
    injection hx with hx
    subst hx
    refine ⟨.texts m, .texts (m.offer v), [.string v], _, _, rfl, rfl, rfl, rfl, rfl, (fun h => by cases h), fun b F w hb => ?_⟩
    obtain ⟨h0, c, s, r, gs, hB, hF⟩ := hb
    have hl : gs.length = m.xs.length := by have := hB.vals.len; simpa [Rs.core, BS.core] using this
    cases hc : m.closed with
    | true =>
      have ht : m.takes = false := by simp [BS.takes, hc]
      refine (offer_closed_string v hB hc).mono fun e w' ⟨h1, h2⟩ => ⟨by rw [h1, ht], ?_⟩
      have hm : m.offer v = m := by simp [BS.offer, ht]
      subst h2
      show Left (BS.core (m.offer v)) b F w _
      rw [hm]
      exact left_alloc _ ⟨h0, c, s, r, gs, hB, hF⟩
    | false =>
      by_cases hr : gs.length < m.cap
      · have ht : m.takes = true := by simp only [BS.takes, hc, Bool.not_false, Bool.true_and, Nat.blt_eq]; omega
        refine (offer_room_string v hB hc hr).mono fun e w' ⟨h1, h2⟩ => ⟨by rw [h1, ht], ?_⟩
        subst h2
        have := left_put (.string v) hB hF
        simpa [Rs.core, BS.core, BS.offer, ht] using this
      · have ht : m.takes = false := by
          have : Nat.blt m.xs.length m.cap = false := by simp only [Nat.blt_eq, ← Bool.not_eq_true]; omega
          simp [BS.takes, hc, this]
        refine (offer_full_string v hB hc (Nat.le_of_not_lt hr)).mono fun e w' ⟨h1, h2⟩ => ⟨by rw [h1, ht], ?_⟩
        have hm : m.offer v = m := by simp [BS.offer, ht]
        subst h2
        show Left (BS.core (m.offer v)) b F w _
        rw [hm]
        exact left_alloc _ ⟨h0, c, s, r, gs, hB, hF⟩
  · cases hx
def takeSP : Prim Rs := fun args hh => match args, hh with
  | [.pointer (some ⟨0, 0, none⟩)], [some (.inr (.inr (.inr (.texts m))))] => some ⟨True, .tuple #[.string (m.xs.getD 0 ⟨#[]⟩), .bool (decide (m.xs.length ≠ 0))], none, [some (.inr (.inr (.inr (.texts m.take))))], [], [(0, 0)]⟩
  | _, _ => none
theorem takeS_ok : ConOk D Try.prog 30 (con1 takeSP) := by
  refine con1_ok (thing1 (known_of Try.func30 (by kernel_rfl) (by kernel_rfl)) fun args hh x hx => ?_)
  unfold takeSP at hx
  split at hx
  · rename_i m
    injection hx with hx
    subst hx
    refine ⟨.texts m, .texts m.take, [], _, _, rfl, rfl, rfl, rfl, rfl, (fun h => by cases h), fun b F w hb => ?_⟩
    obtain ⟨h0, c, s, r, gs, hB, hF⟩ := hb
    have hl : gs.length = m.xs.length := by have := hB.vals.len; simpa [Rs.core, BS.core] using this
    obtain ⟨cap, xs, cl⟩ := m
    cases xs with
    | nil =>
      have hg : gs = [] := List.eq_nil_of_length_eq_zero hl
      refine (take_none_string hB hg).mono fun e w' ⟨h1, h2⟩ => ⟨by rw [h1]; rfl, ?_⟩
      subst h2
      exact left_same ⟨h0, c, s, r, gs, hB, hF⟩
    | cons x xs =>
      obtain ⟨g, gs, rfl⟩ : ∃ g gs', gs = g :: gs' := by cases gs with
        | nil => simp at hl
        | cons g gs => exact ⟨g, gs, rfl⟩
      have hv := hB.vals.1
      refine (take_some_string x hB g gs rfl hv).mono fun e w' ⟨h1, h2⟩ => ⟨by rw [h1]; simp, ?_⟩
      subst h2
      exact left_get (m := Rs.core (.texts ⟨cap, x :: xs, cl⟩)) rfl hB hF
  · cases hx
def lenSP : Prim Rs := fun args hh => match args, hh with
  | [.pointer (some ⟨0, 0, none⟩)], [some (.inr (.inr (.inr (.texts m))))] => some ⟨True, .int .i64 m.xs.length, none, [some (.inr (.inr (.inr (.texts m))))], [], []⟩
  | _, _ => none
theorem lenS_ok : ConOk D Try.prog 28 (con1 lenSP) := by
  refine con1_ok (thing1 (known_of Try.func28 (by kernel_rfl) (by kernel_rfl)) fun args hh x hx => ?_)
  unfold lenSP at hx
  split at hx
  · rename_i m
    injection hx with hx
    subst hx
    refine ⟨.texts m, .texts m, [], _, _, rfl, rfl, rfl, rfl, rfl, (fun _ => rfl), fun b F w hb => ?_⟩
    obtain ⟨h0, c, s, r, gs, hB, hF⟩ := hb
    have hl : gs.length = m.xs.length := by have := hB.vals.len; simpa [Rs.core, BS.core] using this
    refine (len_at_string hB).mono fun e w' ⟨h1, h2⟩ => ⟨by rw [h1]; rw [hl], ?_⟩
    subst h2
    exact left_same ⟨h0, c, s, r, gs, hB, hF⟩
  · cases hx
def closedSP : Prim Rs := fun args hh => match args, hh with
  | [.pointer (some ⟨0, 0, none⟩)], [some (.inr (.inr (.inr (.texts m))))] => some ⟨True, .bool m.closed, none, [some (.inr (.inr (.inr (.texts m))))], [], []⟩
  | _, _ => none
theorem closedS_ok : ConOk D Try.prog 27 (con1 closedSP) := by
  refine con1_ok (thing1 (known_of Try.func27 (by kernel_rfl) (by kernel_rfl)) fun args hh x hx => ?_)
  unfold closedSP at hx
  split at hx
  · rename_i m
    injection hx with hx
    subst hx
    refine ⟨.texts m, .texts m, [], _, _, rfl, rfl, rfl, rfl, rfl, (fun _ => rfl), fun b F w hb => ?_⟩
    obtain ⟨h0, c, s, r, gs, hB, hF⟩ := hb
    have hl : gs.length = m.xs.length := by have := hB.vals.len; simpa [Rs.core, BS.core] using this
    refine (closed_at_string hB).mono fun e w' ⟨h1, h2⟩ => ⟨by rw [h1]; rfl, ?_⟩
    subst h2
    exact left_same ⟨h0, c, s, r, gs, hB, hF⟩
  · cases hx
def closeSP : Prim Rs := fun args hh => match args, hh with
  | [.pointer (some ⟨0, 0, none⟩)], [some (.inr (.inr (.inr (.texts m))))] => some ⟨True, .bool (!m.closed), none, [some (.inr (.inr (.inr (.texts m.close))))], [], [(0, 0)]⟩
  | _, _ => none
theorem closeS_ok : ConOk D Try.prog 26 (con1 closeSP) := by
  refine con1_ok (thing1 (known_of Try.func26 (by kernel_rfl) (by kernel_rfl)) fun args hh x hx => ?_)
  unfold closeSP at hx
  split at hx
  · rename_i m
    injection hx with hx
    subst hx
    refine ⟨.texts m, .texts m.close, [], _, _, rfl, rfl, rfl, rfl, rfl, (fun h => by cases h), fun b F w hb => ?_⟩
    obtain ⟨h0, c, s, r, gs, hB, hF⟩ := hb
    refine (close_at_string hB).mono fun e w' ⟨h1, h2⟩ => ⟨by rw [h1]; rfl, ?_⟩
    subst h2
    exact left_close hB hF
  · cases hx
/-- what can be read of a box: whether it is closed -/
def rdBox : Con Rs := ⟨fun _ _ => none, fun args hh => match args, hh with
  | [.pointer (some ⟨0, 1, none⟩)], [some (.inr (.inr (.inr (.ints m))))] => some ⟨True, .bool m.closed, none, hh, [], []⟩
  | _, _ => none, fun _ _ => some ⟨True, .bool false, none, [], [], []⟩⟩
theorem rdBox_ok : RdOk D rdBox := by
  refine ⟨fun _ X p F w h => boxH_own _ p F w h, fun e X x p F w hx h => ?_⟩
  simp only [rdBox] at hx
  split at hx
  · rename_i h1 h2
    simp only [List.cons.injEq, Value.pointer.injEq, Option.some.injEq, Addr.mk.injEq, and_true, true_and, Sum.inr.injEq] at h1 h2
    subst h1 h2
    injection hx with hx
    subst hx
    obtain ⟨h0, c, s, r, gs, hB, hF⟩ := h
    refine ⟨rfl, ?_⟩
    rw [h0, cells_of hB.self]
    rfl
  · cases hx
end Go.Proofs.Ytagiodenlhfgfaa.Bx
