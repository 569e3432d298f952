/- tag: what the calls of a table tell. -/
import Derived.Test.YtobdpddamdkabaaDoorTgTop2
import Derived.Test.YtobdpddamdkabaaDoorRxQ
namespace Go.Proofs.YtobdpddamdkabaaDoor.Tg
open Go.Proofs.YtobdpddamdkabaaDoor.Rx
set_option linter.unusedVariables false
set_option linter.unusedSimpArgs false
set_option maxRecDepth 100000
def TFnd : Tab MF := [(13, liftC zN 2 (con1 findP))]
theorem TFnd_ok : TabOk D0 Tryd.prog TFnd := ⟨liftC_ok _ _ find_ok, trivial⟩
def atM (m : Md) (tm : Int) : Ls := (m.l.find? (fun x => x.tm == tm)).getD ls0
theorem at_f (t : TT) (tm : Int) : (t.ts.ti.f tm).isSome = tmB t.m.l tm ∧ ((t.ts.ti.f tm).isSome = true → (t.ts.lv.f ((t.ts.ti.f tm).getD 0)).getD ls0 = atM t.m tm ∧ fits ((t.ts.ti.f tm).getD 0)) := by
  refine ⟨tm_has _ _, fun h => ?_⟩
  cases hf : t.m.l.find? (fun x => x.tm == tm) with
  | none =>
    have : t.ts.ti.f tm = none := by show (t.m.l.find? (fun x => x.tm == tm)).map _ = none; rw [hf]; rfl
    rw [this] at h; cases h
  | some y =>
    have h1 : t.ts.ti.f tm = some y.ix := by show (t.m.l.find? (fun x => x.tm == tm)).map _ = some _; rw [hf]; rfl
    have hy := List.mem_of_find?_eq_some hf
    have h2 : t.ts.lv.f y.ix = some y := byKey_some (val := fun x => x) t.ok.ix hy
    obtain ⟨e1, e2, _⟩ := t.ok.each y hy
    have h3 := t.few
    rw [h1, Option.getD_some, h2, Option.getD_some]
    unfold atM
    rw [hf]
    exact ⟨rfl, ⟨by omega, by omega⟩⟩
def tfindP : Prim Rs := fun args hh => match args, hh with
  | [.pointer (some ⟨0, 0, none⟩), .agg ⟨[.int .i64 ix, .int .i64 gn]⟩], [some (.inr (.inr (.inr (.tab t))))] => some ⟨fits ix, .tuple #[.agg ⟨opL (atX t.m ix gn)⟩, .bool (findM t.m ix gn)], none, hh, [], []⟩
  | _, _ => none
theorem tfind_ok : ConOk D Tryd.prog 13 (con1 tfindP) := by
  refine con1_ok (res_prim (L := L) (D0 := D0) (fn := Tryd.f13) (root := codeOf Tryd.f13) (by kernel_rfl) (by kernel_rfl) (by kernel_rfl) fun args hh x hx => ?_)
  unfold tfindP at hx
  split at hx
  · rename_i ix gn t
    injection hx with hx
    subst hx
    refine ⟨by first | exact Nat.le_refl _ | exact Nat.zero_le _ | exact Nat.le_succ _ | exact Nat.le_add_left 1 3 | exact Nat.le_add_left 2 2 | exact Nat.le_add_left 1 2 | exact Nat.le_add_left 4 2 | exact Nat.le_add_left 4 1 | exact Nat.le_add_left 5 1, noLit rfl, (fun hw => by first | rfl | cases hw), fun _ hv => ?_⟩
    have g1 := hv.lo; have g2 := hv.hi; have f4 := find_is t ix gn; have f5 := findX_is t ix gn
    generalize hG : EndsU (R := Rs) (R0 := MF) _ _ _ = G
    refine rx_okQ (T := T0) T0_ok mixed 200 (q := Vc (fits ix) ∧ ((!Option.isSome (Mp.f (TS.lv (TT.ts t)) ix)) = false → ((Ls.gn (Option.getD (Mp.f (TS.lv (TT.ts t)) ix) ls0) != gn) = true → Post (G (Value.tuple (Array.mk [Value.agg (Array.mk [Value.int IntKind.i64 0, Value.bool false, Value.int IntKind.i64 0, Value.int IntKind.i64 0]), Value.bool false])) [some (Sum.inl (73, [Value.int IntKind.i64 (TS.cap (TT.ts t)), Value.int IntKind.i64 (TS.ser (TT.ts t)), Value.slice (some (Addr.mk 1 0 (some 1000))) (List.length (TS.la (TT.ts t))) 0, Value.slice (some (Addr.mk 2 0 (some 1000))) (List.length (TS.wo (TT.ts t))) 0, Value.int IntKind.i64 (TS.fr (TT.ts t)), Value.map (some 3), Value.map (some 4), Value.map (some 5)])), some (Sum.inr (Sum.inl (3, Row.mk [Value.int IntKind.i64 0] (List.length (TS.la (TT.ts t))) [Col.mk (TS.la (TT.ts t)) [] []]))), some (Sum.inr (Sum.inl (101, Row.mk [Value.int IntKind.u64 0] (List.length (TS.wo (TT.ts t))) [Col.mk (TS.wo (TT.ts t)) [] []]))), some (Sum.inr (Sum.inr (Sum.inr (Sum.inr (TS.lv (TT.ts t)))))), some (Sum.inr (Sum.inr (Sum.inr (Sum.inl (TS.ti (TT.ts t)))))), some (Sum.inr (Sum.inr (Sum.inr (Sum.inl (TS.id (TT.ts t)))))), some (Sum.inl (35, [Value.int IntKind.i64 ix, Value.int IntKind.i64 gn])), some (Sum.inl (39, [Value.int IntKind.i64 0, Value.bool false, Value.int IntKind.i64 0, Value.int IntKind.i64 0])), some (Sum.inl (41, [Value.int IntKind.i64 (Ls.ix (Option.getD (Mp.f (TS.lv (TT.ts t)) ix) ls0)), Value.int IntKind.i64 (Ls.gn (Option.getD (Mp.f (TS.lv (TT.ts t)) ix) ls0)), Value.int IntKind.i64 (Ls.tm (Option.getD (Mp.f (TS.lv (TT.ts t)) ix) ls0)), Value.bool (Ls.ins (Option.getD (Mp.f (TS.lv (TT.ts t)) ix) ls0)), Value.int IntKind.i64 (Ls.key (Option.getD (Mp.f (TS.lv (TT.ts t)) ix) ls0)), Value.int IntKind.i64 (Ls.id (Option.getD (Mp.f (TS.lv (TT.ts t)) ix) ls0))]))])) ∧ ((Ls.gn (Option.getD (Mp.f (TS.lv (TT.ts t)) ix) ls0) != gn) = false → Post (G (Value.tuple (Array.mk [Value.agg (Array.mk [Value.int IntKind.i64 (Ls.tm (Option.getD (Mp.f (TS.lv (TT.ts t)) ix) ls0)), Value.bool (Ls.ins (Option.getD (Mp.f (TS.lv (TT.ts t)) ix) ls0)), Value.int IntKind.i64 (Ls.key (Option.getD (Mp.f (TS.lv (TT.ts t)) ix) ls0)), Value.int IntKind.i64 (Ls.id (Option.getD (Mp.f (TS.lv (TT.ts t)) ix) ls0))]), Value.bool true])) [some (Sum.inl (73, [Value.int IntKind.i64 (TS.cap (TT.ts t)), Value.int IntKind.i64 (TS.ser (TT.ts t)), Value.slice (some (Addr.mk 1 0 (some 1000))) (List.length (TS.la (TT.ts t))) 0, Value.slice (some (Addr.mk 2 0 (some 1000))) (List.length (TS.wo (TT.ts t))) 0, Value.int IntKind.i64 (TS.fr (TT.ts t)), Value.map (some 3), Value.map (some 4), Value.map (some 5)])), some (Sum.inr (Sum.inl (3, Row.mk [Value.int IntKind.i64 0] (List.length (TS.la (TT.ts t))) [Col.mk (TS.la (TT.ts t)) [] []]))), some (Sum.inr (Sum.inl (101, Row.mk [Value.int IntKind.u64 0] (List.length (TS.wo (TT.ts t))) [Col.mk (TS.wo (TT.ts t)) [] []]))), some (Sum.inr (Sum.inr (Sum.inr (Sum.inr (TS.lv (TT.ts t)))))), some (Sum.inr (Sum.inr (Sum.inr (Sum.inl (TS.ti (TT.ts t)))))), some (Sum.inr (Sum.inr (Sum.inr (Sum.inl (TS.id (TT.ts t)))))), some (Sum.inl (35, [Value.int IntKind.i64 ix, Value.int IntKind.i64 gn])), some (Sum.inl (39, [Value.int IntKind.i64 (Ls.tm (Option.getD (Mp.f (TS.lv (TT.ts t)) ix) ls0)), Value.bool (Ls.ins (Option.getD (Mp.f (TS.lv (TT.ts t)) ix) ls0)), Value.int IntKind.i64 (Ls.key (Option.getD (Mp.f (TS.lv (TT.ts t)) ix) ls0)), Value.int IntKind.i64 (Ls.id (Option.getD (Mp.f (TS.lv (TT.ts t)) ix) ls0))])), some (Sum.inl (41, [Value.int IntKind.i64 (Ls.ix (Option.getD (Mp.f (TS.lv (TT.ts t)) ix) ls0)), Value.int IntKind.i64 (Ls.gn (Option.getD (Mp.f (TS.lv (TT.ts t)) ix) ls0)), Value.int IntKind.i64 (Ls.tm (Option.getD (Mp.f (TS.lv (TT.ts t)) ix) ls0)), Value.bool (Ls.ins (Option.getD (Mp.f (TS.lv (TT.ts t)) ix) ls0)), Value.int IntKind.i64 (Ls.key (Option.getD (Mp.f (TS.lv (TT.ts t)) ix) ls0)), Value.int IntKind.i64 (Ls.id (Option.getD (Mp.f (TS.lv (TT.ts t)) ix) ls0))]))]))) ∧ ((!Option.isSome (Mp.f (TS.lv (TT.ts t)) ix)) = true → Post (G (Value.tuple (Array.mk [Value.agg (Array.mk [Value.int IntKind.i64 0, Value.bool false, Value.int IntKind.i64 0, Value.int IntKind.i64 0]), Value.bool false])) [some (Sum.inl (73, [Value.int IntKind.i64 (TS.cap (TT.ts t)), Value.int IntKind.i64 (TS.ser (TT.ts t)), Value.slice (some (Addr.mk 1 0 (some 1000))) (List.length (TS.la (TT.ts t))) 0, Value.slice (some (Addr.mk 2 0 (some 1000))) (List.length (TS.wo (TT.ts t))) 0, Value.int IntKind.i64 (TS.fr (TT.ts t)), Value.map (some 3), Value.map (some 4), Value.map (some 5)])), some (Sum.inr (Sum.inl (3, Row.mk [Value.int IntKind.i64 0] (List.length (TS.la (TT.ts t))) [Col.mk (TS.la (TT.ts t)) [] []]))), some (Sum.inr (Sum.inl (101, Row.mk [Value.int IntKind.u64 0] (List.length (TS.wo (TT.ts t))) [Col.mk (TS.wo (TT.ts t)) [] []]))), some (Sum.inr (Sum.inr (Sum.inr (Sum.inr (TS.lv (TT.ts t)))))), some (Sum.inr (Sum.inr (Sum.inr (Sum.inl (TS.ti (TT.ts t)))))), some (Sum.inr (Sum.inr (Sum.inr (Sum.inl (TS.id (TT.ts t)))))), some (Sum.inl (35, [Value.int IntKind.i64 ix, Value.int IntKind.i64 gn])), some (Sum.inl (39, [Value.int IntKind.i64 0, Value.bool false, Value.int IntKind.i64 0, Value.int IntKind.i64 0])), some (Sum.inl (41, [Value.int IntKind.i64 (Ls.ix (Option.getD (Mp.f (TS.lv (TT.ts t)) ix) ls0)), Value.int IntKind.i64 (Ls.gn (Option.getD (Mp.f (TS.lv (TT.ts t)) ix) ls0)), Value.int IntKind.i64 (Ls.tm (Option.getD (Mp.f (TS.lv (TT.ts t)) ix) ls0)), Value.bool (Ls.ins (Option.getD (Mp.f (TS.lv (TT.ts t)) ix) ls0)), Value.int IntKind.i64 (Ls.key (Option.getD (Mp.f (TS.lv (TT.ts t)) ix) ls0)), Value.int IntKind.i64 (Ls.id (Option.getD (Mp.f (TS.lv (TT.ts t)) ix) ls0))]))]))) ?_ (by kernel_rfl)
    subst hG
    repeat' (first | apply And.intro | apply Vc.mk | apply fits.mk | intro h | apply Post.mk)
    all_goals (try simp only [decide_eq_true_eq, decide_eq_false_iff_not, Nat.zero_add, ge_iff_le, Int.not_le, Int.not_lt, Int.toNat_natCast, beq_iff_eq, beq_eq_false_iff_ne, bne_iff_ne, bne_eq_false_iff_eq, Bool.not_eq_true', Bool.not_eq_false'] at *)
    all_goals first | contradiction | omega | (apply congrArg Value.bool; assumption) | exact congrArg Value.bool (decide_eq_true (by assumption)) | exact congrArg Value.bool (decide_eq_false (Int.not_lt.mpr (by assumption))) | exact ⟨rfl, by omega⟩ | exact rfl | (simp [*, -List.getD_eq_getElem?_getD]; done) | skip
    all_goals first | omega | skip
    · have e : findB t.ts ix gn = false := by unfold findB; cases hf : t.ts.lv.f ix <;> simp_all
      have e2 : findM t.m ix gn = false := by rw [← f4]; exact e
      rw [atX_no e2, e2]
      exact ⟨⟨[0, 1, 2, 3, 4, 5], rfl, rfl, ⟨.inl rfl, ⟨_, rfl, .inl rfl⟩, ⟨_, rfl, .inl rfl⟩, rfl, rfl, rfl, trivial⟩, rfl, rfl, rfl, rfl, rfl⟩⟩
    · have e : findB t.ts ix gn = true := by unfold findB; cases hf : t.ts.lv.f ix <;> simp_all
      have e1 : findX t.ts ix gn = (t.ts.lv.f ix).getD ls0 := by unfold findX; rw [e]; rfl
      rw [← f5, ← f4, e, e1]
      exact ⟨⟨[0, 1, 2, 3, 4, 5], rfl, rfl, ⟨.inl rfl, ⟨_, rfl, .inl rfl⟩, ⟨_, rfl, .inl rfl⟩, rfl, rfl, rfl, trivial⟩, rfl, rfl, rfl, rfl, rfl⟩⟩
    · have e : findB t.ts ix gn = false := by unfold findB; cases hf : t.ts.lv.f ix <;> simp_all
      have e2 : findM t.m ix gn = false := by rw [← f4]; exact e
      rw [atX_no e2, e2]
      exact ⟨⟨[0, 1, 2, 3, 4, 5], rfl, rfl, ⟨.inl rfl, ⟨_, rfl, .inl rfl⟩, ⟨_, rfl, .inl rfl⟩, rfl, rfl, rfl, trivial⟩, rfl, rfl, rfl, rfl, rfl⟩⟩
  · cases hx
def tatP : Prim Rs := fun args hh => match args, hh with
  | [.pointer (some ⟨0, 0, none⟩), .int .i64 tm], [some (.inr (.inr (.inr (.tab t))))] => some ⟨fits tm, .tuple #[.agg ⟨[.int .i64 (if tmB t.m.l tm = true then (atM t.m tm).ix else 0), .int .i64 (if tmB t.m.l tm = true then (atM t.m tm).gn else 0)]⟩, .bool (tmB t.m.l tm)], none, hh, [], []⟩
  | _, _ => none
theorem tat_ok : ConOk D Tryd.prog 15 (con1 tatP) := by
  refine con1_ok (res_prim (L := L) (D0 := D0) (fn := Tryd.f15) (root := codeOf Tryd.f15) (by kernel_rfl) (by kernel_rfl) (by kernel_rfl) fun args hh x hx => ?_)
  unfold tatP at hx
  split at hx
  · rename_i tm t
    injection hx with hx
    subst hx
    refine ⟨by first | exact Nat.le_refl _ | exact Nat.zero_le _ | exact Nat.le_succ _ | exact Nat.le_add_left 1 3 | exact Nat.le_add_left 2 2 | exact Nat.le_add_left 1 2 | exact Nat.le_add_left 4 2 | exact Nat.le_add_left 4 1 | exact Nat.le_add_left 5 1, noLit rfl, (fun hw => by first | rfl | cases hw), fun _ hv => ?_⟩
    have g1 := hv.lo; have g2 := hv.hi; obtain ⟨f4, f5⟩ := at_f t tm
    generalize hG : EndsU (R := Rs) (R0 := MF) _ _ _ = G
    refine rx_okQ (T := T0) T0_ok mixed 200 (q := Vc (fits tm) ∧ ((!Option.isSome (Mp.f (TS.ti (TT.ts t)) tm)) = true → Post (G (Value.tuple (Array.mk [Value.agg (Array.mk [Value.int IntKind.i64 0, Value.int IntKind.i64 0]), Value.bool false])) [some (Sum.inl (73, [Value.int IntKind.i64 (TS.cap (TT.ts t)), Value.int IntKind.i64 (TS.ser (TT.ts t)), Value.slice (some (Addr.mk 1 0 (some 1000))) (List.length (TS.la (TT.ts t))) 0, Value.slice (some (Addr.mk 2 0 (some 1000))) (List.length (TS.wo (TT.ts t))) 0, Value.int IntKind.i64 (TS.fr (TT.ts t)), Value.map (some 3), Value.map (some 4), Value.map (some 5)])), some (Sum.inr (Sum.inl (3, Row.mk [Value.int IntKind.i64 0] (List.length (TS.la (TT.ts t))) [Col.mk (TS.la (TT.ts t)) [] []]))), some (Sum.inr (Sum.inl (101, Row.mk [Value.int IntKind.u64 0] (List.length (TS.wo (TT.ts t))) [Col.mk (TS.wo (TT.ts t)) [] []]))), some (Sum.inr (Sum.inr (Sum.inr (Sum.inr (TS.lv (TT.ts t)))))), some (Sum.inr (Sum.inr (Sum.inr (Sum.inl (TS.ti (TT.ts t)))))), some (Sum.inr (Sum.inr (Sum.inr (Sum.inl (TS.id (TT.ts t)))))), some (Sum.inl (35, [Value.int IntKind.i64 0, Value.int IntKind.i64 0]))])) ∧ ((!Option.isSome (Mp.f (TS.ti (TT.ts t)) tm)) = false → Vc (fits (Option.getD (Mp.f (TS.ti (TT.ts t)) tm) (0 : Int))) ∧ Post (G (Value.tuple (Array.mk [Value.agg (Array.mk [Value.int IntKind.i64 (Ls.ix (Option.getD (Mp.f (TS.lv (TT.ts t)) (Option.getD (Mp.f (TS.ti (TT.ts t)) tm) (0 : Int))) ls0)), Value.int IntKind.i64 (Ls.gn (Option.getD (Mp.f (TS.lv (TT.ts t)) (Option.getD (Mp.f (TS.ti (TT.ts t)) tm) (0 : Int))) ls0))]), Value.bool true])) [some (Sum.inl (73, [Value.int IntKind.i64 (TS.cap (TT.ts t)), Value.int IntKind.i64 (TS.ser (TT.ts t)), Value.slice (some (Addr.mk 1 0 (some 1000))) (List.length (TS.la (TT.ts t))) 0, Value.slice (some (Addr.mk 2 0 (some 1000))) (List.length (TS.wo (TT.ts t))) 0, Value.int IntKind.i64 (TS.fr (TT.ts t)), Value.map (some 3), Value.map (some 4), Value.map (some 5)])), some (Sum.inr (Sum.inl (3, Row.mk [Value.int IntKind.i64 0] (List.length (TS.la (TT.ts t))) [Col.mk (TS.la (TT.ts t)) [] []]))), some (Sum.inr (Sum.inl (101, Row.mk [Value.int IntKind.u64 0] (List.length (TS.wo (TT.ts t))) [Col.mk (TS.wo (TT.ts t)) [] []]))), some (Sum.inr (Sum.inr (Sum.inr (Sum.inr (TS.lv (TT.ts t)))))), some (Sum.inr (Sum.inr (Sum.inr (Sum.inl (TS.ti (TT.ts t)))))), some (Sum.inr (Sum.inr (Sum.inr (Sum.inl (TS.id (TT.ts t)))))), some (Sum.inl (35, [Value.int IntKind.i64 (Ls.ix (Option.getD (Mp.f (TS.lv (TT.ts t)) (Option.getD (Mp.f (TS.ti (TT.ts t)) tm) (0 : Int))) ls0)), Value.int IntKind.i64 (Ls.gn (Option.getD (Mp.f (TS.lv (TT.ts t)) (Option.getD (Mp.f (TS.ti (TT.ts t)) tm) (0 : Int))) ls0))]))]))) ?_ (by kernel_rfl)
    subst hG
    repeat' (first | apply And.intro | apply Vc.mk | apply fits.mk | intro h | apply Post.mk)
    all_goals (try simp only [decide_eq_true_eq, decide_eq_false_iff_not, Nat.zero_add, ge_iff_le, Int.not_le, Int.not_lt, Int.toNat_natCast, beq_iff_eq, beq_eq_false_iff_ne, bne_iff_ne, bne_eq_false_iff_eq, Bool.not_eq_true', Bool.not_eq_false'] at *)
    all_goals first | contradiction | omega | (apply congrArg Value.bool; assumption) | exact congrArg Value.bool (decide_eq_true (by assumption)) | exact congrArg Value.bool (decide_eq_false (Int.not_lt.mpr (by assumption))) | exact ⟨rfl, by omega⟩ | exact rfl | (simp [*, -List.getD_eq_getElem?_getD]; done) | skip
    all_goals first | (obtain ⟨q1, q2⟩ := f5 (by assumption); have q3 := q2.lo; have q4 := q2.hi; omega) | skip
    · have e : tmB t.m.l tm = false := by rw [← f4]; assumption
      rw [e]
      exact ⟨⟨[0, 1, 2, 3, 4, 5], rfl, rfl, ⟨.inl rfl, ⟨_, rfl, .inl rfl⟩, ⟨_, rfl, .inl rfl⟩, rfl, rfl, rfl, trivial⟩, rfl, rfl, rfl, rfl, rfl⟩⟩
    · have e : tmB t.m.l tm = true := by rw [← f4]; assumption
      obtain ⟨q1, q2⟩ := f5 (by assumption)
      rw [e, ← q1]
      exact ⟨⟨[0, 1, 2, 3, 4, 5], rfl, rfl, ⟨.inl rfl, ⟨_, rfl, .inl rfl⟩, ⟨_, rfl, .inl rfl⟩, rfl, rfl, rfl, trivial⟩, rfl, rfl, rfl, rfl, rfl⟩⟩
  · cases hx
def tlastsP : Prim Rs := fun args hh => match args, hh with
  | [.pointer (some ⟨0, 0, none⟩)], [some (.inr (.inr (.inr (.tab t))))] => some ⟨True, .slice (some ⟨1, 0, some 1000⟩) t.m.la.length 0, none, [some (.inr (.inr (.inr (.tab t)))), some (.inr (.inl (3, ⟨[.int .i64 0], t.m.la.length, [colI t.m.la]⟩)))], [], [(0, 0)]⟩
  | _, _ => none
theorem tlasts_ok : ConOk D Tryd.prog 26 (con1 tlastsP) := by
  refine con1_ok (res_prim (L := L) (D0 := D0) (fn := Tryd.f26) (root := codeOf Tryd.f26) (by kernel_rfl) (by kernel_rfl) (by kernel_rfl) fun args hh x hx => ?_)
  unfold tlastsP at hx
  split at hx
  · rename_i t
    injection hx with hx
    subst hx
    refine ⟨by first | exact Nat.le_refl _ | exact Nat.zero_le _ | exact Nat.le_succ _ | exact Nat.le_add_left 1 3 | exact Nat.le_add_left 2 2 | exact Nat.le_add_left 1 2 | exact Nat.le_add_left 4 2 | exact Nat.le_add_left 4 1 | exact Nat.le_add_left 5 1, noLit rfl, (fun hw => by first | rfl | cases hw), fun _ hv => ?_⟩
    have f3 := t_la t
    generalize hG : EndsU (R := Rs) (R0 := MF) _ _ _ = G
    refine rx_okQ (T := T0) T0_ok mixed 200 (q := Vc (0 + List.length (TS.la (TT.ts t)) ≤ List.length (TS.la (TT.ts t)) ∧ List.length (TS.la (TT.ts t)) * 8 ≤ 140737488355328 ∧ List.length (TS.la (TT.ts t)) ≤ 140737488355328) ∧ Post (G (Value.slice (some (Addr.mk 7 0 (some 1000))) (0 + List.length (TS.la (TT.ts t))) 0) [some (Sum.inl (73, [Value.int IntKind.i64 (TS.cap (TT.ts t)), Value.int IntKind.i64 (TS.ser (TT.ts t)), Value.slice (some (Addr.mk 1 0 (some 1000))) (List.length (TS.la (TT.ts t))) 0, Value.slice (some (Addr.mk 2 0 (some 1000))) (List.length (TS.wo (TT.ts t))) 0, Value.int IntKind.i64 (TS.fr (TT.ts t)), Value.map (some 3), Value.map (some 4), Value.map (some 5)])), some (Sum.inr (Sum.inl (3, Row.mk [Value.int IntKind.i64 0] (List.length (TS.la (TT.ts t))) [Col.mk (TS.la (TT.ts t)) [] []]))), some (Sum.inr (Sum.inl (101, Row.mk [Value.int IntKind.u64 0] (List.length (TS.wo (TT.ts t))) [Col.mk (TS.wo (TT.ts t)) [] []]))), some (Sum.inr (Sum.inr (Sum.inr (Sum.inr (TS.lv (TT.ts t)))))), some (Sum.inr (Sum.inr (Sum.inr (Sum.inl (TS.ti (TT.ts t)))))), some (Sum.inr (Sum.inr (Sum.inr (Sum.inl (TS.id (TT.ts t)))))), some (Sum.inr (Sum.inl (3, Row.mk [Value.int IntKind.i64 0] 0 [Col.mk [] [] []]))), some (Sum.inr (Sum.inl (3, Row.mk [Value.int IntKind.i64 0] (0 + List.length (TS.la (TT.ts t))) [Col.mk ([] ++ cut (TS.la (TT.ts t)) 0 (List.length (TS.la (TT.ts t)))) [] []])))])) ?_ (by kernel_rfl)
    subst hG
    repeat' (first | apply And.intro | apply Vc.mk | apply fits.mk | intro h | apply Post.mk)
    all_goals (try simp only [decide_eq_true_eq, decide_eq_false_iff_not, Nat.zero_add, ge_iff_le, Int.not_le, Int.not_lt, Int.toNat_natCast, beq_iff_eq, beq_eq_false_iff_ne, bne_iff_ne, bne_eq_false_iff_eq, Bool.not_eq_true', Bool.not_eq_false'] at *)
    all_goals first | contradiction | omega | (apply congrArg Value.bool; assumption) | exact congrArg Value.bool (decide_eq_true (by assumption)) | exact congrArg Value.bool (decide_eq_false (Int.not_lt.mpr (by assumption))) | exact ⟨rfl, by omega⟩ | exact rfl | (simp [*, -List.getD_eq_getElem?_getD]; done) | skip
    all_goals first | omega | skip
    have e0 : t.ts.la = t.m.la := rfl
    simp only [cut_all, List.nil_append]
    refine ⟨⟨[0, 1, 2, 3, 4, 5, 7], ?_, rfl, ⟨.inl rfl, ⟨_, rfl, .inl rfl⟩, ⟨_, rfl, .inl rfl⟩, rfl, rfl, rfl, ⟨_, rfl, .inl ?_⟩, trivial⟩, rfl, rfl, rfl, rfl, rfl⟩⟩
    all_goals rfl
  · cases hx
end Go.Proofs.YtobdpddamdkabaaDoor.Tg
