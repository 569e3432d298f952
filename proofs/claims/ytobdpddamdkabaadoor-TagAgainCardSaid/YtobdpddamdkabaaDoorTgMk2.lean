/- tag: what Make does. -/
import Derived.Test.YtobdpddamdkabaaDoorTgFun
import Derived.Test.YtobdpddamdkabaaDoorTgTop2
import Derived.Test.YtobdpddamdkabaaDoorTgRead
import Derived.Test.YtobdpddamdkabaaDoorRxQ
namespace Go.Proofs.YtobdpddamdkabaaDoor.Tg
open Go.Proofs.YtobdpddamdkabaaDoor.Rx
set_option linter.unusedVariables false
set_option linter.unusedSimpArgs false
set_option maxRecDepth 100000
/-- a table without operations, of these words -/
def nilS (c ser : Int) (la wo : List Int) : TS := ⟨c, ser, la, wo, 0, m0, m0, m0⟩
def newrP : Prim MF := fun args hh => match args, hh with
  | [.int .i64 c], [] => some ⟨0 ≤ c ∧ c ≤ 65536, .pointer (some ⟨0, 0, none⟩), none, tbH (nilS c 0 [] []), [], [(0, 0)]⟩
  | _, _ => none
theorem newr_ok : ConOk D0 Tryd.prog 9 (con1 newrP) := by
  refine con1_ok (prim_atM 8 (fn := Tryd.f9) (root := codeOf Tryd.f9) (by kernel_rfl) (by kernel_rfl) (by kernel_rfl) fun args hh x hx => ?_)
  unfold newrP at hx
  split at hx
  · rename_i c
    injection hx with hx
    subst hx
    refine ⟨Nat.zero_le _, (fun b hb => by cases hb), (fun hw => by first | rfl | cases hw), fun _ hv => ?_⟩
    obtain ⟨c0, c1⟩ := hv
    generalize hG : Rx.Ends (R := MF) _ _ = G
    refine rx_okQ (T := T0) T0_ok mixed 200 (q := Vc True ∧ Vc True ∧ Vc True ∧ Post (G (Value.pointer (some (Addr.mk 3 0 none))) [some (Sum.inr (Sum.inr (Sum.inr (Sum.inr m0)))), some (Sum.inr (Sum.inr (Sum.inr (Sum.inl m0)))), some (Sum.inr (Sum.inr (Sum.inr (Sum.inl m0)))), some (Sum.inl (73, [Value.int IntKind.i64 (if (65536 : Int) < if (0 : Int) > c then (0 : Int) else c then (65536 : Int) else if (0 : Int) > c then (0 : Int) else c), Value.int IntKind.i64 0, Value.slice none 0 0, Value.slice none 0 0, Value.int IntKind.i64 0, Value.map (some 0), Value.map (some 1), Value.map (some 2)]))])) ?_ (by kernel_rfl)
    subst hG
    repeat' (first | apply And.intro | apply Vc.mk | apply fits.mk | intro h | apply Post.mk)
    all_goals (try simp only [decide_eq_true_eq, decide_eq_false_iff_not, Nat.zero_add, ge_iff_le, Int.not_le, Int.not_lt, Int.toNat_natCast, beq_iff_eq, beq_eq_false_iff_ne, bne_iff_ne, bne_eq_false_iff_eq, Bool.not_eq_true', Bool.not_eq_false'] at *)
    all_goals first | contradiction | omega | (apply congrArg Value.bool; assumption) | exact congrArg Value.bool (decide_eq_true (by assumption)) | exact congrArg Value.bool (decide_eq_false (Int.not_lt.mpr (by assumption))) | exact ⟨rfl, by omega⟩ | exact rfl | (simp [*, -List.getD_eq_getElem?_getD]; done) | skip
    have e : (if 65536 < if 0 > c then 0 else c then 65536 else if 0 > c then 0 else c) = c := by
      rw [if_neg (by omega : ¬ 0 > c), if_neg (by omega)]
    rw [e]
    exact ⟨[3, 99, 99, 0, 1, 2], rfl, rfl, ⟨.inl rfl, ⟨rfl, Nat.succ_pos _, rfl⟩, ⟨rfl, Nat.succ_pos _, rfl⟩, rfl, rfl, rfl, trivial⟩, rfl, rfl, rfl, rfl⟩
  · cases hx
/-- a table that lives again in part, in memory -/
def rvrP (t : TT) : Prim MF := fun args hh => match args, toTb hh with
  | [.pointer (some ⟨0, 0, none⟩), .agg ⟨[.int .i64 a, .int .i64 b, .int .i64 c, .bool d, .int .i64 e, .int .i64 f]⟩], some s => some ⟨hh = tbH s ∧ s = t.ts ∧ fits a ∧ fits c ∧ fits f, .int .i64 (revE t.m ⟨a, b, c, d, e, f⟩), none, tbH (t.revive ⟨a, b, c, d, e, f⟩).ts, [], [(0, 0)]⟩
  | _, _ => none
theorem rvr_ok (t : TT) : ConOk D0 Tryd.prog 20 (con1 (rvrP t)) := by
  refine con1_ok (prim_atM 8 (fn := Tryd.f20) (root := codeOf Tryd.f20) (by kernel_rfl) (by kernel_rfl) (by kernel_rfl) fun args hh x hx => ?_)
  unfold rvrP at hx
  split at hx
  · rename_i a b c d e f s hm
    injection hx with hx
    subst hx
    refine ⟨by rw [toTb_len hm]; first | exact Nat.le_refl _ | exact Nat.le_succ _, (fun b hb => by cases hb), (fun hw => by first | rfl | cases hw), fun _ hv => ?_⟩
    obtain ⟨rfl, rfl, hv⟩ := hv
    have f1 := t_fr t
    have f2 := t_wo t
    have f3 := t_la t
    have f4 := t_n t
    have g1 := hv.1.lo
    have g2 := hv.1.hi
    have g3 := hv.2.1.lo
    have g4 := hv.2.1.hi
    have g5 := hv.2.2.lo
    have g6 := hv.2.2.hi
    generalize hG : Rx.Ends (R := MF) _ _ = G
    refine rx_okQ (T := TRev) (by exact TRev_ok) mixed 200 (q := Vc ([some (Sum.inl (73, [Value.int IntKind.i64 (TS.cap (TT.ts t)), Value.int IntKind.i64 (TS.ser (TT.ts t)), Value.slice (some (Addr.mk 1 0 (some 1000))) (List.length (TS.la (TT.ts t))) 0, Value.slice (some (Addr.mk 2 0 (some 1000))) (List.length (TS.wo (TT.ts t))) 0, Value.int IntKind.i64 (TS.fr (TT.ts t)), Value.map (some 3), Value.map (some 4), Value.map (some 5)])), some (Sum.inr (Sum.inl (3, Row.mk [Value.int IntKind.i64 0] (List.length (TS.la (TT.ts t))) [Col.mk (TS.la (TT.ts t)) [] []]))), some (Sum.inr (Sum.inl (101, Row.mk [Value.int IntKind.u64 0] (List.length (TS.wo (TT.ts t))) [Col.mk (TS.wo (TT.ts t)) [] []]))), some (Sum.inr (Sum.inr (Sum.inr (Sum.inr (TS.lv (TT.ts t)))))), some (Sum.inr (Sum.inr (Sum.inr (Sum.inl (TS.ti (TT.ts t)))))), some (Sum.inr (Sum.inr (Sum.inr (Sum.inl (TS.id (TT.ts t))))))] = tbH (TT.ts t) ∧ fits c) ∧ ((roomE (TT.ts t) c != (0 : Int)) = true → Post (G (Value.int IntKind.i64 (roomE (TT.ts t) c)) [some (Sum.inl (73, [Value.int IntKind.i64 (TS.cap (TT.ts t)), Value.int IntKind.i64 (TS.ser (TT.ts t)), Value.slice (some (Addr.mk 1 0 (some 1000))) (List.length (TS.la (TT.ts t))) 0, Value.slice (some (Addr.mk 2 0 (some 1000))) (List.length (TS.wo (TT.ts t))) 0, Value.int IntKind.i64 (TS.fr (TT.ts t)), Value.map (some 3), Value.map (some 4), Value.map (some 5)])), some (Sum.inr (Sum.inl (3, Row.mk [Value.int IntKind.i64 0] (List.length (TS.la (TT.ts t))) [Col.mk (TS.la (TT.ts t)) [] []]))), some (Sum.inr (Sum.inl (101, Row.mk [Value.int IntKind.u64 0] (List.length (TS.wo (TT.ts t))) [Col.mk (TS.wo (TT.ts t)) [] []]))), some (Sum.inr (Sum.inr (Sum.inr (Sum.inr (TS.lv (TT.ts t)))))), some (Sum.inr (Sum.inr (Sum.inr (Sum.inl (TS.ti (TT.ts t)))))), some (Sum.inr (Sum.inr (Sum.inr (Sum.inl (TS.id (TT.ts t)))))), some (Sum.inl (41, [Value.int IntKind.i64 a, Value.int IntKind.i64 b, Value.int IntKind.i64 c, Value.bool d, Value.int IntKind.i64 e, Value.int IntKind.i64 f]))])) ∧ ((roomE (TT.ts t) c != (0 : Int)) = false → Vc ([some (Sum.inl (73, [Value.int IntKind.i64 (TS.cap (TT.ts t)), Value.int IntKind.i64 (TS.ser (TT.ts t)), Value.slice (some (Addr.mk 1 0 (some 1000))) (List.length (TS.la (TT.ts t))) 0, Value.slice (some (Addr.mk 2 0 (some 1000))) (List.length (TS.wo (TT.ts t))) 0, Value.int IntKind.i64 (TS.fr (TT.ts t)), Value.map (some 3), Value.map (some 4), Value.map (some 5)])), some (Sum.inr (Sum.inl (3, Row.mk [Value.int IntKind.i64 0] (List.length (TS.la (TT.ts t))) [Col.mk (TS.la (TT.ts t)) [] []]))), some (Sum.inr (Sum.inl (101, Row.mk [Value.int IntKind.u64 0] (List.length (TS.wo (TT.ts t))) [Col.mk (TS.wo (TT.ts t)) [] []]))), some (Sum.inr (Sum.inr (Sum.inr (Sum.inr (TS.lv (TT.ts t)))))), some (Sum.inr (Sum.inr (Sum.inr (Sum.inl (TS.ti (TT.ts t)))))), some (Sum.inr (Sum.inr (Sum.inr (Sum.inl (TS.id (TT.ts t))))))] = tbH (TT.ts t) ∧ fits a ∧ List.length (TS.la (TT.ts t)) < 1000000) ∧ ((!haveB (TT.ts t) a b) = true → Post (G (Value.int IntKind.i64 13) [some (Sum.inl (73, [Value.int IntKind.i64 (TS.cap (TT.ts t)), Value.int IntKind.i64 (TS.ser (TT.ts t)), Value.slice (some (Addr.mk 1 0 (some 1000))) (List.length (TS.la (TT.ts t))) 0, Value.slice (some (Addr.mk 2 0 (some 1000))) (List.length (TS.wo (TT.ts t))) 0, Value.int IntKind.i64 (TS.fr (TT.ts t)), Value.map (some 3), Value.map (some 4), Value.map (some 5)])), some (Sum.inr (Sum.inl (3, Row.mk [Value.int IntKind.i64 0] (List.length (TS.la (TT.ts t))) [Col.mk (TS.la (TT.ts t)) [] []]))), some (Sum.inr (Sum.inl (101, Row.mk [Value.int IntKind.u64 0] (List.length (TS.wo (TT.ts t))) [Col.mk (TS.wo (TT.ts t)) [] []]))), some (Sum.inr (Sum.inr (Sum.inr (Sum.inr (TS.lv (TT.ts t)))))), some (Sum.inr (Sum.inr (Sum.inr (Sum.inl (TS.ti (TT.ts t)))))), some (Sum.inr (Sum.inr (Sum.inr (Sum.inl (TS.id (TT.ts t)))))), some (Sum.inl (41, [Value.int IntKind.i64 a, Value.int IntKind.i64 b, Value.int IntKind.i64 c, Value.bool d, Value.int IntKind.i64 e, Value.int IntKind.i64 f]))])) ∧ ((!haveB (TT.ts t) a b) = false → Vc ([some (Sum.inl (73, [Value.int IntKind.i64 (TS.cap (TT.ts t)), Value.int IntKind.i64 (TS.ser (TT.ts t)), Value.slice (some (Addr.mk 1 0 (some 1000))) (List.length (TS.la (TT.ts t))) 0, Value.slice (some (Addr.mk 2 0 (some 1000))) (List.length (TS.wo (TT.ts t))) 0, Value.int IntKind.i64 (TS.fr (TT.ts t)), Value.map (some 3), Value.map (some 4), Value.map (some 5)])), some (Sum.inr (Sum.inl (3, Row.mk [Value.int IntKind.i64 0] (List.length (TS.la (TT.ts t))) [Col.mk (TS.la (TT.ts t)) [] []]))), some (Sum.inr (Sum.inl (101, Row.mk [Value.int IntKind.u64 0] (List.length (TS.wo (TT.ts t))) [Col.mk (TS.wo (TT.ts t)) [] []]))), some (Sum.inr (Sum.inr (Sum.inr (Sum.inr (TS.lv (TT.ts t)))))), some (Sum.inr (Sum.inr (Sum.inr (Sum.inl (TS.ti (TT.ts t)))))), some (Sum.inr (Sum.inr (Sum.inr (Sum.inl (TS.id (TT.ts t))))))] = tbH (TT.ts t) ∧ fits f) ∧ ((!beB (TT.ts t) d e f) = true → Post (G (Value.int IntKind.i64 2) [some (Sum.inl (73, [Value.int IntKind.i64 (TS.cap (TT.ts t)), Value.int IntKind.i64 (TS.ser (TT.ts t)), Value.slice (some (Addr.mk 1 0 (some 1000))) (List.length (TS.la (TT.ts t))) 0, Value.slice (some (Addr.mk 2 0 (some 1000))) (List.length (TS.wo (TT.ts t))) 0, Value.int IntKind.i64 (TS.fr (TT.ts t)), Value.map (some 3), Value.map (some 4), Value.map (some 5)])), some (Sum.inr (Sum.inl (3, Row.mk [Value.int IntKind.i64 0] (List.length (TS.la (TT.ts t))) [Col.mk (TS.la (TT.ts t)) [] []]))), some (Sum.inr (Sum.inl (101, Row.mk [Value.int IntKind.u64 0] (List.length (TS.wo (TT.ts t))) [Col.mk (TS.wo (TT.ts t)) [] []]))), some (Sum.inr (Sum.inr (Sum.inr (Sum.inr (TS.lv (TT.ts t)))))), some (Sum.inr (Sum.inr (Sum.inr (Sum.inl (TS.ti (TT.ts t)))))), some (Sum.inr (Sum.inr (Sum.inr (Sum.inl (TS.id (TT.ts t)))))), some (Sum.inl (41, [Value.int IntKind.i64 a, Value.int IntKind.i64 b, Value.int IntKind.i64 c, Value.bool d, Value.int IntKind.i64 e, Value.int IntKind.i64 f]))])) ∧ ((!beB (TT.ts t) d e f) = false → Vc ([some (Sum.inl (73, [Value.int IntKind.i64 (TS.cap (TT.ts t)), Value.int IntKind.i64 (TS.ser (TT.ts t)), Value.slice (some (Addr.mk 1 0 (some 1000))) (List.length (TS.la (TT.ts t))) 0, Value.slice (some (Addr.mk 2 0 (some 1000))) (List.length (TS.wo (TT.ts t))) 0, Value.int IntKind.i64 (TS.fr (TT.ts t)), Value.map (some 3), Value.map (some 4), Value.map (some 5)])), some (Sum.inr (Sum.inl (3, Row.mk [Value.int IntKind.i64 0] (List.length (TS.la (TT.ts t))) [Col.mk (TS.la (TT.ts t)) [] []]))), some (Sum.inr (Sum.inl (101, Row.mk [Value.int IntKind.u64 0] (List.length (TS.wo (TT.ts t))) [Col.mk (TS.wo (TT.ts t)) [] []]))), some (Sum.inr (Sum.inr (Sum.inr (Sum.inr (TS.lv (TT.ts t)))))), some (Sum.inr (Sum.inr (Sum.inr (Sum.inl (TS.ti (TT.ts t)))))), some (Sum.inr (Sum.inr (Sum.inr (Sum.inl (TS.id (TT.ts t))))))] = tbH (TT.ts t) ∧ (0 : Int) ≤ a ∧ a < (1000000 : Int)) ∧ Vc ([some (Sum.inl (73, [Value.int IntKind.i64 (TS.cap (lessS (TT.ts t) a)), Value.int IntKind.i64 (TS.ser (lessS (TT.ts t) a)), Value.slice (some (Addr.mk 1 0 (some 1000))) (List.length (TS.la (lessS (TT.ts t) a))) 0, Value.slice (some (Addr.mk 2 0 (some 1000))) (List.length (TS.wo (lessS (TT.ts t) a))) 0, Value.int IntKind.i64 (TS.fr (lessS (TT.ts t) a)), Value.map (some 3), Value.map (some 4), Value.map (some 5)])), some (Sum.inr (Sum.inl (3, Row.mk [Value.int IntKind.i64 0] (List.length (TS.la (lessS (TT.ts t) a))) [Col.mk (TS.la (lessS (TT.ts t) a)) [] []]))), some (Sum.inr (Sum.inl (101, Row.mk [Value.int IntKind.u64 0] (List.length (TS.wo (lessS (TT.ts t) a))) [Col.mk (TS.wo (lessS (TT.ts t) a)) [] []]))), some (Sum.inr (Sum.inr (Sum.inr (Sum.inr (TS.lv (lessS (TT.ts t) a)))))), some (Sum.inr (Sum.inr (Sum.inr (Sum.inl (TS.ti (lessS (TT.ts t) a)))))), some (Sum.inr (Sum.inr (Sum.inr (Sum.inl (TS.id (lessS (TT.ts t) a))))))] = tbH (lessS (TT.ts t) a) ∧ fits a ∧ fits c ∧ fits f ∧ Mp.n (TS.lv (lessS (TT.ts t) a)) < 1000000 ∧ Mp.n (TS.ti (lessS (TT.ts t) a)) < 1000000 ∧ Mp.n (TS.id (lessS (TT.ts t) a)) < 1000000) ∧ Post (G (Value.int IntKind.i64 0) [some (Sum.inl (73, [Value.int IntKind.i64 (TS.cap (holdS (lessS (TT.ts t) a) (Ls.mk a b c d e f))), Value.int IntKind.i64 (TS.ser (holdS (lessS (TT.ts t) a) (Ls.mk a b c d e f))), Value.slice (some (Addr.mk 1 0 (some 1000))) (List.length (TS.la (holdS (lessS (TT.ts t) a) (Ls.mk a b c d e f)))) 0, Value.slice (some (Addr.mk 2 0 (some 1000))) (List.length (TS.wo (holdS (lessS (TT.ts t) a) (Ls.mk a b c d e f)))) 0, Value.int IntKind.i64 (TS.fr (holdS (lessS (TT.ts t) a) (Ls.mk a b c d e f))), Value.map (some 3), Value.map (some 4), Value.map (some 5)])), some (Sum.inr (Sum.inl (3, Row.mk [Value.int IntKind.i64 0] (List.length (TS.la (holdS (lessS (TT.ts t) a) (Ls.mk a b c d e f)))) [Col.mk (TS.la (holdS (lessS (TT.ts t) a) (Ls.mk a b c d e f))) [] []]))), some (Sum.inr (Sum.inl (101, Row.mk [Value.int IntKind.u64 0] (List.length (TS.wo (holdS (lessS (TT.ts t) a) (Ls.mk a b c d e f)))) [Col.mk (TS.wo (holdS (lessS (TT.ts t) a) (Ls.mk a b c d e f))) [] []]))), some (Sum.inr (Sum.inr (Sum.inr (Sum.inr (TS.lv (holdS (lessS (TT.ts t) a) (Ls.mk a b c d e f))))))), some (Sum.inr (Sum.inr (Sum.inr (Sum.inl (TS.ti (holdS (lessS (TT.ts t) a) (Ls.mk a b c d e f))))))), some (Sum.inr (Sum.inr (Sum.inr (Sum.inl (TS.id (holdS (lessS (TT.ts t) a) (Ls.mk a b c d e f))))))), some (Sum.inl (41, [Value.int IntKind.i64 a, Value.int IntKind.i64 b, Value.int IntKind.i64 c, Value.bool d, Value.int IntKind.i64 e, Value.int IntKind.i64 f]))]))))) ?_ (by kernel_rfl)
    subst hG
    have r6 := have_ix t a b
    have r4 := rev_is t a b c d e f
    have r5 : ∀ x, revE t.m ⟨a, b, c, d, e, f⟩ = x → x ≠ 0 → t.revive ⟨a, b, c, d, e, f⟩ = t := fun x e h => revive_no t (by rw [e]; exact h)
    repeat' (first | apply And.intro | apply Vc.mk | apply fits.mk | intro h | apply Post.mk)
    all_goals (try simp only [decide_eq_true_eq, decide_eq_false_iff_not, Nat.zero_add, ge_iff_le, Int.not_le, Int.not_lt, Int.toNat_natCast, beq_iff_eq, beq_eq_false_iff_ne, bne_iff_ne, bne_eq_false_iff_eq, Bool.not_eq_true', Bool.not_eq_false'] at *)
    all_goals first | contradiction | omega | (apply congrArg Value.bool; assumption) | exact congrArg Value.bool (decide_eq_true (by assumption)) | exact congrArg Value.bool (decide_eq_false (Int.not_lt.mpr (by assumption))) | exact ⟨rfl, by omega⟩ | exact rfl | (simp [*, -List.getD_eq_getElem?_getD]; done) | skip
    all_goals first | omega | (obtain ⟨q1, q2⟩ := r6 (by assumption); omega) | (show Mp.n _ < _; first | exact Nat.lt_of_le_of_lt f4.1 (by decide) | exact Nat.lt_of_le_of_lt f4.2.1 (by decide) | exact Nat.lt_of_le_of_lt f4.2.2 (by decide)) | skip
    all_goals first | (have h0 : revE t.m ⟨a, b, c, d, e, f⟩ = 2 := (by rw [r4, if_pos (by assumption), if_pos (by assumption), if_neg (by simp_all)]); rw [r5 _ h0 (by decide), h0]; exact ⟨[0, 1, 2, 3, 4, 5], rfl, rfl, ⟨.inl rfl, ⟨_, rfl, .inl rfl⟩, ⟨_, rfl, .inl rfl⟩, rfl, rfl, rfl, trivial⟩, rfl, rfl, rfl, rfl⟩) | (have h0 : revE t.m ⟨a, b, c, d, e, f⟩ = 13 := (by rw [r4, if_pos (by assumption), if_neg (by simp_all)]); rw [r5 _ h0 (by decide), h0]; exact ⟨[0, 1, 2, 3, 4, 5], rfl, rfl, ⟨.inl rfl, ⟨_, rfl, .inl rfl⟩, ⟨_, rfl, .inl rfl⟩, rfl, rfl, rfl, trivial⟩, rfl, rfl, rfl, rfl⟩) | (have h0 : revE t.m ⟨a, b, c, d, e, f⟩ = roomE t.ts c := (by rw [r4, if_neg (by assumption)]); rw [r5 _ h0 (by assumption), h0]; exact ⟨[0, 1, 2, 3, 4, 5], rfl, rfl, ⟨.inl rfl, ⟨_, rfl, .inl rfl⟩, ⟨_, rfl, .inl rfl⟩, rfl, rfl, rfl, trivial⟩, rfl, rfl, rfl, rfl⟩) | (have h0 : revE t.m ⟨a, b, c, d, e, f⟩ = 0 := (by rw [r4, if_pos (by assumption), if_pos (by assumption), if_pos (by assumption)]); rw [h0, revive_ts t h0 hv.2.1]; exact ⟨[0, 1, 2, 3, 4, 5], rfl, rfl, ⟨.inl rfl, ⟨_, rfl, .inl rfl⟩, ⟨_, rfl, .inl rfl⟩, rfl, rfl, rfl, trivial⟩, rfl, rfl, rfl, rfl⟩) | skip
  · cases hx
/-- a cell that leads to a table -/
def tbC (s : TS) : Hp MF := [some (.inl (24, [.pointer (some ⟨1, 0, none⟩)])), some (.inl (73, [.int .i64 s.cap, .int .i64 s.ser, .slice (some ⟨2, 0, some 1000⟩) s.la.length 0, .slice (some ⟨3, 0, some 1000⟩) s.wo.length 0, .int .i64 s.fr, .map (some 4), .map (some 5), .map (some 6)])), some (rowI s.la), some (rowU s.wo), some (.inr (.inr (.inr (.inr s.lv)))), some (.inr (.inr (.inr (.inl s.ti)))), some (.inr (.inr (.inr (.inl s.id))))]
def toC : Hp MF → Option TS
  | some (.inl (_, [.pointer _])) :: r => toTb r
  | _ => none
theorem toC_len {hh : Hp MF} {m : TS} (h : toC hh = some m) : hh.length = 7 := by
  unfold toC at h
  split at h
  · rw [List.length_cons, toTb_len h]
  · cases h
def TMc (t : TT) : Tab MF := [(20, liftC zN 2 (con1 (rvrP t)))]
theorem TMc_ok (t : TT) : TabOk D0 Tryd.prog (TMc t) := ⟨liftC_ok _ _ (rvr_ok t), trivial⟩
def mclP (t : TT) : Prim MF := fun args hh => match args, toC hh with
  | [.agg ⟨[.int .i64 a, .int .i64 b, .int .i64 c, .bool d, .int .i64 e, .int .i64 f]⟩, .pointer (some ⟨0, 0, none⟩)], some s => some ⟨hh = tbC s ∧ s = t.ts ∧ fits a ∧ fits c ∧ fits f, .bool (!decide (revE t.m ⟨a, b, c, d, e, f⟩ = 0)), none, tbC (t.revive ⟨a, b, c, d, e, f⟩).ts, [], [(0, 0)]⟩
  | _, _ => none
theorem mcl_ok (t : TT) : ConOk D0 Tryd.prog 45 (con1 (mclP t)) := by
  refine con1_ok (prim_atM 8 (fn := Tryd.f45) (root := codeOf Tryd.f45) (by kernel_rfl) (by kernel_rfl) (by kernel_rfl) fun args hh x hx => ?_)
  unfold mclP at hx
  split at hx
  · rename_i a b c d e f s hm
    injection hx with hx
    subst hx
    refine ⟨by rw [toC_len hm]; first | exact Nat.le_refl _ | exact Nat.le_succ _, (fun b hb => by cases hb), (fun hw => by first | rfl | cases hw), fun _ hv => ?_⟩
    obtain ⟨rfl, rfl, hv⟩ := hv
    generalize hG : Rx.Ends (R := MF) _ _ = G
    refine rx_okQ (T := (TMc t)) (by exact TMc_ok t) mixed 200 (q := Vc ([some (Sum.inl (73, [Value.int IntKind.i64 (TS.cap (TT.ts t)), Value.int IntKind.i64 (TS.ser (TT.ts t)), Value.slice (some (Addr.mk 1 0 (some 1000))) (List.length (TS.la (TT.ts t))) 0, Value.slice (some (Addr.mk 2 0 (some 1000))) (List.length (TS.wo (TT.ts t))) 0, Value.int IntKind.i64 (TS.fr (TT.ts t)), Value.map (some 3), Value.map (some 4), Value.map (some 5)])), some (Sum.inr (Sum.inl (3, Row.mk [Value.int IntKind.i64 0] (List.length (TS.la (TT.ts t))) [Col.mk (TS.la (TT.ts t)) [] []]))), some (Sum.inr (Sum.inl (101, Row.mk [Value.int IntKind.u64 0] (List.length (TS.wo (TT.ts t))) [Col.mk (TS.wo (TT.ts t)) [] []]))), some (Sum.inr (Sum.inr (Sum.inr (Sum.inr (TS.lv (TT.ts t)))))), some (Sum.inr (Sum.inr (Sum.inr (Sum.inl (TS.ti (TT.ts t)))))), some (Sum.inr (Sum.inr (Sum.inr (Sum.inl (TS.id (TT.ts t))))))] = tbH (TT.ts t) ∧ TT.ts t = TT.ts t ∧ fits a ∧ fits c ∧ fits f) ∧ Post (G (Value.bool (revE (TT.m t) (Ls.mk a b c d e f) != (0 : Int))) [some (Sum.inl (24, [Value.pointer (some (Addr.mk 1 0 none))])), some (Sum.inl (73, [Value.int IntKind.i64 (TS.cap (TT.ts (TT.revive t (Ls.mk a b c d e f)))), Value.int IntKind.i64 (TS.ser (TT.ts (TT.revive t (Ls.mk a b c d e f)))), Value.slice (some (Addr.mk 2 0 (some 1000))) (List.length (TS.la (TT.ts (TT.revive t (Ls.mk a b c d e f))))) 0, Value.slice (some (Addr.mk 3 0 (some 1000))) (List.length (TS.wo (TT.ts (TT.revive t (Ls.mk a b c d e f))))) 0, Value.int IntKind.i64 (TS.fr (TT.ts (TT.revive t (Ls.mk a b c d e f)))), Value.map (some 4), Value.map (some 5), Value.map (some 6)])), some (Sum.inr (Sum.inl (3, Row.mk [Value.int IntKind.i64 0] (List.length (TS.la (TT.ts (TT.revive t (Ls.mk a b c d e f))))) [Col.mk (TS.la (TT.ts (TT.revive t (Ls.mk a b c d e f)))) [] []]))), some (Sum.inr (Sum.inl (101, Row.mk [Value.int IntKind.u64 0] (List.length (TS.wo (TT.ts (TT.revive t (Ls.mk a b c d e f))))) [Col.mk (TS.wo (TT.ts (TT.revive t (Ls.mk a b c d e f)))) [] []]))), some (Sum.inr (Sum.inr (Sum.inr (Sum.inr (TS.lv (TT.ts (TT.revive t (Ls.mk a b c d e f)))))))), some (Sum.inr (Sum.inr (Sum.inr (Sum.inl (TS.ti (TT.ts (TT.revive t (Ls.mk a b c d e f)))))))), some (Sum.inr (Sum.inr (Sum.inr (Sum.inl (TS.id (TT.ts (TT.revive t (Ls.mk a b c d e f)))))))), some (Sum.inl (41, [Value.int IntKind.i64 a, Value.int IntKind.i64 b, Value.int IntKind.i64 c, Value.bool d, Value.int IntKind.i64 e, Value.int IntKind.i64 f]))])) ?_ (by kernel_rfl)
    subst hG
    have g1 := hv.1.lo
    have g2 := hv.1.hi
    have g3 := hv.2.1.lo
    have g4 := hv.2.1.hi
    have g5 := hv.2.2.lo
    have g6 := hv.2.2.hi
    repeat' (first | apply And.intro | apply Vc.mk | apply fits.mk | intro h | apply Post.mk)
    all_goals (try simp only [decide_eq_true_eq, decide_eq_false_iff_not, Nat.zero_add, ge_iff_le, Int.not_le, Int.not_lt, Int.toNat_natCast, beq_iff_eq, beq_eq_false_iff_ne, bne_iff_ne, bne_eq_false_iff_eq, Bool.not_eq_true', Bool.not_eq_false'] at *)
    all_goals first | contradiction | omega | (apply congrArg Value.bool; assumption) | exact congrArg Value.bool (decide_eq_true (by assumption)) | exact congrArg Value.bool (decide_eq_false (Int.not_lt.mpr (by assumption))) | exact ⟨rfl, by omega⟩ | exact rfl | (simp [*, -List.getD_eq_getElem?_getD]; done) | skip
    all_goals first | omega | exact ⟨[0, 1, 2, 3, 4, 5, 6], rfl, rfl, ⟨.inl rfl, .inl rfl, ⟨_, rfl, .inl rfl⟩, ⟨_, rfl, .inl rfl⟩, rfl, rfl, rfl, trivial⟩, rfl, rfl, rfl, rfl⟩ | trace_state
  · cases hx
end Go.Proofs.YtobdpddamdkabaaDoor.Tg
