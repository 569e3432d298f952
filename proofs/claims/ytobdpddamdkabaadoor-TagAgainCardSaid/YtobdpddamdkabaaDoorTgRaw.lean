/- tag: what the functions of a table do to its memory. -/
import Derived.Test.YtobdpddamdkabaaDoorTgRes
import Derived.Test.YtobdpddamdkabaaDoorRxQ
namespace Go.Proofs.YtobdpddamdkabaaDoor.Tg
open Go.Proofs.YtobdpddamdkabaaDoor.Rx
set_option linter.unusedVariables false
set_option linter.unusedSimpArgs false
set_option maxRecDepth 100000
def roomP : Prim MF := fun args hh => match args, toTb hh with
  | [.pointer (some ⟨0, 0, none⟩), .int .i64 tm], some s => some ⟨hh = tbH s ∧ fits tm, .int .i64 (roomE s tm), none, hh, [], []⟩
  | _, _ => none
theorem room_ok : ConOk D0 Tryd.prog 35 (con1 roomP) := by
  refine con1_ok (prim_atM 6 (fn := Tryd.f35) (root := codeOf Tryd.f35) (by kernel_rfl) (by kernel_rfl) (by kernel_rfl) fun args hh x hx => ?_)
  unfold roomP at hx
  split at hx
  · rename_i tm s hm
    injection hx with hx
    subst hx
    refine ⟨by rw [toTb_len hm]; first | exact Nat.le_refl _ | exact Nat.le_succ _, (fun b hb => by cases hb), (fun hw => by first | rfl | cases hw), fun _ hv => ?_⟩
    obtain ⟨rfl, hv⟩ := hv
    have g1 := hv.lo; have g2 := hv.hi
    generalize hG : Rx.Ends (R := MF) _ _ = G
    refine rx_okQ (T := T0) T0_ok mixed 200 (q := (decide ((↑(Mp.n (TS.lv s)) : Int) ≥ TS.cap s) = true → Post (G (Value.int IntKind.i64 10) [some (Sum.inl (73, [Value.int IntKind.i64 (TS.cap s), Value.int IntKind.i64 (TS.ser s), Value.slice (some (Addr.mk 1 0 (some 1000))) (List.length (TS.la s)) 0, Value.slice (some (Addr.mk 2 0 (some 1000))) (List.length (TS.wo s)) 0, Value.int IntKind.i64 (TS.fr s), Value.map (some 3), Value.map (some 4), Value.map (some 5)])), some (Sum.inr (Sum.inl (3, Row.mk [Value.int IntKind.i64 0] (List.length (TS.la s)) [Col.mk (TS.la s) [] []]))), some (Sum.inr (Sum.inl (101, Row.mk [Value.int IntKind.u64 0] (List.length (TS.wo s)) [Col.mk (TS.wo s) [] []]))), some (Sum.inr (Sum.inr (Sum.inr (Sum.inr (TS.lv s))))), some (Sum.inr (Sum.inr (Sum.inr (Sum.inl (TS.ti s))))), some (Sum.inr (Sum.inr (Sum.inr (Sum.inl (TS.id s)))))])) ∧ (decide ((↑(Mp.n (TS.lv s)) : Int) ≥ TS.cap s) = false → Vc (fits tm) ∧ (Option.isSome (Mp.f (TS.ti s) tm) = true → Post (G (Value.int IntKind.i64 11) [some (Sum.inl (73, [Value.int IntKind.i64 (TS.cap s), Value.int IntKind.i64 (TS.ser s), Value.slice (some (Addr.mk 1 0 (some 1000))) (List.length (TS.la s)) 0, Value.slice (some (Addr.mk 2 0 (some 1000))) (List.length (TS.wo s)) 0, Value.int IntKind.i64 (TS.fr s), Value.map (some 3), Value.map (some 4), Value.map (some 5)])), some (Sum.inr (Sum.inl (3, Row.mk [Value.int IntKind.i64 0] (List.length (TS.la s)) [Col.mk (TS.la s) [] []]))), some (Sum.inr (Sum.inl (101, Row.mk [Value.int IntKind.u64 0] (List.length (TS.wo s)) [Col.mk (TS.wo s) [] []]))), some (Sum.inr (Sum.inr (Sum.inr (Sum.inr (TS.lv s))))), some (Sum.inr (Sum.inr (Sum.inr (Sum.inl (TS.ti s))))), some (Sum.inr (Sum.inr (Sum.inr (Sum.inl (TS.id s)))))])) ∧ (Option.isSome (Mp.f (TS.ti s) tm) = false → Post (G (Value.int IntKind.i64 0) [some (Sum.inl (73, [Value.int IntKind.i64 (TS.cap s), Value.int IntKind.i64 (TS.ser s), Value.slice (some (Addr.mk 1 0 (some 1000))) (List.length (TS.la s)) 0, Value.slice (some (Addr.mk 2 0 (some 1000))) (List.length (TS.wo s)) 0, Value.int IntKind.i64 (TS.fr s), Value.map (some 3), Value.map (some 4), Value.map (some 5)])), some (Sum.inr (Sum.inl (3, Row.mk [Value.int IntKind.i64 0] (List.length (TS.la s)) [Col.mk (TS.la s) [] []]))), some (Sum.inr (Sum.inl (101, Row.mk [Value.int IntKind.u64 0] (List.length (TS.wo s)) [Col.mk (TS.wo s) [] []]))), some (Sum.inr (Sum.inr (Sum.inr (Sum.inr (TS.lv s))))), some (Sum.inr (Sum.inr (Sum.inr (Sum.inl (TS.ti s))))), some (Sum.inr (Sum.inr (Sum.inr (Sum.inl (TS.id s)))))])))) ?_ (by kernel_rfl)
    subst hG
    repeat' (first | apply And.intro | apply Vc.mk | apply fits.mk | intro h | apply Post.mk)
    all_goals (try simp only [decide_eq_true_eq, decide_eq_false_iff_not, Nat.zero_add, ge_iff_le, Int.not_le, Int.not_lt, Int.toNat_natCast, beq_iff_eq, beq_eq_false_iff_ne, bne_iff_ne, bne_eq_false_iff_eq, Bool.not_eq_true', Bool.not_eq_false'] at *)
    all_goals first | contradiction | omega | (apply congrArg Value.bool; assumption) | exact congrArg Value.bool (decide_eq_true (by assumption)) | exact congrArg Value.bool (decide_eq_false (Int.not_lt.mpr (by assumption))) | exact ⟨rfl, by omega⟩ | exact rfl | (simp [*, -List.getD_eq_getElem?_getD]; done) | skip
    all_goals refine ⟨[0, 1, 2, 3, 4, 5], ?_, rfl, ⟨.inl rfl, ⟨_, rfl, .inl rfl⟩, ⟨_, rfl, .inl rfl⟩, rfl, rfl, rfl, trivial⟩, rfl, rfl, rfl, rfl⟩
    · show Value.int .i64 10 = .int .i64 (roomE s tm)
      unfold roomE; rw [if_pos (by omega)]
    · show Value.int .i64 11 = .int .i64 (roomE s tm)
      unfold roomE; rw [if_neg (by omega), if_pos (by assumption)]
    · show Value.int .i64 0 = .int .i64 (roomE s tm)
      unfold roomE; rw [if_neg (by omega), if_neg (by simp_all)]
  · cases hx
def findP : Prim MF := fun args hh => match args, toTb hh with
  | [.pointer (some ⟨0, 0, none⟩), .agg ⟨[.int .i64 ix, .int .i64 gn]⟩], some s => some ⟨hh = tbH s ∧ fits ix, .tuple #[.agg ⟨opL (findX s ix gn)⟩, .bool (findB s ix gn)], none, hh, [], []⟩
  | _, _ => none
theorem find_ok : ConOk D0 Tryd.prog 13 (con1 findP) := by
  refine con1_ok (prim_atM 6 (fn := Tryd.f13) (root := codeOf Tryd.f13) (by kernel_rfl) (by kernel_rfl) (by kernel_rfl) fun args hh x hx => ?_)
  unfold findP at hx
  split at hx
  · rename_i ix gn s hm
    injection hx with hx
    subst hx
    refine ⟨by rw [toTb_len hm]; first | exact Nat.le_refl _ | exact Nat.le_succ _, (fun b hb => by cases hb), (fun hw => by first | rfl | cases hw), fun _ hv => ?_⟩
    obtain ⟨rfl, hv⟩ := hv
    have g1 := hv.lo; have g2 := hv.hi
    generalize hG : Rx.Ends (R := MF) _ _ = G
    refine rx_okQ (T := T0) T0_ok mixed 200 (q := Vc (fits ix) ∧ ((!Option.isSome (Mp.f (TS.lv s) ix)) = false → ((Ls.gn (Option.getD (Mp.f (TS.lv s) ix) ls0) != gn) = true → Post (G (Value.tuple (Array.mk [Value.agg (Array.mk [Value.int IntKind.i64 0, Value.bool false, Value.int IntKind.i64 0, Value.int IntKind.i64 0]), Value.bool false])) [some (Sum.inl (73, [Value.int IntKind.i64 (TS.cap s), Value.int IntKind.i64 (TS.ser s), Value.slice (some (Addr.mk 1 0 (some 1000))) (List.length (TS.la s)) 0, Value.slice (some (Addr.mk 2 0 (some 1000))) (List.length (TS.wo s)) 0, Value.int IntKind.i64 (TS.fr s), Value.map (some 3), Value.map (some 4), Value.map (some 5)])), some (Sum.inr (Sum.inl (3, Row.mk [Value.int IntKind.i64 0] (List.length (TS.la s)) [Col.mk (TS.la s) [] []]))), some (Sum.inr (Sum.inl (101, Row.mk [Value.int IntKind.u64 0] (List.length (TS.wo s)) [Col.mk (TS.wo s) [] []]))), some (Sum.inr (Sum.inr (Sum.inr (Sum.inr (TS.lv s))))), some (Sum.inr (Sum.inr (Sum.inr (Sum.inl (TS.ti s))))), some (Sum.inr (Sum.inr (Sum.inr (Sum.inl (TS.id s))))), none, none, none])) ∧ ((Ls.gn (Option.getD (Mp.f (TS.lv s) ix) ls0) != gn) = false → Post (G (Value.tuple (Array.mk [Value.agg (Array.mk [Value.int IntKind.i64 (Ls.tm (Option.getD (Mp.f (TS.lv s) ix) ls0)), Value.bool (Ls.ins (Option.getD (Mp.f (TS.lv s) ix) ls0)), Value.int IntKind.i64 (Ls.key (Option.getD (Mp.f (TS.lv s) ix) ls0)), Value.int IntKind.i64 (Ls.id (Option.getD (Mp.f (TS.lv s) ix) ls0))]), Value.bool true])) [some (Sum.inl (73, [Value.int IntKind.i64 (TS.cap s), Value.int IntKind.i64 (TS.ser s), Value.slice (some (Addr.mk 1 0 (some 1000))) (List.length (TS.la s)) 0, Value.slice (some (Addr.mk 2 0 (some 1000))) (List.length (TS.wo s)) 0, Value.int IntKind.i64 (TS.fr s), Value.map (some 3), Value.map (some 4), Value.map (some 5)])), some (Sum.inr (Sum.inl (3, Row.mk [Value.int IntKind.i64 0] (List.length (TS.la s)) [Col.mk (TS.la s) [] []]))), some (Sum.inr (Sum.inl (101, Row.mk [Value.int IntKind.u64 0] (List.length (TS.wo s)) [Col.mk (TS.wo s) [] []]))), some (Sum.inr (Sum.inr (Sum.inr (Sum.inr (TS.lv s))))), some (Sum.inr (Sum.inr (Sum.inr (Sum.inl (TS.ti s))))), some (Sum.inr (Sum.inr (Sum.inr (Sum.inl (TS.id s))))), none, none, none]))) ∧ ((!Option.isSome (Mp.f (TS.lv s) ix)) = true → Post (G (Value.tuple (Array.mk [Value.agg (Array.mk [Value.int IntKind.i64 0, Value.bool false, Value.int IntKind.i64 0, Value.int IntKind.i64 0]), Value.bool false])) [some (Sum.inl (73, [Value.int IntKind.i64 (TS.cap s), Value.int IntKind.i64 (TS.ser s), Value.slice (some (Addr.mk 1 0 (some 1000))) (List.length (TS.la s)) 0, Value.slice (some (Addr.mk 2 0 (some 1000))) (List.length (TS.wo s)) 0, Value.int IntKind.i64 (TS.fr s), Value.map (some 3), Value.map (some 4), Value.map (some 5)])), some (Sum.inr (Sum.inl (3, Row.mk [Value.int IntKind.i64 0] (List.length (TS.la s)) [Col.mk (TS.la s) [] []]))), some (Sum.inr (Sum.inl (101, Row.mk [Value.int IntKind.u64 0] (List.length (TS.wo s)) [Col.mk (TS.wo s) [] []]))), some (Sum.inr (Sum.inr (Sum.inr (Sum.inr (TS.lv s))))), some (Sum.inr (Sum.inr (Sum.inr (Sum.inl (TS.ti s))))), some (Sum.inr (Sum.inr (Sum.inr (Sum.inl (TS.id s))))), none, none, none]))) ?_ (by kernel_rfl)
    subst hG
    repeat' (first | apply And.intro | apply Vc.mk | apply fits.mk | intro h | apply Post.mk)
    all_goals (try simp only [decide_eq_true_eq, decide_eq_false_iff_not, Nat.zero_add, ge_iff_le, Int.not_le, Int.not_lt, Int.toNat_natCast, beq_iff_eq, beq_eq_false_iff_ne, bne_iff_ne, bne_eq_false_iff_eq, Bool.not_eq_true', Bool.not_eq_false'] at *)
    all_goals first | contradiction | omega | (apply congrArg Value.bool; assumption) | exact congrArg Value.bool (decide_eq_true (by assumption)) | exact congrArg Value.bool (decide_eq_false (Int.not_lt.mpr (by assumption))) | exact ⟨rfl, by omega⟩ | exact rfl | (simp [*, -List.getD_eq_getElem?_getD]; done) | skip
    all_goals refine ⟨[0, 1, 2, 3, 4, 5], ?_, rfl, ⟨.inl rfl, ⟨_, rfl, .inl rfl⟩, ⟨_, rfl, .inl rfl⟩, rfl, rfl, rfl, trivial⟩, rfl, rfl, rfl, rfl⟩
    · have e : findB s ix gn = false := by unfold findB; cases hf : s.lv.f ix <;> simp_all
      show Value.tuple ⟨[.agg ⟨opL ls0⟩, .bool false]⟩ = .tuple ⟨[.agg ⟨opL (findX s ix gn)⟩, .bool (findB s ix gn)]⟩
      unfold findX; rw [e]; rfl
    · have e : findB s ix gn = true := by unfold findB; cases hf : s.lv.f ix <;> simp_all
      show Value.tuple ⟨[.agg ⟨opL ((s.lv.f ix).getD ls0)⟩, .bool true]⟩ = .tuple ⟨[.agg ⟨opL (findX s ix gn)⟩, .bool (findB s ix gn)]⟩
      unfold findX; rw [e]; rfl
    · have e : findB s ix gn = false := by unfold findB; cases hf : s.lv.f ix <;> simp_all
      show Value.tuple ⟨[.agg ⟨opL ls0⟩, .bool false]⟩ = .tuple ⟨[.agg ⟨opL (findX s ix gn)⟩, .bool (findB s ix gn)]⟩
      unfold findX; rw [e]; rfl
  · cases hx
def have_P : Prim MF := fun args hh => match args, toTb hh with
  | [.pointer (some ⟨0, 0, none⟩), .agg ⟨[.int .i64 ix, .int .i64 gn]⟩], some s => some ⟨hh = tbH s ∧ fits ix ∧ s.la.length < 1000000, .bool (haveB s ix gn), none, hh, [], []⟩
  | _, _ => none
theorem have__ok : ConOk D0 Tryd.prog 39 (con1 have_P) := by
  refine con1_ok (prim_atM 6 (fn := Tryd.f39) (root := codeOf Tryd.f39) (by kernel_rfl) (by kernel_rfl) (by kernel_rfl) fun args hh x hx => ?_)
  unfold have_P at hx
  split at hx
  · rename_i ix gn s hm
    injection hx with hx
    subst hx
    refine ⟨by rw [toTb_len hm]; first | exact Nat.le_refl _ | exact Nat.le_succ _, (fun b hb => by cases hb), (fun hw => by first | rfl | cases hw), fun _ hv => ?_⟩
    obtain ⟨rfl, hv⟩ := hv
    have g1 := hv.1.lo; have g2 := hv.1.hi
    generalize hG : Rx.Ends (R := MF) _ _ = G
    refine rx_okQ (T := T0) T0_ok mixed 200 (q := (decide (ix < (0 : Int)) = true → Vc (Value.bool (decide (ix < (0 : Int))) = Value.bool true) ∧ Post (G (Value.bool false) [some (Sum.inl (73, [Value.int IntKind.i64 (TS.cap s), Value.int IntKind.i64 (TS.ser s), Value.slice (some (Addr.mk 1 0 (some 1000))) (List.length (TS.la s)) 0, Value.slice (some (Addr.mk 2 0 (some 1000))) (List.length (TS.wo s)) 0, Value.int IntKind.i64 (TS.fr s), Value.map (some 3), Value.map (some 4), Value.map (some 5)])), some (Sum.inr (Sum.inl (3, Row.mk [Value.int IntKind.i64 0] (List.length (TS.la s)) [Col.mk (TS.la s) [] []]))), some (Sum.inr (Sum.inl (101, Row.mk [Value.int IntKind.u64 0] (List.length (TS.wo s)) [Col.mk (TS.wo s) [] []]))), some (Sum.inr (Sum.inr (Sum.inr (Sum.inr (TS.lv s))))), some (Sum.inr (Sum.inr (Sum.inr (Sum.inl (TS.ti s))))), some (Sum.inr (Sum.inr (Sum.inr (Sum.inl (TS.id s))))), none])) ∧ (decide (ix < (0 : Int)) = false → Vc (Value.bool (decide (ix < (0 : Int))) = Value.bool false) ∧ (decide (ix ≥ (↑(List.length (TS.la s)) : Int)) = true → Post (G (Value.bool false) [some (Sum.inl (73, [Value.int IntKind.i64 (TS.cap s), Value.int IntKind.i64 (TS.ser s), Value.slice (some (Addr.mk 1 0 (some 1000))) (List.length (TS.la s)) 0, Value.slice (some (Addr.mk 2 0 (some 1000))) (List.length (TS.wo s)) 0, Value.int IntKind.i64 (TS.fr s), Value.map (some 3), Value.map (some 4), Value.map (some 5)])), some (Sum.inr (Sum.inl (3, Row.mk [Value.int IntKind.i64 0] (List.length (TS.la s)) [Col.mk (TS.la s) [] []]))), some (Sum.inr (Sum.inl (101, Row.mk [Value.int IntKind.u64 0] (List.length (TS.wo s)) [Col.mk (TS.wo s) [] []]))), some (Sum.inr (Sum.inr (Sum.inr (Sum.inr (TS.lv s))))), some (Sum.inr (Sum.inr (Sum.inr (Sum.inl (TS.ti s))))), some (Sum.inr (Sum.inr (Sum.inr (Sum.inl (TS.id s))))), none])) ∧ (decide (ix ≥ (↑(List.length (TS.la s)) : Int)) = false → Vc (fits ix) ∧ ((!Option.isSome (Mp.f (TS.lv s) ix)) = true → Vc ((Value.bool !Option.isSome (Mp.f (TS.lv s) ix)) = Value.bool true) ∧ (decide (gn ≥ (1 : Int)) = true → Vc ((Value.bool !Option.isSome (Mp.f (TS.lv s) ix)) = Value.bool true) ∧ Vc (Value.bool (decide (gn ≥ (1 : Int))) = Value.bool true) ∧ Vc ((0 : Int) ≤ ix ∧ ix < (↑(List.length (TS.la s)) : Int) ∧ 0 + List.length (TS.la s) ≤ List.length (TS.la s)) ∧ Vc (0 + Int.toNat ix < List.length (TS.la s)) ∧ Post (G (Value.bool (decide (gn ≤ List.getD (TS.la s) (0 + Int.toNat ix) (0 : Int)))) [some (Sum.inl (73, [Value.int IntKind.i64 (TS.cap s), Value.int IntKind.i64 (TS.ser s), Value.slice (some (Addr.mk 1 0 (some 1000))) (List.length (TS.la s)) 0, Value.slice (some (Addr.mk 2 0 (some 1000))) (List.length (TS.wo s)) 0, Value.int IntKind.i64 (TS.fr s), Value.map (some 3), Value.map (some 4), Value.map (some 5)])), some (Sum.inr (Sum.inl (3, Row.mk [Value.int IntKind.i64 0] (List.length (TS.la s)) [Col.mk (TS.la s) [] []]))), some (Sum.inr (Sum.inl (101, Row.mk [Value.int IntKind.u64 0] (List.length (TS.wo s)) [Col.mk (TS.wo s) [] []]))), some (Sum.inr (Sum.inr (Sum.inr (Sum.inr (TS.lv s))))), some (Sum.inr (Sum.inr (Sum.inr (Sum.inl (TS.ti s))))), some (Sum.inr (Sum.inr (Sum.inr (Sum.inl (TS.id s))))), none, none])) ∧ (decide (gn ≥ (1 : Int)) = false → Vc ((Value.bool !Option.isSome (Mp.f (TS.lv s) ix)) = Value.bool true) ∧ Vc (Value.bool (decide (gn ≥ (1 : Int))) = Value.bool false) ∧ Post (G (Value.bool false) [some (Sum.inl (73, [Value.int IntKind.i64 (TS.cap s), Value.int IntKind.i64 (TS.ser s), Value.slice (some (Addr.mk 1 0 (some 1000))) (List.length (TS.la s)) 0, Value.slice (some (Addr.mk 2 0 (some 1000))) (List.length (TS.wo s)) 0, Value.int IntKind.i64 (TS.fr s), Value.map (some 3), Value.map (some 4), Value.map (some 5)])), some (Sum.inr (Sum.inl (3, Row.mk [Value.int IntKind.i64 0] (List.length (TS.la s)) [Col.mk (TS.la s) [] []]))), some (Sum.inr (Sum.inl (101, Row.mk [Value.int IntKind.u64 0] (List.length (TS.wo s)) [Col.mk (TS.wo s) [] []]))), some (Sum.inr (Sum.inr (Sum.inr (Sum.inr (TS.lv s))))), some (Sum.inr (Sum.inr (Sum.inr (Sum.inl (TS.ti s))))), some (Sum.inr (Sum.inr (Sum.inr (Sum.inl (TS.id s))))), none, none]))) ∧ ((!Option.isSome (Mp.f (TS.lv s) ix)) = false → Vc ((Value.bool !Option.isSome (Mp.f (TS.lv s) ix)) = Value.bool false) ∧ Post (G (Value.bool false) [some (Sum.inl (73, [Value.int IntKind.i64 (TS.cap s), Value.int IntKind.i64 (TS.ser s), Value.slice (some (Addr.mk 1 0 (some 1000))) (List.length (TS.la s)) 0, Value.slice (some (Addr.mk 2 0 (some 1000))) (List.length (TS.wo s)) 0, Value.int IntKind.i64 (TS.fr s), Value.map (some 3), Value.map (some 4), Value.map (some 5)])), some (Sum.inr (Sum.inl (3, Row.mk [Value.int IntKind.i64 0] (List.length (TS.la s)) [Col.mk (TS.la s) [] []]))), some (Sum.inr (Sum.inl (101, Row.mk [Value.int IntKind.u64 0] (List.length (TS.wo s)) [Col.mk (TS.wo s) [] []]))), some (Sum.inr (Sum.inr (Sum.inr (Sum.inr (TS.lv s))))), some (Sum.inr (Sum.inr (Sum.inr (Sum.inl (TS.ti s))))), some (Sum.inr (Sum.inr (Sum.inr (Sum.inl (TS.id s))))), none, none]))))) ?_ (by kernel_rfl)
    subst hG
    have key : ∀ b, b = haveB s ix gn → ∀ hp : Hp MF, Value.bool b = dnV hp.length (mvV (nth [0, 1, 2, 3, 4, 5]) (.bool (haveB s ix gn))) := fun b h hp => by rw [h]; rfl
    repeat' (first | apply And.intro | apply Vc.mk | apply fits.mk | intro h | apply Post.mk)
    all_goals (try simp only [decide_eq_true_eq, decide_eq_false_iff_not, Nat.zero_add, ge_iff_le, Int.not_le, Int.not_lt, Int.toNat_natCast, beq_iff_eq, beq_eq_false_iff_ne, bne_iff_ne, bne_eq_false_iff_eq, Bool.not_eq_true', Bool.not_eq_false'] at *)
    all_goals first | contradiction | omega | (apply congrArg Value.bool; assumption) | exact congrArg Value.bool (decide_eq_true (by assumption)) | exact congrArg Value.bool (decide_eq_false (Int.not_lt.mpr (by assumption))) | exact ⟨rfl, by omega⟩ | exact rfl | (simp [*, -List.getD_eq_getElem?_getD]; done) | skip
    all_goals try omega
    all_goals refine ⟨[0, 1, 2, 3, 4, 5], ?_, rfl, ⟨.inl rfl, ⟨_, rfl, .inl rfl⟩, ⟨_, rfl, .inl rfl⟩, rfl, rfl, rfl, trivial⟩, rfl, rfl, rfl, rfl⟩
    all_goals refine key _ ?_ _
    all_goals unfold haveB
    all_goals first | (simp [*]; done) | (simp_all; done) | grind
  · cases hx
def beP : Prim MF := fun args hh => match args, toTb hh with
  | [.pointer (some ⟨0, 0, none⟩), .agg ⟨[.int .i64 tm, .bool ins, .int .i64 key, .int .i64 id]⟩], some s => some ⟨hh = tbH s ∧ fits id, .bool (beB s ins key id), none, hh, [], []⟩
  | _, _ => none
theorem be_ok : ConOk D0 Tryd.prog 40 (con1 beP) := by
  refine con1_ok (prim_atM 6 (fn := Tryd.f40) (root := codeOf Tryd.f40) (by kernel_rfl) (by kernel_rfl) (by kernel_rfl) fun args hh x hx => ?_)
  unfold beP at hx
  split at hx
  · rename_i tm ins key id s hm
    injection hx with hx
    subst hx
    refine ⟨by rw [toTb_len hm]; first | exact Nat.le_refl _ | exact Nat.le_succ _, (fun b hb => by cases hb), (fun hw => by first | rfl | cases hw), fun _ hv => ?_⟩
    obtain ⟨rfl, hv⟩ := hv
    have g1 := hv.lo; have g2 := hv.hi
    generalize hG : Rx.Ends (R := MF) _ _ = G
    refine rx_okQ (T := T0) T0_ok mixed 200 (q := (decide (id < (0 : Int)) = true → Vc (Value.bool (decide (id < (0 : Int))) = Value.bool true) ∧ Post (G (Value.bool false) [some (Sum.inl (73, [Value.int IntKind.i64 (TS.cap s), Value.int IntKind.i64 (TS.ser s), Value.slice (some (Addr.mk 1 0 (some 1000))) (List.length (TS.la s)) 0, Value.slice (some (Addr.mk 2 0 (some 1000))) (List.length (TS.wo s)) 0, Value.int IntKind.i64 (TS.fr s), Value.map (some 3), Value.map (some 4), Value.map (some 5)])), some (Sum.inr (Sum.inl (3, Row.mk [Value.int IntKind.i64 0] (List.length (TS.la s)) [Col.mk (TS.la s) [] []]))), some (Sum.inr (Sum.inl (101, Row.mk [Value.int IntKind.u64 0] (List.length (TS.wo s)) [Col.mk (TS.wo s) [] []]))), some (Sum.inr (Sum.inr (Sum.inr (Sum.inr (TS.lv s))))), some (Sum.inr (Sum.inr (Sum.inr (Sum.inl (TS.ti s))))), some (Sum.inr (Sum.inr (Sum.inr (Sum.inl (TS.id s))))), none])) ∧ (decide (id < (0 : Int)) = false → Vc (Value.bool (decide (id < (0 : Int))) = Value.bool false) ∧ (decide (id ≥ TS.ser s) = true → Post (G (Value.bool false) [some (Sum.inl (73, [Value.int IntKind.i64 (TS.cap s), Value.int IntKind.i64 (TS.ser s), Value.slice (some (Addr.mk 1 0 (some 1000))) (List.length (TS.la s)) 0, Value.slice (some (Addr.mk 2 0 (some 1000))) (List.length (TS.wo s)) 0, Value.int IntKind.i64 (TS.fr s), Value.map (some 3), Value.map (some 4), Value.map (some 5)])), some (Sum.inr (Sum.inl (3, Row.mk [Value.int IntKind.i64 0] (List.length (TS.la s)) [Col.mk (TS.la s) [] []]))), some (Sum.inr (Sum.inl (101, Row.mk [Value.int IntKind.u64 0] (List.length (TS.wo s)) [Col.mk (TS.wo s) [] []]))), some (Sum.inr (Sum.inr (Sum.inr (Sum.inr (TS.lv s))))), some (Sum.inr (Sum.inr (Sum.inr (Sum.inl (TS.ti s))))), some (Sum.inr (Sum.inr (Sum.inr (Sum.inl (TS.id s))))), none])) ∧ (decide (id ≥ TS.ser s) = false → Vc (fits id) ∧ ((!Option.isSome (Mp.f (TS.id s) id)) = true → (ins = false → Post (G (Value.bool (key == (0 : Int))) [some (Sum.inl (73, [Value.int IntKind.i64 (TS.cap s), Value.int IntKind.i64 (TS.ser s), Value.slice (some (Addr.mk 1 0 (some 1000))) (List.length (TS.la s)) 0, Value.slice (some (Addr.mk 2 0 (some 1000))) (List.length (TS.wo s)) 0, Value.int IntKind.i64 (TS.fr s), Value.map (some 3), Value.map (some 4), Value.map (some 5)])), some (Sum.inr (Sum.inl (3, Row.mk [Value.int IntKind.i64 0] (List.length (TS.la s)) [Col.mk (TS.la s) [] []]))), some (Sum.inr (Sum.inl (101, Row.mk [Value.int IntKind.u64 0] (List.length (TS.wo s)) [Col.mk (TS.wo s) [] []]))), some (Sum.inr (Sum.inr (Sum.inr (Sum.inr (TS.lv s))))), some (Sum.inr (Sum.inr (Sum.inr (Sum.inl (TS.ti s))))), some (Sum.inr (Sum.inr (Sum.inr (Sum.inl (TS.id s))))), none])) ∧ (ins = true → Post (G (Value.bool true) [some (Sum.inl (73, [Value.int IntKind.i64 (TS.cap s), Value.int IntKind.i64 (TS.ser s), Value.slice (some (Addr.mk 1 0 (some 1000))) (List.length (TS.la s)) 0, Value.slice (some (Addr.mk 2 0 (some 1000))) (List.length (TS.wo s)) 0, Value.int IntKind.i64 (TS.fr s), Value.map (some 3), Value.map (some 4), Value.map (some 5)])), some (Sum.inr (Sum.inl (3, Row.mk [Value.int IntKind.i64 0] (List.length (TS.la s)) [Col.mk (TS.la s) [] []]))), some (Sum.inr (Sum.inl (101, Row.mk [Value.int IntKind.u64 0] (List.length (TS.wo s)) [Col.mk (TS.wo s) [] []]))), some (Sum.inr (Sum.inr (Sum.inr (Sum.inr (TS.lv s))))), some (Sum.inr (Sum.inr (Sum.inr (Sum.inl (TS.ti s))))), some (Sum.inr (Sum.inr (Sum.inr (Sum.inl (TS.id s))))), none]))) ∧ ((!Option.isSome (Mp.f (TS.id s) id)) = false → Post (G (Value.bool false) [some (Sum.inl (73, [Value.int IntKind.i64 (TS.cap s), Value.int IntKind.i64 (TS.ser s), Value.slice (some (Addr.mk 1 0 (some 1000))) (List.length (TS.la s)) 0, Value.slice (some (Addr.mk 2 0 (some 1000))) (List.length (TS.wo s)) 0, Value.int IntKind.i64 (TS.fr s), Value.map (some 3), Value.map (some 4), Value.map (some 5)])), some (Sum.inr (Sum.inl (3, Row.mk [Value.int IntKind.i64 0] (List.length (TS.la s)) [Col.mk (TS.la s) [] []]))), some (Sum.inr (Sum.inl (101, Row.mk [Value.int IntKind.u64 0] (List.length (TS.wo s)) [Col.mk (TS.wo s) [] []]))), some (Sum.inr (Sum.inr (Sum.inr (Sum.inr (TS.lv s))))), some (Sum.inr (Sum.inr (Sum.inr (Sum.inl (TS.ti s))))), some (Sum.inr (Sum.inr (Sum.inr (Sum.inl (TS.id s))))), none]))))) ?_ (by kernel_rfl)
    subst hG
    have key : ∀ b, b = beB s ins key id → ∀ hp : Hp MF, Value.bool b = dnV hp.length (mvV (nth [0, 1, 2, 3, 4, 5]) (.bool (beB s ins key id))) := fun b h hp => by rw [h]; rfl
    repeat' (first | apply And.intro | apply Vc.mk | apply fits.mk | intro h | apply Post.mk)
    all_goals (try simp only [decide_eq_true_eq, decide_eq_false_iff_not, Nat.zero_add, ge_iff_le, Int.not_le, Int.not_lt, Int.toNat_natCast, beq_iff_eq, beq_eq_false_iff_ne, bne_iff_ne, bne_eq_false_iff_eq, Bool.not_eq_true', Bool.not_eq_false'] at *)
    all_goals first | contradiction | omega | (apply congrArg Value.bool; assumption) | exact congrArg Value.bool (decide_eq_true (by assumption)) | exact congrArg Value.bool (decide_eq_false (Int.not_lt.mpr (by assumption))) | exact ⟨rfl, by omega⟩ | exact rfl | (simp [*, -List.getD_eq_getElem?_getD]; done) | skip
    all_goals try omega
    all_goals refine ⟨[0, 1, 2, 3, 4, 5], ?_, rfl, ⟨.inl rfl, ⟨_, rfl, .inl rfl⟩, ⟨_, rfl, .inl rfl⟩, rfl, rfl, rfl, trivial⟩, rfl, rfl, rfl, rfl⟩
    all_goals refine key _ ?_ _
    all_goals unfold beB
    all_goals first | (simp [*]; done) | (simp_all; done) | grind
  · cases hx
def holdP : Prim MF := fun args hh => match args, toTb hh with
  | [.pointer (some ⟨0, 0, none⟩), .agg ⟨[.int .i64 a, .int .i64 b, .int .i64 c, .bool d, .int .i64 e, .int .i64 f]⟩], some s => some ⟨hh = tbH s ∧ fits a ∧ fits c ∧ fits f ∧ s.lv.n < 1000000 ∧ s.ti.n < 1000000 ∧ s.id.n < 1000000, .tuple #[], none, tbH (holdS s ⟨a, b, c, d, e, f⟩), [], [(0, 0)]⟩
  | _, _ => none
theorem hold_ok : ConOk D0 Tryd.prog 37 (con1 holdP) := by
  refine con1_ok (prim_atM 6 (fn := Tryd.f37) (root := codeOf Tryd.f37) (by kernel_rfl) (by kernel_rfl) (by kernel_rfl) fun args hh x hx => ?_)
  unfold holdP at hx
  split at hx
  · rename_i a b c d e f s hm
    injection hx with hx
    subst hx
    refine ⟨by rw [toTb_len hm]; first | exact Nat.le_refl _ | exact Nat.le_succ _, (fun b hb => by cases hb), (fun hw => by first | rfl | cases hw), fun _ hv => ?_⟩
    obtain ⟨rfl, hv⟩ := hv
    have g1 := hv.1.lo; have g2 := hv.1.hi; have g3 := hv.2.1.lo; have g4 := hv.2.1.hi; have g5 := hv.2.2.1.lo; have g6 := hv.2.2.1.hi
    generalize hG : Rx.Ends (R := MF) _ _ = G
    refine rx_okQ (T := T0) T0_ok mixed 200 (q := Vc (fits a ∧ Mp.n (TS.lv s) < 1000000) ∧ Vc (fits c ∧ Mp.n (TS.ti s) < 1000000) ∧ Vc (fits f ∧ Mp.n (TS.id s) < 1000000) ∧ Post (G (Value.tuple (Array.mk [])) [some (Sum.inl (73, [Value.int IntKind.i64 (TS.cap s), Value.int IntKind.i64 (TS.ser s), Value.slice (some (Addr.mk 1 0 (some 1000))) (List.length (TS.la s)) 0, Value.slice (some (Addr.mk 2 0 (some 1000))) (List.length (TS.wo s)) 0, Value.int IntKind.i64 (TS.fr s), Value.map (some 3), Value.map (some 4), Value.map (some 5)])), some (Sum.inr (Sum.inl (3, Row.mk [Value.int IntKind.i64 0] (List.length (TS.la s)) [Col.mk (TS.la s) [] []]))), some (Sum.inr (Sum.inl (101, Row.mk [Value.int IntKind.u64 0] (List.length (TS.wo s)) [Col.mk (TS.wo s) [] []]))), some (Sum.inr (Sum.inr (Sum.inr (Sum.inr (mput (TS.lv s) a (Ls.mk a b c d e f)))))), some (Sum.inr (Sum.inr (Sum.inr (Sum.inl (mput (TS.ti s) c a))))), some (Sum.inr (Sum.inr (Sum.inr (Sum.inl (mput (TS.id s) f a))))), none])) ?_ (by kernel_rfl)
    subst hG
    repeat' (first | apply And.intro | apply Vc.mk | apply fits.mk | intro h | apply Post.mk)
    all_goals (try simp only [decide_eq_true_eq, decide_eq_false_iff_not, Nat.zero_add, ge_iff_le, Int.not_le, Int.not_lt, Int.toNat_natCast, beq_iff_eq, beq_eq_false_iff_ne, bne_iff_ne, bne_eq_false_iff_eq, Bool.not_eq_true', Bool.not_eq_false'] at *)
    all_goals first | contradiction | omega | (apply congrArg Value.bool; assumption) | exact congrArg Value.bool (decide_eq_true (by assumption)) | exact congrArg Value.bool (decide_eq_false (Int.not_lt.mpr (by assumption))) | exact ⟨rfl, by omega⟩ | exact rfl | (simp [*, -List.getD_eq_getElem?_getD]; done) | skip
    all_goals try omega
    exact ⟨[0, 1, 2, 3, 4, 5], rfl, rfl, ⟨.inl rfl, ⟨_, rfl, .inl rfl⟩, ⟨_, rfl, .inl rfl⟩, rfl, rfl, rfl, trivial⟩, rfl, rfl, rfl, rfl⟩
  · cases hx
end Go.Proofs.YtobdpddamdkabaaDoor.Tg
