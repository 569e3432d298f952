/- box: the document's lists. -/
import Derived.Test.YtagiodenlhfgfaaRef01
namespace Go.Proofs.Ytagiodenlhfgfaa.Bx
open Go.Proofs.Ytagiodenlhfgfaa.Rx
set_option linter.unusedVariables false
set_option linter.unusedSimpArgs false
set_option maxRecDepth 100000
/-- the document's box: its block, its values' row -/
def rbB {R : Type} (i : Nat) (cap : Int) (o n : Nat) (cl : Bool) : Option (SB R) := some (.inl (34, [.int .i64 cap, .slice (some ⟨i, o, some (1000 + 1000000 * (i + 1))⟩) n 0, .bool cl]))
def rbR {R : Type} (N : Nat) (row : List Int) : Option (SB R) := some (.inr (.inl (3, ⟨[.int .i64 0], N, [⟨row, [], []⟩]⟩)))
def rnewP {R : Type} : Prim R := fun args hh => match args, hh with
  | [.int .i64 x], [] => some ⟨True, .pointer (some ⟨0, 0, none⟩), none, [some (.inl (34, [.int .i64 (min (max x 1) 1000), .slice (some ⟨1, 0, some 3001000⟩) 0 0, .bool false])), some (.inr (.inl (3, ⟨[.int .i64 0], 0, [⟨[], [], []⟩]⟩))), none], [], [(0, 0)]⟩
  | _, _ => none
theorem rnew_ok {R : Type} {D : Res R} : ConOk D Try.prog 9 (con1 rnewP) := by
  refine con1_ok (prim_at (fn := Try.f9) (root := codeOf Try.f9) (by kernel_rfl) (by kernel_rfl) (by kernel_rfl) fun args hh x hx => ?_)
  unfold rnewP at hx
  split at hx
  · rename_i x
    injection hx with hx
    subst hx
    refine ⟨by first | exact Nat.le_refl _ | exact Nat.zero_le _ | exact Nat.le_succ _, noLit rfl, (fun hw => by first | rfl | cases hw), fun _ hv => ?_⟩
    generalize hG : Rx.Ends (R := R) _ _ = G
    refine rx_ok (T := []) trivial mixed 200 ?_
    refine as_text (q := (decide (x < (1 : Int)) = true → (false = true → Post (G (Value.pointer (some (Addr.mk 0 0 none))) [some (Sum.inl (34, [Value.int IntKind.i64 1000, Value.slice none 0 0, Value.bool false]))])) ∧ (false = false → Post (G (Value.pointer (some (Addr.mk 0 0 none))) [some (Sum.inl (34, [Value.int IntKind.i64 1, Value.slice none 0 0, Value.bool false]))]))) ∧ (decide (x < (1 : Int)) = false → (decide (x > (1000 : Int)) = true → Post (G (Value.pointer (some (Addr.mk 0 0 none))) [some (Sum.inl (34, [Value.int IntKind.i64 1000, Value.slice none 0 0, Value.bool false]))])) ∧ (decide (x > (1000 : Int)) = false → Post (G (Value.pointer (some (Addr.mk 0 0 none))) [some (Sum.inl (34, [Value.int IntKind.i64 x, Value.slice none 0 0, Value.bool false]))])))) ?_ (by kernel_rfl)
    subst hG
    have fin : ∀ z, z = min (max x 1) 1000 → Rx.Ends (R := R) 0 ⟨True, .pointer (some ⟨0, 0, none⟩), none, [some (.inl (34, [.int .i64 (min (max x 1) 1000), .slice (some ⟨1, 0, some 3001000⟩) 0 0, .bool false])), some (.inr (.inl (3, ⟨[.int .i64 0], 0, [⟨[], [], []⟩]⟩))), none], [], [(0, 0)]⟩ (.pointer (some ⟨0, 0, none⟩)) [some (.inl (34, [.int .i64 z, .slice none 0 0, .bool false]))] := by
      intro z hz
      subst hz
      exact ⟨⟨[0, 1, 2], rfl, rfl, ⟨.inl rfl, ⟨rfl, Nat.succ_pos _, rfl⟩, trivial⟩, rfl, rfl, rfl, rfl⟩⟩
    repeat' (first | apply And.intro | apply Vc.mk | apply fits.mk | intro h | apply Post.mk)
    all_goals (try simp only [decide_eq_true_eq, decide_eq_false_iff_not, Nat.zero_add, ge_iff_le, Int.not_le, Int.not_lt, Int.toNat_natCast, beq_iff_eq, beq_eq_false_iff_ne, bne_iff_ne, bne_eq_false_iff_eq, Bool.not_eq_true', Bool.not_eq_false'] at *)
    all_goals first | contradiction | omega | (apply congrArg Value.bool; assumption) | exact ⟨rfl, by omega⟩ | exact rfl | (simp [*, -List.getD_eq_getElem?_getD]; done) | skip
    all_goals exact fin _ (by omega)
  · cases hx
def takesR (cl : Bool) (n : Nat) (cap : Int) : Bool := !cl && decide ((n : Int) ≠ cap)
def rofferW {R : Type} (args : List Value) (hh : Hp R) : Option Bool := match args, hh with
  | [.pointer (some ⟨0, 0, none⟩), .int .i64 v], some (.inl (34, [.int .i64 cap, .slice _ n 0, .bool cl])) :: _ => some (takesR cl n cap)
  | _, _ => none
def rofferY {R : Type} : Prim R := fun args hh => match args, hh with
  | [.pointer (some ⟨0, 0, none⟩), .int .i64 v], [some (.inl (34, [.int .i64 cap, .slice (some ⟨1, o, some 3001000⟩) n 0, .bool cl])), some (.inr (.inl (3, ⟨[.int .i64 0], N, [⟨row, [], []⟩]⟩))), none] =>
    some ⟨o + n = N ∧ N = row.length ∧ N < 1000000, .bool true, none, [some (.inl (34, [.int .i64 cap, .slice (some ⟨3, 0, some 1000⟩) (n + 1) 0, .bool cl])), some (.inr (.inl (3, ⟨[.int .i64 0], N, [⟨row, [], []⟩]⟩))), none,
      some (.inr (.inl (3, ⟨[.int .i64 0], n + 1, [⟨cut row o n ++ [v], [], []⟩]⟩)))], [], [(0, 0)]⟩
  | _, _ => none
def rofferN {R : Type} : Prim R := fun args hh => match args, hh with
  | [.pointer (some ⟨0, 0, none⟩), .int .i64 v], [some (.inl (34, [.int .i64 cap, .slice (some ⟨1, o, some 3001000⟩) n 0, .bool cl])), some (.inr (.inl (3, ⟨[.int .i64 0], N, [⟨row, [], []⟩]⟩))), none] =>
    some ⟨o + n = N ∧ N = row.length ∧ N < 1000000, .bool false, none, hh, [], []⟩
  | _, _ => none
def rofferC {R : Type} : Con R := ⟨rofferW, rofferY, rofferN⟩
theorem roffer_ok {R : Type} {D : Res R} : ConOk D Try.prog 13 rofferC := by
  intro b
  refine prim_at (fn := Try.f13) (root := codeOf Try.f13) (by kernel_rfl) (by kernel_rfl) (by kernel_rfl) fun args hh x hx => ?_
  cases b with
  | true =>
    unfold rofferC Con.go rofferY at hx
    simp only at hx
    split at hx
    · rename_i v cap o n cl N row
      injection hx with hx
      subst hx
      refine ⟨by simp, noLit rfl, (fun hw => by cases hw), fun hon hv => ?_⟩
      have hw : takesR cl n cap = true := by
        simp only [way, rofferC, rofferW] at hon
        simpa using hon
      clear hon
      generalize hG : Rx.Ends (R := R) _ _ = G
      refine rx_ok (T := []) trivial mixed 200 ?_
      refine as_text (q := (cl = true → Vc (Value.bool cl = Value.bool true) ∧ Post (G (Value.bool false) [some (Sum.inl (34, [Value.int IntKind.i64 cap, Value.slice (some (Addr.mk 1 o (some 3001000))) n 0, Value.bool cl])), some (Sum.inr (Sum.inl (3, Row.mk [Value.int IntKind.i64 0] N [Col.mk row [] []]))), none])) ∧ (cl = false → Vc (Value.bool cl = Value.bool false) ∧ (((↑n : Int) == cap) = true → Post (G (Value.bool false) [some (Sum.inl (34, [Value.int IntKind.i64 cap, Value.slice (some (Addr.mk 1 o (some 3001000))) n 0, Value.bool cl])), some (Sum.inr (Sum.inl (3, Row.mk [Value.int IntKind.i64 0] N [Col.mk row [] []]))), none])) ∧ (((↑n : Int) == cap) = false → Vc (0 ≤ 0 ∧ o + n ≤ N ∧ (0 + n) * 8 ≤ 140737488355328 ∧ 0 + n ≤ 140737488355328) ∧ Vc (0 + (0 + n) ≤ 0 + n ∧ 1 ≤ 1 ∧ (0 + n + 1) * 8 ≤ 140737488355328 ∧ 0 + n + 1 ≤ 140737488355328) ∧ Post (G (Value.bool true) [some (Sum.inl (34, [Value.int IntKind.i64 cap, Value.slice (some (Addr.mk 6 0 (some 1000))) (0 + n + 1) 0, Value.bool cl])), some (Sum.inr (Sum.inl (3, Row.mk [Value.int IntKind.i64 0] N [Col.mk row [] []]))), none, none, none, some (Sum.inr (Sum.inl (3, Row.mk [Value.int IntKind.i64 0] 1 [Col.mk [v] [] []]))), some (Sum.inr (Sum.inl (3, Row.mk [Value.int IntKind.i64 0] (0 + n + 1) [Col.mk (cut ([] ++ cut row o n) 0 (0 + n) ++ cut [v] 0 1) [] []])))])))) ?_ (by kernel_rfl)
      obtain ⟨v1, rfl, v3⟩ := hv
      have q1 : [] ++ cut row o n = cut row o n := rfl
      have q2 : cut (cut row o n) 0 n = cut row o n := cut_eq (cut_len (by omega))
      have q3 : cut [v] 0 1 = [v] := rfl
      simp only [q1, q2, q3]
      subst hG
      repeat' (first | apply And.intro | apply Vc.mk | apply fits.mk | intro h | apply Post.mk)
      all_goals (try simp only [decide_eq_true_eq, decide_eq_false_iff_not, Nat.zero_add, ge_iff_le, Int.not_le, Int.not_lt, Int.toNat_natCast, beq_iff_eq, beq_eq_false_iff_ne, bne_iff_ne, bne_eq_false_iff_eq, Bool.not_eq_true', Bool.not_eq_false'] at *)
      all_goals first | contradiction | omega | (apply congrArg Value.bool; assumption) | exact ⟨rfl, by omega⟩ | exact rfl | (simp [*, -List.getD_eq_getElem?_getD]; done) | skip
      · exfalso; rename_i h; simp [takesR, h] at hw
      · exfalso; rename_i h1; simp [takesR, h1, *] at hw
      · (try rw [q2]); exact ⟨⟨[0, 1, 2, 6], rfl, rfl, ⟨.inl rfl, ⟨_, rfl, .inl rfl⟩, ⟨_, rfl, .inl rfl⟩, trivial⟩, rfl, rfl, rfl, rfl⟩⟩
    · cases hx
  | false =>
    unfold rofferC Con.go rofferN at hx
    simp only at hx
    split at hx
    · rename_i v cap o n cl N row
      injection hx with hx
      subst hx
      refine ⟨Nat.le_refl _, noLit rfl, (fun _ => rfl), fun hon hv => ?_⟩
      have hw : takesR cl n cap = false := by
        simp only [way, rofferC, rofferW] at hon
        simpa using hon
      clear hon
      generalize hG : Rx.Ends (R := R) _ _ = G
      refine rx_ok (T := []) trivial mixed 200 ?_
      refine as_text (q := (cl = true → Vc (Value.bool cl = Value.bool true) ∧ Post (G (Value.bool false) [some (Sum.inl (34, [Value.int IntKind.i64 cap, Value.slice (some (Addr.mk 1 o (some 3001000))) n 0, Value.bool cl])), some (Sum.inr (Sum.inl (3, Row.mk [Value.int IntKind.i64 0] N [Col.mk row [] []]))), none])) ∧ (cl = false → Vc (Value.bool cl = Value.bool false) ∧ (((↑n : Int) == cap) = true → Post (G (Value.bool false) [some (Sum.inl (34, [Value.int IntKind.i64 cap, Value.slice (some (Addr.mk 1 o (some 3001000))) n 0, Value.bool cl])), some (Sum.inr (Sum.inl (3, Row.mk [Value.int IntKind.i64 0] N [Col.mk row [] []]))), none])) ∧ (((↑n : Int) == cap) = false → Vc (0 ≤ 0 ∧ o + n ≤ N ∧ (0 + n) * 8 ≤ 140737488355328 ∧ 0 + n ≤ 140737488355328) ∧ Vc (0 + (0 + n) ≤ 0 + n ∧ 1 ≤ 1 ∧ (0 + n + 1) * 8 ≤ 140737488355328 ∧ 0 + n + 1 ≤ 140737488355328) ∧ Post (G (Value.bool true) [some (Sum.inl (34, [Value.int IntKind.i64 cap, Value.slice (some (Addr.mk 6 0 (some 1000))) (0 + n + 1) 0, Value.bool cl])), some (Sum.inr (Sum.inl (3, Row.mk [Value.int IntKind.i64 0] N [Col.mk row [] []]))), none, none, none, some (Sum.inr (Sum.inl (3, Row.mk [Value.int IntKind.i64 0] 1 [Col.mk [v] [] []]))), some (Sum.inr (Sum.inl (3, Row.mk [Value.int IntKind.i64 0] (0 + n + 1) [Col.mk (cut ([] ++ cut row o n) 0 (0 + n) ++ cut [v] 0 1) [] []])))])))) ?_ (by kernel_rfl)
      obtain ⟨v1, rfl, v3⟩ := hv
      subst hG
      repeat' (first | apply And.intro | apply Vc.mk | apply fits.mk | intro h | apply Post.mk)
      all_goals (try simp only [decide_eq_true_eq, decide_eq_false_iff_not, Nat.zero_add, ge_iff_le, Int.not_le, Int.not_lt, Int.toNat_natCast, beq_iff_eq, beq_eq_false_iff_ne, bne_iff_ne, bne_eq_false_iff_eq, Bool.not_eq_true', Bool.not_eq_false'] at *)
      all_goals first | contradiction | omega | (apply congrArg Value.bool; assumption) | exact ⟨rfl, by omega⟩ | exact rfl | (simp [*, -List.getD_eq_getElem?_getD]; done) | skip
      · exact ⟨⟨[0, 1, 2], rfl, rfl, ⟨.inl rfl, ⟨_, rfl, .inl rfl⟩, trivial⟩, rfl, rfl, rfl, rfl⟩⟩
      · exact ⟨⟨[0, 1, 2], rfl, rfl, ⟨.inl rfl, ⟨_, rfl, .inl rfl⟩, trivial⟩, rfl, rfl, rfl, rfl⟩⟩
      · exfalso; rename_i h1; simp [takesR, *] at hw
    · cases hx
def rtakeP {R : Type} : Prim R := fun args hh => match args, hh with
  | [.pointer (some ⟨0, 0, none⟩)], [some (.inl (34, [.int .i64 cap, .slice (some ⟨1, o, some 3001000⟩) n 0, .bool cl])), some (.inr (.inl (3, ⟨[.int .i64 0], N, [⟨row, [], []⟩]⟩))), none] => some ⟨o + n = N ∧ N = row.length ∧ N < 1000000, .tuple #[.int .i64 (if n = 0 then 0 else row.getD o 0), .bool (decide (n ≠ 0))], none, [some (.inl (34, [.int .i64 cap, .slice (some ⟨1, o + min n 1, some 4001000⟩) (n - 1) 0, .bool cl])), some (.inr (.inl (3, ⟨[.int .i64 0], N, [⟨row, [], []⟩]⟩))), none, none], [], [(0, 0)]⟩
  | _, _ => none
theorem rtake_ok {R : Type} {D : Res R} : ConOk D Try.prog 15 (con1 rtakeP) := by
  refine con1_ok (prim_at (fn := Try.f15) (root := codeOf Try.f15) (by kernel_rfl) (by kernel_rfl) (by kernel_rfl) fun args hh x hx => ?_)
  unfold rtakeP at hx
  split at hx
  · rename_i cap o n cl N row
    injection hx with hx
    subst hx
    refine ⟨by first | exact Nat.le_refl _ | exact Nat.zero_le _ | exact Nat.le_succ _, noLit rfl, (fun hw => by first | rfl | cases hw), fun _ hv => ?_⟩
    generalize hG : Rx.Ends (R := R) _ _ = G
    refine rx_ok (T := []) trivial mixed 200 ?_
    refine as_text (q := (((↑n : Int) == (0 : Int)) = true → Post (G (Value.tuple (Array.mk [Value.int IntKind.i64 0, Value.bool false])) [some (Sum.inl (34, [Value.int IntKind.i64 cap, Value.slice (some (Addr.mk 1 o (some 3001000))) n 0, Value.bool cl])), some (Sum.inr (Sum.inl (3, Row.mk [Value.int IntKind.i64 0] N [Col.mk row [] []]))), none])) ∧ (((↑n : Int) == (0 : Int)) = false → Vc ((0 : Int) ≤ (0 : Int) ∧ (0 : Int) < (↑n : Int) ∧ o + n ≤ N) ∧ Vc (o + 0 < N) ∧ Vc ((0 : Int) ≤ (1 : Int) ∧ (1 : Int) ≤ (↑n : Int) ∧ (↑n : Int) ≤ (↑n : Int) ∧ o + n ≤ N) ∧ Post (G (Value.tuple (Array.mk [Value.int IntKind.i64 (List.getD row (o + 0) (0 : Int)), Value.bool true])) [some (Sum.inl (34, [Value.int IntKind.i64 cap, Value.slice (some (Addr.mk 1 (o + 1) (some 4001000))) (Int.toNat ((↑n : Int) - (1 : Int))) 0, Value.bool cl])), some (Sum.inr (Sum.inl (3, Row.mk [Value.int IntKind.i64 0] N [Col.mk row [] []]))), none, none]))) ?_ (by kernel_rfl)
    subst hG
    repeat' (first | apply And.intro | apply Vc.mk | apply fits.mk | intro h | apply Post.mk)
    all_goals (try simp only [decide_eq_true_eq, decide_eq_false_iff_not, Nat.zero_add, ge_iff_le, Int.not_le, Int.not_lt, Int.toNat_natCast, beq_iff_eq, beq_eq_false_iff_ne, bne_iff_ne, bne_eq_false_iff_eq, Bool.not_eq_true', Bool.not_eq_false'] at *)
    all_goals first | contradiction | omega | (apply congrArg Value.bool; assumption) | exact ⟨rfl, by omega⟩ | exact rfl | (simp [*, -List.getD_eq_getElem?_getD]; done) | skip
    · have h0 : n = 0 := by omega
      subst h0
      exact ⟨⟨[0, 1, 2, 2], rfl, rfl, ⟨.inl rfl, ⟨_, rfl, .inl rfl⟩, trivial⟩, rfl, rfl, rfl, rfl⟩⟩
    · have h0 : ¬ n = 0 := by omega
      have q1 : min n 1 = 1 := by omega
      have q2 : decide (n ≠ 0) = true := by simp [h0]
      trace_state
      have q3 : ((n : Int) - 1).toNat = n - 1 := by omega
      simp only [if_neg h0, q1, q2, q3, Nat.add_zero]
      exact ⟨⟨[0, 1, 2, 3], rfl, rfl, ⟨.inl rfl, ⟨_, rfl, .inl rfl⟩, trivial⟩, rfl, rfl, rfl, rfl⟩⟩
  · cases hx
end Go.Proofs.Ytagiodenlhfgfaa.Bx
