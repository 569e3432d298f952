/- pile: the document's lists. -/
import Derived.Test.YtfofaiidakkgbaaRef01
namespace Go.Proofs.Ytfofaiidakkgbaa.Pi
open Go.Proofs.Ytfofaiidakkgbaa.Rx
set_option linter.unusedVariables false
set_option linter.unusedSimpArgs false
set_option maxRecDepth 100000
def limitP {R : Type} : Prim R := fun args hh => match args, hh with
  | [.int .i64 n], [] => some ⟨True, .int .i64 (min (max n 0) 10000), none, hh, [], []⟩
  | _, _ => none
theorem limit_ok {R : Type} {D : Res R} : ConOk D Try.prog 9 (con1 limitP) := by
  refine con1_ok (prim_at (fn := Try.f9) (root := codeOf Try.f9) (by kernel_rfl) (by kernel_rfl) (by kernel_rfl) fun args hh x hx => ?_)
  unfold limitP at hx
  split at hx
  · rename_i n
    injection hx with hx
    subst hx
    refine ⟨by first | exact Nat.le_refl _ | exact Nat.zero_le _ | exact Nat.le_succ _, noLit rfl, (fun hw => by first | rfl | cases hw), fun _ hv => ?_⟩
    generalize hG : Rx.Ends (R := R) _ _ = G
    refine rx_ok (T := []) trivial mixed 200 ?_
    refine as_text (q := (decide (n < (0 : Int)) = true → Post (G (Value.int IntKind.i64 0) [])) ∧ (decide (n < (0 : Int)) = false → (decide (n > (10000 : Int)) = true → Post (G (Value.int IntKind.i64 10000) [])) ∧ (decide (n > (10000 : Int)) = false → Post (G (Value.int IntKind.i64 n) [])))) ?_ (by kernel_rfl)
    subst hG
    have fin : ∀ z, z = min (max n 0) 10000 → Rx.Ends (R := R) 0 ⟨True, .int .i64 (min (max n 0) 10000), none, [], [], []⟩ (.int .i64 z) [] := by
      intro z hz
      subst hz
      exact ⟨⟨[], rfl, rfl, trivial, rfl, rfl, rfl, rfl⟩⟩
    repeat' (first | apply And.intro | apply Vc.mk | apply fits.mk | intro h | apply Post.mk)
    all_goals (try simp only [decide_eq_true_eq, decide_eq_false_iff_not, Nat.zero_add, ge_iff_le, Int.not_le, Int.not_lt, Int.toNat_natCast, beq_iff_eq, beq_eq_false_iff_ne, bne_iff_ne, bne_eq_false_iff_eq, Bool.not_eq_true', Bool.not_eq_false'] at *)
    all_goals first | contradiction | omega | (apply congrArg Value.bool; assumption) | exact ⟨rfl, by omega⟩ | exact rfl | (simp [*, -List.getD_eq_getElem?_getD]; done) | skip
    all_goals exact fin _ (by omega)
  · cases hx
def pushW {R : Type} (args : List Value) (hh : Hp R) : Option Bool := match args with
  | [.slice _ n _, .int .i64 lim, .int .i64 v] => some (decide (((n + 1 : Nat) : Int) > lim))
  | _ => none
def pushY {R : Type} : Prim R := fun args hh => match args, hh with
  | [.slice (some ⟨0, 0, some 1000⟩) n _, .int .i64 lim, .int .i64 v], [some (.inr (.inr (.inl ⟨[.int .i64 0], n', [⟨x, [], []⟩]⟩)))] => some ⟨n = x.length ∧ n' = x.length ∧ n < 1000000, .tuple ⟨[.slice (some ⟨1, 1, some 2001000⟩) n 0, .slice (some ⟨1, 0, some 1000⟩) 1 0]⟩, none,
      [some (.inr (.inr (.inl ⟨[.int .i64 0], n', [⟨x, [], []⟩]⟩))), some (.inr (.inl (3, ⟨[.int .i64 0], n + 1, [⟨x ++ [v], [], []⟩]⟩)))], [], [(0, 0)]⟩
  | _, _ => none
def pushN {R : Type} : Prim R := fun args hh => match args, hh with
  | [.slice (some ⟨0, 0, some 1000⟩) n _, .int .i64 lim, .int .i64 v], [some (.inr (.inr (.inl ⟨[.int .i64 0], n', [⟨x, [], []⟩]⟩)))] => some ⟨n = x.length ∧ n' = x.length ∧ n < 1000000, .tuple ⟨[.slice (some ⟨1, 0, some 1000⟩) (n + 1) 0, .slice (some ⟨2, 0, some 1000⟩) 0 0]⟩, none,
      [some (.inr (.inr (.inl ⟨[.int .i64 0], n', [⟨x, [], []⟩]⟩))), some (.inr (.inl (3, ⟨[.int .i64 0], n + 1, [⟨x ++ [v], [], []⟩]⟩))), some (.inr (.inl (3, ⟨[.int .i64 0], 0, [⟨[], [], []⟩]⟩)))], [], [(0, 0)]⟩
  | _, _ => none
def rpushC {R : Type} : Con R := ⟨pushW, pushY, pushN⟩
theorem rpush_ok {R : Type} {D : Res R} : ConOk D Try.prog 12 rpushC := by
  intro b
  refine prim_at (fn := Try.f12) (root := codeOf Try.f12) (by kernel_rfl) (by kernel_rfl) (by kernel_rfl) fun args hh x hx => ?_
  cases b with
  | true =>
    unfold rpushC Con.go pushY at hx
    simp only at hx
    split at hx
    · rename_i n cp lim v n' x
      injection hx with hx
      subst hx
      refine ⟨Nat.le_add_left 1 1, noLit rfl, (fun hw => by cases hw), fun hon hv => ?_⟩
      obtain ⟨rfl, rfl, v3⟩ := hv
      have hw : ((x.length + 1 : Nat) : Int) > lim := by
        simp only [way, rpushC, pushW] at hon
        simpa using hon
      clear hon
      generalize hG : Rx.Ends (R := R) _ _ = G
      refine rx_ok (T := []) trivial mixed 200 ?_
      refine as_text (q := Vc (0 ≤ 0 ∧ 0 + List.length x ≤ List.length x ∧ (0 + List.length x) * 8 ≤ 140737488355328 ∧ 0 + List.length x ≤ 140737488355328) ∧ Vc (0 + (0 + List.length x) ≤ 0 + List.length x ∧ 1 ≤ 1 ∧ (0 + List.length x + 1) * 8 ≤ 140737488355328 ∧ 0 + List.length x + 1 ≤ 140737488355328) ∧ (decide ((↑(0 + List.length x + 1) : Int) > lim) = true → Vc (0 = 0 ∧ (0 : Int) ≤ (1 : Int) ∧ (1 : Int) ≤ (↑(0 + List.length x + 1) : Int) ∧ (↑(0 + List.length x + 1) : Int) ≤ (↑(0 + List.length x + 1) : Int) ∧ 0 + (0 + List.length x + 1) ≤ 0 + List.length x + 1) ∧ Vc ((0 : Int) ≤ (1 : Int) ∧ (1 : Int) ≤ (↑(0 + List.length x + 1) : Int) ∧ 0 + (0 + List.length x + 1) ≤ 0 + List.length x + 1) ∧ Post (G (Value.tuple (Array.mk [Value.slice (some (Addr.mk 6 1 (some 7001000))) (Int.toNat ((↑(0 + List.length x + 1) : Int) - (1 : Int))) 0, Value.slice (some (Addr.mk 6 0 (some 1000))) 1 0])) [some (Sum.inr (Sum.inr (Sum.inl (Row.mk [Value.int IntKind.i64 0] (List.length x) [Col.mk x [] []])))), some (Sum.inr (Sum.inl (3, Row.mk [Value.int IntKind.i64 0] 0 [Col.mk [] [] []]))), some (Sum.inr (Sum.inl (3, Row.mk [Value.int IntKind.i64 0] 0 [Col.mk [] [] []]))), none, none, some (Sum.inr (Sum.inl (3, Row.mk [Value.int IntKind.i64 0] 1 [Col.mk [v] [] []]))), some (Sum.inr (Sum.inl (3, Row.mk [Value.int IntKind.i64 0] (0 + List.length x + 1) [Col.mk (cut ([] ++ cut x 0 (List.length x)) 0 (0 + List.length x) ++ cut [v] 0 1) [] []])))])) ∧ (decide ((↑(0 + List.length x + 1) : Int) > lim) = false → Post (G (Value.tuple (Array.mk [Value.slice (some (Addr.mk 6 0 (some 1000))) (0 + List.length x + 1) 0, Value.slice (some (Addr.mk 7 0 (some 1000))) 0 0])) [some (Sum.inr (Sum.inr (Sum.inl (Row.mk [Value.int IntKind.i64 0] (List.length x) [Col.mk x [] []])))), some (Sum.inr (Sum.inl (3, Row.mk [Value.int IntKind.i64 0] 0 [Col.mk [] [] []]))), some (Sum.inr (Sum.inl (3, Row.mk [Value.int IntKind.i64 0] 0 [Col.mk [] [] []]))), none, none, some (Sum.inr (Sum.inl (3, Row.mk [Value.int IntKind.i64 0] 1 [Col.mk [v] [] []]))), some (Sum.inr (Sum.inl (3, Row.mk [Value.int IntKind.i64 0] (0 + List.length x + 1) [Col.mk (cut ([] ++ cut x 0 (List.length x)) 0 (0 + List.length x) ++ cut [v] 0 1) [] []]))), some (Sum.inr (Sum.inl (3, Row.mk [Value.int IntKind.i64 0] 0 [Col.mk [] [] []])))]))) ?_ (by kernel_rfl)
      have c1 : ∀ y : Int, cut [y] 0 1 = [y] := fun y => rfl
      have c2 : cut ([] ++ x) 0 x.length = x := by rw [List.nil_append, cut_all]
      simp only [Nat.zero_add, cut_all, c1, c2, List.nil_append]
      subst hG
      repeat' (first | apply And.intro | apply Vc.mk | apply fits.mk | intro h | apply Post.mk)
      all_goals (try simp only [decide_eq_true_eq, decide_eq_false_iff_not, Nat.zero_add, ge_iff_le, Int.not_le, Int.not_lt, Int.toNat_natCast, beq_iff_eq, beq_eq_false_iff_ne, bne_iff_ne, bne_eq_false_iff_eq, Bool.not_eq_true', Bool.not_eq_false'] at *)
      all_goals first | contradiction | omega | (apply congrArg Value.bool; assumption) | exact ⟨rfl, by omega⟩ | exact rfl | (simp [*, -List.getD_eq_getElem?_getD]; done) | skip
      · refine ⟨⟨[0, 6], ?_, rfl, ?_, rfl, rfl, rfl, rfl⟩⟩
        · simp [Pulls, pullB, nth, at2, dnL, dnV, mvL, mvV, mvA, mvQ_lt, blt_true, blt_false, RowLe, colI, colB] <;> rfl
        · simp [Pulls, pullB, nth, at2, dnL, dnV, mvL, mvV, mvA, mvQ_lt, blt_true, blt_false, RowLe, colI, colB]
    · cases hx
  | false =>
    unfold rpushC Con.go pushN at hx
    simp only at hx
    split at hx
    · rename_i n cp lim v n' x
      injection hx with hx
      subst hx
      refine ⟨Nat.le_add_left 1 2, noLit rfl, (fun hw => by cases hw), fun hon hv => ?_⟩
      obtain ⟨rfl, rfl, v3⟩ := hv
      have hw : ¬ ((x.length + 1 : Nat) : Int) > lim := by
        simp only [way, rpushC, pushW] at hon
        simpa using hon
      clear hon
      generalize hG : Rx.Ends (R := R) _ _ = G
      refine rx_ok (T := []) trivial mixed 200 ?_
      refine as_text (q := Vc (0 ≤ 0 ∧ 0 + List.length x ≤ List.length x ∧ (0 + List.length x) * 8 ≤ 140737488355328 ∧ 0 + List.length x ≤ 140737488355328) ∧ Vc (0 + (0 + List.length x) ≤ 0 + List.length x ∧ 1 ≤ 1 ∧ (0 + List.length x + 1) * 8 ≤ 140737488355328 ∧ 0 + List.length x + 1 ≤ 140737488355328) ∧ (decide ((↑(0 + List.length x + 1) : Int) > lim) = true → Vc (0 = 0 ∧ (0 : Int) ≤ (1 : Int) ∧ (1 : Int) ≤ (↑(0 + List.length x + 1) : Int) ∧ (↑(0 + List.length x + 1) : Int) ≤ (↑(0 + List.length x + 1) : Int) ∧ 0 + (0 + List.length x + 1) ≤ 0 + List.length x + 1) ∧ Vc ((0 : Int) ≤ (1 : Int) ∧ (1 : Int) ≤ (↑(0 + List.length x + 1) : Int) ∧ 0 + (0 + List.length x + 1) ≤ 0 + List.length x + 1) ∧ Post (G (Value.tuple (Array.mk [Value.slice (some (Addr.mk 6 1 (some 7001000))) (Int.toNat ((↑(0 + List.length x + 1) : Int) - (1 : Int))) 0, Value.slice (some (Addr.mk 6 0 (some 1000))) 1 0])) [some (Sum.inr (Sum.inr (Sum.inl (Row.mk [Value.int IntKind.i64 0] (List.length x) [Col.mk x [] []])))), some (Sum.inr (Sum.inl (3, Row.mk [Value.int IntKind.i64 0] 0 [Col.mk [] [] []]))), some (Sum.inr (Sum.inl (3, Row.mk [Value.int IntKind.i64 0] 0 [Col.mk [] [] []]))), none, none, some (Sum.inr (Sum.inl (3, Row.mk [Value.int IntKind.i64 0] 1 [Col.mk [v] [] []]))), some (Sum.inr (Sum.inl (3, Row.mk [Value.int IntKind.i64 0] (0 + List.length x + 1) [Col.mk (cut ([] ++ cut x 0 (List.length x)) 0 (0 + List.length x) ++ cut [v] 0 1) [] []])))])) ∧ (decide ((↑(0 + List.length x + 1) : Int) > lim) = false → Post (G (Value.tuple (Array.mk [Value.slice (some (Addr.mk 6 0 (some 1000))) (0 + List.length x + 1) 0, Value.slice (some (Addr.mk 7 0 (some 1000))) 0 0])) [some (Sum.inr (Sum.inr (Sum.inl (Row.mk [Value.int IntKind.i64 0] (List.length x) [Col.mk x [] []])))), some (Sum.inr (Sum.inl (3, Row.mk [Value.int IntKind.i64 0] 0 [Col.mk [] [] []]))), some (Sum.inr (Sum.inl (3, Row.mk [Value.int IntKind.i64 0] 0 [Col.mk [] [] []]))), none, none, some (Sum.inr (Sum.inl (3, Row.mk [Value.int IntKind.i64 0] 1 [Col.mk [v] [] []]))), some (Sum.inr (Sum.inl (3, Row.mk [Value.int IntKind.i64 0] (0 + List.length x + 1) [Col.mk (cut ([] ++ cut x 0 (List.length x)) 0 (0 + List.length x) ++ cut [v] 0 1) [] []]))), some (Sum.inr (Sum.inl (3, Row.mk [Value.int IntKind.i64 0] 0 [Col.mk [] [] []])))]))) ?_ (by kernel_rfl)
      have c1 : ∀ y : Int, cut [y] 0 1 = [y] := fun y => rfl
      have c2 : cut ([] ++ x) 0 x.length = x := by rw [List.nil_append, cut_all]
      simp only [Nat.zero_add, cut_all, c1, c2, List.nil_append]
      subst hG
      repeat' (first | apply And.intro | apply Vc.mk | apply fits.mk | intro h | apply Post.mk)
      all_goals (try simp only [decide_eq_true_eq, decide_eq_false_iff_not, Nat.zero_add, ge_iff_le, Int.not_le, Int.not_lt, Int.toNat_natCast, beq_iff_eq, beq_eq_false_iff_ne, bne_iff_ne, bne_eq_false_iff_eq, Bool.not_eq_true', Bool.not_eq_false'] at *)
      all_goals first | contradiction | omega | (apply congrArg Value.bool; assumption) | exact ⟨rfl, by omega⟩ | exact rfl | (simp [*, -List.getD_eq_getElem?_getD]; done) | skip
      · refine ⟨⟨[0, 6, 7], ?_, rfl, ?_, rfl, rfl, rfl, rfl⟩⟩
        · simp [Pulls, pullB, nth, at2, dnL, dnV, mvL, mvV, mvA, mvQ_lt, blt_true, blt_false, RowLe, colI, colB] <;> rfl
        · simp [Pulls, pullB, nth, at2, dnL, dnV, mvL, mvV, mvA, mvQ_lt, blt_true, blt_false, RowLe, colI, colB]
    · cases hx
end Go.Proofs.Ytfofaiidakkgbaa.Pi
