/- arena: the pool of bools, and the law ArenaCaps. -/
import Derived.Test.YtloibbakklenbaaArAwake
namespace Go.Proofs.Ytloibbakklenbaa.Ar
open Go.Proofs.Ytloibbakklenbaa.Rx
set_option linter.unusedVariables false
set_option linter.unusedSimpArgs false
set_option maxRecDepth 100000
def bnewP : Prim Rs := fun args hh => match args, hh with
  | [.int .i64 c], [] => some ⟨True, .pointer (some ⟨0, 0, none⟩), none, [some (.inr (.inr (.inr (.bools (min (max c 0) 16777216)))))], [], [(0, 0)]⟩
  | _, _ => none
theorem bnew_ok : ConOk D Try.prog 29 (con1 bnewP) := by
  refine con1_ok (res_prim (L := L) (D0 := NoR) (fn := Try.f29) (root := codeOf Try.f29) (by kernel_rfl) (by kernel_rfl) (by kernel_rfl) fun args hh x hx => ?_)
  unfold bnewP at hx
  split at hx
  · rename_i c
    injection hx with hx
    subst hx
    refine ⟨by first | exact Nat.le_refl _ | exact Nat.zero_le _, noLit rfl, (fun hw => by first | rfl | cases hw), fun _ hv => ?_⟩
    generalize hG : EndsU (R := Rs) (R0 := Empty) _ _ _ = G
    refine rx_ok (T := T0) T0_ok mixed 200 ?_
    refine as_text (q := Post (G (Value.pointer (some (Addr.mk 0 0 none))) [some (Sum.inl (77, [Value.slice none 0 0, Value.slice none 0 0, Value.int IntKind.i64 0, Value.int IntKind.i64 (if (16777216 : Int) < if (0 : Int) > c then (0 : Int) else c then (16777216 : Int) else if (0 : Int) > c then (0 : Int) else c), Value.int IntKind.i64 0]))])) ?_ (by kernel_rfl)
    subst hG
    refine ⟨⟨[0, 1, 1], rfl, rfl, ?_, rfl, rfl, rfl, rfl, rfl⟩⟩
    have e : (if 16777216 < if 0 > c then 0 else c then 16777216 else if 0 > c then 0 else c) = min (max c 0) 16777216 := by
      by_cases h1 : 0 > c
      · rw [if_pos h1]; simp; omega
      · rw [if_neg h1]; split <;> omega
    simp [layBools, unf, unfGo, unfB, off, width, L, lay, newHp, mvO, mvSB, Pulls, pullB, nth, at2, dnL, dnV, mvL, mvV, mvA, mvQ_lt, blt_true, blt_false, RowLe, colI, colB, e]
    exact ⟨⟨rfl, Nat.succ_pos _, rfl⟩, ⟨rfl, Nat.succ_pos _, rfl⟩⟩
  · cases hx
def bcapP : Prim Rs := fun args hh => match args, hh with
  | [.pointer (some ⟨0, 0, none⟩)], [some (.inr (.inr (.inr (.bools c))))] => some ⟨True, .int .i64 c, none, hh, [], []⟩
  | _, _ => none
theorem bcap_ok : ConOk D Try.prog 30 (con1 bcapP) := by
  refine con1_ok (res_prim (L := L) (D0 := NoR) (fn := Try.f30) (root := codeOf Try.f30) (by kernel_rfl) (by kernel_rfl) (by kernel_rfl) fun args hh x hx => ?_)
  unfold bcapP at hx
  split at hx
  · rename_i c
    injection hx with hx
    subst hx
    refine ⟨by first | exact Nat.le_refl _ | exact Nat.zero_le _, noLit rfl, (fun hw => by first | rfl | cases hw), fun _ hv => ?_⟩
    generalize hG : EndsU (R := Rs) (R0 := Empty) _ _ _ = G
    refine rx_ok (T := T0) T0_ok mixed 200 ?_
    refine as_text (q := Post (G (Value.int IntKind.i64 c) [some (Sum.inl (77, [Value.slice (some (Addr.mk 1 0 (some 2000))) 0 0, Value.slice (some (Addr.mk 2 0 (some 1000))) 0 0, Value.int IntKind.i64 0, Value.int IntKind.i64 c, Value.int IntKind.i64 0])), some (Sum.inr (Sum.inl (99, Row.mk [Value.bool false, Value.int IntKind.i64 0, Value.bool false] 0 [Col.mk [] [] [], Col.mk [] [] [], Col.mk [] [] []]))), some (Sum.inr (Sum.inl (3, Row.mk [Value.int IntKind.i64 0] 0 [Col.mk [] [] []])))])) ?_ (by kernel_rfl)
    subst hG
    refine ⟨⟨[0, 1, 2], rfl, rfl, ?_, rfl, rfl, rfl, rfl, rfl⟩⟩
    simp [layBools, unf, unfGo, unfB, off, width, L, lay, newHp, mvO, mvSB, Pulls, pullB, nth, at2, dnL, dnV, mvL, mvV, mvA, mvQ_lt, blt_true, blt_false, RowLe, colI, colB]
  · cases hx
def blenP : Prim Rs := fun args hh => match args, hh with
  | [.pointer (some ⟨0, 0, none⟩)], [some (.inr (.inr (.inr (.bools c))))] => some ⟨True, .int .i64 0, none, hh, [], []⟩
  | _, _ => none
theorem blen_ok : ConOk D Try.prog 31 (con1 blenP) := by
  refine con1_ok (res_prim (L := L) (D0 := NoR) (fn := Try.f31) (root := codeOf Try.f31) (by kernel_rfl) (by kernel_rfl) (by kernel_rfl) fun args hh x hx => ?_)
  unfold blenP at hx
  split at hx
  · rename_i c
    injection hx with hx
    subst hx
    refine ⟨by first | exact Nat.le_refl _ | exact Nat.zero_le _, noLit rfl, (fun hw => by first | rfl | cases hw), fun _ hv => ?_⟩
    generalize hG : EndsU (R := Rs) (R0 := Empty) _ _ _ = G
    refine rx_ok (T := T0) T0_ok mixed 200 ?_
    refine as_text (q := Post (G (Value.int IntKind.i64 0) [some (Sum.inl (77, [Value.slice (some (Addr.mk 1 0 (some 2000))) 0 0, Value.slice (some (Addr.mk 2 0 (some 1000))) 0 0, Value.int IntKind.i64 0, Value.int IntKind.i64 c, Value.int IntKind.i64 0])), some (Sum.inr (Sum.inl (99, Row.mk [Value.bool false, Value.int IntKind.i64 0, Value.bool false] 0 [Col.mk [] [] [], Col.mk [] [] [], Col.mk [] [] []]))), some (Sum.inr (Sum.inl (3, Row.mk [Value.int IntKind.i64 0] 0 [Col.mk [] [] []])))])) ?_ (by kernel_rfl)
    subst hG
    refine ⟨⟨[0, 1, 2], rfl, rfl, ?_, rfl, rfl, rfl, rfl, rfl⟩⟩
    simp [layBools, unf, unfGo, unfB, off, width, L, lay, newHp, mvO, mvSB, Pulls, pullB, nth, at2, dnL, dnV, mvL, mvV, mvA, mvQ_lt, blt_true, blt_false, RowLe, colI, colB]
  · cases hx
def bvisitsP : Prim Rs := fun args hh => match args, hh with
  | [.pointer (some ⟨0, 0, none⟩)], [some (.inr (.inr (.inr (.bools c))))] => some ⟨True, .int .i64 0, none, hh, [], []⟩
  | _, _ => none
theorem bvisits_ok : ConOk D Try.prog 32 (con1 bvisitsP) := by
  refine con1_ok (res_prim (L := L) (D0 := NoR) (fn := Try.f32) (root := codeOf Try.f32) (by kernel_rfl) (by kernel_rfl) (by kernel_rfl) fun args hh x hx => ?_)
  unfold bvisitsP at hx
  split at hx
  · rename_i c
    injection hx with hx
    subst hx
    refine ⟨by first | exact Nat.le_refl _ | exact Nat.zero_le _, noLit rfl, (fun hw => by first | rfl | cases hw), fun _ hv => ?_⟩
    generalize hG : EndsU (R := Rs) (R0 := Empty) _ _ _ = G
    refine rx_ok (T := T0) T0_ok mixed 200 ?_
    refine as_text (q := Post (G (Value.int IntKind.i64 0) [some (Sum.inl (77, [Value.slice (some (Addr.mk 1 0 (some 2000))) 0 0, Value.slice (some (Addr.mk 2 0 (some 1000))) 0 0, Value.int IntKind.i64 0, Value.int IntKind.i64 c, Value.int IntKind.i64 0])), some (Sum.inr (Sum.inl (99, Row.mk [Value.bool false, Value.int IntKind.i64 0, Value.bool false] 0 [Col.mk [] [] [], Col.mk [] [] [], Col.mk [] [] []]))), some (Sum.inr (Sum.inl (3, Row.mk [Value.int IntKind.i64 0] 0 [Col.mk [] [] []])))])) ?_ (by kernel_rfl)
    subst hG
    refine ⟨⟨[0, 1, 2], rfl, rfl, ?_, rfl, rfl, rfl, rfl, rfl⟩⟩
    simp [layBools, unf, unfGo, unfB, off, width, L, lay, newHp, mvO, mvSB, Pulls, pullB, nth, at2, dnL, dnV, mvL, mvV, mvA, mvQ_lt, blt_true, blt_false, RowLe, colI, colB]
  · cases hx
def TB : Tab Rs := (7, liftC zN 2 (con1 awakeP)) :: (29, liftC zN 2 (con1 bnewP)) :: (30, liftC zN 2 (con1 bcapP)) :: (31, liftC zN 2 (con1 blenP)) :: (32, liftC zN 2 (con1 bvisitsP)) :: TL
theorem TB_ok : TabOk D Try.prog TB := ⟨liftC_ok _ _ awake_ok, liftC_ok _ _ bnew_ok, liftC_ok _ _ bcap_ok, liftC_ok _ _ blen_ok, liftC_ok _ _ bvisits_ok, TL_ok⟩
theorem caps_run {G : Value → Hp Rs → Prop} {c : Int} (hG : ∀ hp, G (.bool true) hp) :
    At D Try.prog (codeOf Try.f6) 0 (retK Try.prog Try.f6.results.toList G) [.inl []] ⟨someL [.int .i64 c] ++ List.replicate (Try.f6.ntmps - 1) none, [], []⟩ := by
  refine rx_ok (T := TB) TB_ok mixed 200 ?_
  refine as_text (q := Vc True ∧ (false = true → Post (G (Value.bool false) [])) ∧ (false = false → Vc True ∧ Vc True ∧ Vc True ∧ ((min (max c (0 : Int)) (16777216 : Int) == min (max c (0 : Int)) (16777216 : Int)) = true → Vc True ∧ (true = true → Vc True ∧ Post (G (Value.bool true) [some (Sum.inr (Sum.inr (Sum.inr (Rs.bools (min (max c (0 : Int)) (16777216 : Int)))))), some (Sum.inr (Sum.inr (Sum.inr (Rs.ref (QM.mk [] [] [] [] (min (max c (0 : Int)) (16777216 : Int)) (0 : Int))))))])) ∧ (true = false → Post (G (Value.bool false) [some (Sum.inr (Sum.inr (Sum.inr (Rs.bools (min (max c (0 : Int)) (16777216 : Int)))))), some (Sum.inr (Sum.inr (Sum.inr (Rs.ref (QM.mk [] [] [] [] (min (max c (0 : Int)) (16777216 : Int)) (0 : Int))))))]))) ∧ ((min (max c (0 : Int)) (16777216 : Int) == min (max c (0 : Int)) (16777216 : Int)) = false → Post (G (Value.bool false) [some (Sum.inr (Sum.inr (Sum.inr (Rs.bools (min (max c (0 : Int)) (16777216 : Int)))))), some (Sum.inr (Sum.inr (Sum.inr (Rs.ref (QM.mk [] [] [] [] (min (max c (0 : Int)) (16777216 : Int)) (0 : Int))))))])))) ?_ (by kernel_rfl)
  repeat' (first | apply And.intro | apply Vc.mk | apply fits.mk | intro h | apply Post.mk)
  all_goals (try simp only [decide_eq_true_eq, decide_eq_false_iff_not, Nat.zero_add, ge_iff_le, Int.not_le, Int.not_lt, Int.toNat_natCast, beq_iff_eq, beq_eq_false_iff_ne, Bool.not_eq_true', Bool.not_eq_false'] at *)
  all_goals first | contradiction | omega | (apply congrArg Value.bool; assumption) | exact ⟨rfl, by omega⟩ | exact rfl | (simp [*, -List.getD_eq_getElem?_getD]; done) | skip
  all_goals first | exact hG _ | skip
  trace_state
end Go.Proofs.Ytloibbakklenbaa.Ar
