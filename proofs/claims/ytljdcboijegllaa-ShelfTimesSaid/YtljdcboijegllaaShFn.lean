/- shelf: what slots call. -/
import Derived.Test.YtljdcboijegllaaRxQ
import Derived.Test.YtljdcboijegllaaItFn
import Derived.Test.YtljdcboijegllaaShSl
namespace Go.Proofs.Ytljdcboijegllaa.Sh
open Go.Proofs.Ytljdcboijegllaa.Rx Go.Proofs.Ytljdcboijegllaa.Wv
set_option linter.unusedVariables false
set_option linter.unusedSimpArgs false
set_option maxRecDepth 100000
def sofP {R : Type} : Prim R := fun args hh => match args, hh with
  | [.agg ⟨[.int .i64 a, .int .i64 b]⟩], [] => some ⟨True, .agg ⟨[.int .i64 a, .int .i64 b, .bool false, .int .i64 0]⟩, none, hh, [], []⟩
  | _, _ => none
theorem sof_ok {R : Type} {D : Res R} : ConOk D Try.prog 8 (con1 sofP) := by
  refine con1_ok (prim_at (fn := Try.f8) (root := codeOf Try.f8) (by kernel_rfl) (by kernel_rfl) (by kernel_rfl) fun args hh x hx => ?_)
  unfold sofP at hx
  split at hx
  · rename_i a b
    injection hx with hx
    subst hx
    refine ⟨by first | exact Nat.le_refl _ | exact Nat.zero_le _ | exact Nat.le_succ _, noLit rfl, (fun hw => by first | rfl | cases hw), fun _ hv => ?_⟩
    generalize hG : Rx.Ends (R := R) _ _ = G
    refine rx_okQ (T := []) trivial mixed 200 (q := let zz1 := Value.int IntKind.i64; Post (G (Value.agg (Array.mk [zz1 a, zz1 b, Value.bool false, zz1 0])) [some (Sum.inl (24, [zz1 a, zz1 b])), some (Sum.inl (32, [zz1 a, zz1 b, Value.bool false, zz1 0]))])) ?_ (by kernel_rfl)
    intro zz1; subst zz1
    subst hG
    repeat' (first | apply And.intro | apply Vc.mk | apply fits.mk | intro h | apply Post.mk)
    all_goals (try simp only [decide_eq_true_eq, decide_eq_false_iff_not, Nat.zero_add, ge_iff_le, Int.not_le, Int.not_lt, Int.toNat_natCast, beq_iff_eq, beq_eq_false_iff_ne, bne_iff_ne, bne_eq_false_iff_eq, Bool.not_eq_true', Bool.not_eq_false'] at *)
    all_goals first | contradiction | omega | (apply congrArg Value.bool; assumption) | exact congrArg Value.bool (decide_eq_true (by assumption)) | exact congrArg Value.bool (decide_eq_false (Int.not_lt.mpr (by assumption))) | exact ⟨rfl, by omega⟩ | exact rfl | (simp [*, -List.getD_eq_getElem?_getD]; done) | skip
    exact ⟨[], rfl, rfl, trivial, rfl, rfl, rfl, rfl⟩
  · cases hx
def TCi {R : Type} : Tab R := [(36, liftC zN 2 (con1 icmP))]
theorem TCi_ok {R : Type} {D : Res R} : TabOk D Try.prog (TCi : Tab R) := ⟨liftC_ok _ _ icm_ok, trivial⟩
def scmpP {R : Type} : Prim R := fun args hh => match args, hh with
  | [.agg ⟨[.int .i64 a, .int .i64 b, .bool c, .int .i64 d]⟩, .agg ⟨[.int .i64 a', .int .i64 b', .bool c', .int .i64 d']⟩], [] => some ⟨True, .int .i64 (O9.cmp ⟨⟨a, b⟩, c, d⟩ ⟨⟨a', b'⟩, c', d'⟩), none, hh, [], []⟩
  | _, _ => none
theorem scmp_ok {R : Type} {D : Res R} : ConOk D Try.prog 20 (con1 scmpP) := by
  refine con1_ok (prim_at (fn := Try.f20) (root := codeOf Try.f20) (by kernel_rfl) (by kernel_rfl) (by kernel_rfl) fun args hh x hx => ?_)
  unfold scmpP at hx
  split at hx
  · rename_i a b c d a' b' c' d'
    injection hx with hx
    subst hx
    refine ⟨by first | exact Nat.le_refl _ | exact Nat.zero_le _ | exact Nat.le_succ _, noLit rfl, (fun hw => by first | rfl | cases hw), fun _ hv => ?_⟩
    generalize hG : Rx.Ends (R := R) _ _ = G
    refine rx_okQ (T := TCi) TCi_ok mixed 200 (q := let zz1 := Value.int IntKind.i64; Vc True ∧ Post (G (zz1 (icmp (It.mk a b) (It.mk a' b'))) [some (Sum.inl (32, [zz1 a, zz1 b, Value.bool c, zz1 d])), some (Sum.inl (32, [zz1 a', zz1 b', Value.bool c', zz1 d']))])) ?_ (by kernel_rfl)
    intro zz1; subst zz1
    subst hG
    repeat' (first | apply And.intro | apply Vc.mk | apply fits.mk | intro h | apply Post.mk)
    all_goals (try simp only [decide_eq_true_eq, decide_eq_false_iff_not, Nat.zero_add, ge_iff_le, Int.not_le, Int.not_lt, Int.toNat_natCast, beq_iff_eq, beq_eq_false_iff_ne, bne_iff_ne, bne_eq_false_iff_eq, Bool.not_eq_true', Bool.not_eq_false'] at *)
    all_goals first | contradiction | omega | (apply congrArg Value.bool; assumption) | exact congrArg Value.bool (decide_eq_true (by assumption)) | exact congrArg Value.bool (decide_eq_false (Int.not_lt.mpr (by assumption))) | exact ⟨rfl, by omega⟩ | exact rfl | (simp [*, -List.getD_eq_getElem?_getD]; done) | skip
    exact ⟨[], rfl, rfl, trivial, rfl, rfl, rfl, rfl⟩
  · cases hx
def ssumP {R : Type} : Prim R := fun args hh => match args, hh with
  | [.agg ⟨[.int .i64 a, .int .i64 b, .bool c, .int .i64 d]⟩], [] => some ⟨True, .int .i64 (O9.sum ⟨⟨a, b⟩, c, d⟩).n, none, hh, [], []⟩
  | _, _ => none
theorem ssum_ok {R : Type} {D : Res R} : ConOk D Try.prog 22 (con1 ssumP) := by
  refine con1_ok (prim_at (fn := Try.f22) (root := codeOf Try.f22) (by kernel_rfl) (by kernel_rfl) (by kernel_rfl) fun args hh x hx => ?_)
  unfold ssumP at hx
  split at hx
  · rename_i a b c d
    injection hx with hx
    subst hx
    refine ⟨by first | exact Nat.le_refl _ | exact Nat.zero_le _ | exact Nat.le_succ _, noLit rfl, (fun hw => by first | rfl | cases hw), fun _ hv => ?_⟩
    generalize hG : Rx.Ends (R := R) _ _ = G
    refine rx_okQ (T := []) trivial mixed 200 (q := Post (G (Value.int IntKind.i64 1) [some (Sum.inl (32, [Value.int IntKind.i64 a, Value.int IntKind.i64 b, Value.bool c, Value.int IntKind.i64 d]))])) ?_ (by kernel_rfl)
    subst hG
    repeat' (first | apply And.intro | apply Vc.mk | apply fits.mk | intro h | apply Post.mk)
    all_goals (try simp only [decide_eq_true_eq, decide_eq_false_iff_not, Nat.zero_add, ge_iff_le, Int.not_le, Int.not_lt, Int.toNat_natCast, beq_iff_eq, beq_eq_false_iff_ne, bne_iff_ne, bne_eq_false_iff_eq, Bool.not_eq_true', Bool.not_eq_false'] at *)
    all_goals first | contradiction | omega | (apply congrArg Value.bool; assumption) | exact congrArg Value.bool (decide_eq_true (by assumption)) | exact congrArg Value.bool (decide_eq_false (Int.not_lt.mpr (by assumption))) | exact ⟨rfl, by omega⟩ | exact rfl | (simp [*, -List.getD_eq_getElem?_getD]; done) | skip
    exact ⟨[], rfl, rfl, trivial, rfl, rfl, rfl, rfl⟩
  · cases hx
def TWr9 {R : Type} : Tab R := [(1000000000, wrapCon)]
theorem TWr9_ok {R : Type} {D : Res R} : TabOk D Try.prog (TWr9 : Tab R) := ⟨wrapCon_ok, trivial⟩
def nplusP {R : Type} : Prim R := fun args hh => match args, hh with
  | [.int .i64 a, .int .i64 b], [] => some ⟨True, .int .i64 (O9.plus ⟨a⟩ ⟨b⟩).n, none, hh, [], []⟩
  | _, _ => none
theorem nplus_ok {R : Type} {D : Res R} : ConOk D Try.prog 23 (con1 nplusP) := by
  refine con1_ok (prim_at (fn := Try.f23) (root := codeOf Try.f23) (by kernel_rfl) (by kernel_rfl) (by kernel_rfl) fun args hh x hx => ?_)
  unfold nplusP at hx
  split at hx
  · rename_i a b
    injection hx with hx
    subst hx
    refine ⟨by first | exact Nat.le_refl _ | exact Nat.zero_le _ | exact Nat.le_succ _, noLit rfl, (fun hw => by first | rfl | cases hw), fun _ hv => ?_⟩
    generalize hG : Rx.Ends (R := R) _ _ = G
    refine rx_okQ (T := TWr9) TWr9_ok mixed 200 (q := Vc True ∧ Post (G (Value.int IntKind.i64 (IntKind.wrap IntKind.i64 (a + b))) [])) ?_ (by kernel_rfl)
    subst hG
    repeat' (first | apply And.intro | apply Vc.mk | apply fits.mk | intro h | apply Post.mk)
    all_goals (try simp only [decide_eq_true_eq, decide_eq_false_iff_not, Nat.zero_add, ge_iff_le, Int.not_le, Int.not_lt, Int.toNat_natCast, beq_iff_eq, beq_eq_false_iff_ne, bne_iff_ne, bne_eq_false_iff_eq, Bool.not_eq_true', Bool.not_eq_false'] at *)
    all_goals first | contradiction | omega | (apply congrArg Value.bool; assumption) | exact congrArg Value.bool (decide_eq_true (by assumption)) | exact congrArg Value.bool (decide_eq_false (Int.not_lt.mpr (by assumption))) | exact ⟨rfl, by omega⟩ | exact rfl | (simp [*, -List.getD_eq_getElem?_getD]; done) | skip
    exact ⟨[], rfl, rfl, trivial, rfl, rfl, rfl, rfl⟩
  · cases hx
end Go.Proofs.Ytljdcboijegllaa.Sh
