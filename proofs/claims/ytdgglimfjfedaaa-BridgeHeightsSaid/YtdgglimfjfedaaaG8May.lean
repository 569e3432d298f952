/- bridge: what its closure tells. -/
import Derived.Test.YtdgglimfjfedaaaG8Set
namespace Go.Proofs.Ytdgglimfjfedaaa.G8
open Go.Proofs.Ytdgglimfjfedaaa.Rx
set_option linter.unusedVariables false
set_option linter.unusedSimpArgs false
set_option maxRecDepth 100000
def mayB (x : Int) (a o : Wv.Sw) : Bool := decide (Gv.W (Gv.W (x + a.w.s) + o.w.l) ≤ 0)
def TWg {R : Type} : Tab R := [(1000000000, wrapCon)]
theorem TWg_ok {R : Type} {D : Res R} : TabOk D Try.prog (TWg : Tab R) := ⟨wrapCon_ok, trivial⟩
def mayBP {R : Type} : Prim R := fun args hh => match args, hh with
  | [.agg ⟨aS⟩, .agg ⟨oS⟩, .pointer (some ⟨0, 0, none⟩)], [some (.inl (3, [.int .i64 x]))] => some ⟨aS = smL (smOf aS) ∧ oS = smL (smOf oS), .bool (mayB x (smOf aS) (smOf oS)), none, hh, [], []⟩
  | _, _ => none
theorem mayB_ok {R : Type} {D : Res R} : ConOk D Try.prog 46 (con1 mayBP) := by
  refine con1_ok (prim_at (fn := Try.f46) (root := codeOf Try.f46) (by kernel_rfl) (by kernel_rfl) (by kernel_rfl) fun args hh x hx => ?_)
  unfold mayBP at hx
  split at hx
  · rename_i aS oS x
    injection hx with hx
    subst hx
    refine ⟨by first | exact Nat.le_refl _ | exact Nat.zero_le _ | exact Nat.le_succ _, noLit rfl, (fun hw => by first | rfl | cases hw), fun _ hv => ?_⟩
    obtain ⟨hq0, hq1⟩ := hv; generalize smOf aS = a at *; subst hq0; generalize smOf oS = o at *; subst hq1
    generalize hG : Rx.Ends (R := R) _ _ = G
    refine rx_ok (T := TWg) TWg_ok mixed 200 ?_
    refine as_text (q := Vc True ∧ Vc True ∧ Post (G (Value.bool (decide (IntKind.wrap IntKind.i64 (IntKind.wrap IntKind.i64 (x + Ti.Td.s (Wv.Sw.w a)) + Ti.Td.l (Wv.Sw.w o)) ≤ (0 : Int)))) [some (Sum.inl (3, [Value.int IntKind.i64 x])), some (Sum.inl (45, (smL a))), some (Sum.inl (45, (smL o)))])) ?_ (by kernel_rfl)
    subst hG
    repeat' (first | apply And.intro | apply Vc.mk | apply fits.mk | intro h | apply Post.mk)
    all_goals (try simp only [decide_eq_true_eq, decide_eq_false_iff_not, Nat.zero_add, ge_iff_le, Int.not_le, Int.not_lt, Int.toNat_natCast, beq_iff_eq, beq_eq_false_iff_ne, bne_iff_ne, bne_eq_false_iff_eq, Bool.not_eq_true', Bool.not_eq_false'] at *)
    all_goals first | contradiction | omega | (apply congrArg Value.bool; assumption) | exact congrArg Value.bool (decide_eq_true (by assumption)) | exact congrArg Value.bool (decide_eq_false (Int.not_lt.mpr (by assumption))) | exact ⟨rfl, by omega⟩ | exact rfl | (simp [*, -List.getD_eq_getElem?_getD]; done) | skip
    exact ⟨[0], rfl, rfl, ⟨.inl rfl, trivial⟩, rfl, rfl, rfl, rfl⟩
  · cases hx
end Go.Proofs.Ytdgglimfjfedaaa.G8
