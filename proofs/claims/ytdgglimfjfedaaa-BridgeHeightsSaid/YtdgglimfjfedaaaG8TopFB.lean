/- grove: a pool of nodes of marks: its calls: First, Last, with B. -/
import Derived.Test.YtdgglimfjfedaaaG8FstB
import Derived.Test.YtdgglimfjfedaaaGvTop
namespace Go.Proofs.Ytdgglimfjfedaaa.G8
open Go.Proofs.Ytdgglimfjfedaaa.Rx
set_option linter.unusedVariables false
set_option linter.unusedSimpArgs false
set_option maxRecDepth 100000
set_option maxHeartbeats 16000000
def gfirstBP (K : Nat) : Prim Rs := fun args hh => match args, hh with
  | [.pointer (some ⟨0, 0, none⟩), .int .i64 f_, .func (.func 46) ⟨[]⟩ ⟨[.pointer (some ⟨1, 0, none⟩)]⟩], [some (.inl (71, [.pointer (some ⟨2, 0, none⟩), .int .i64 ti, .int .i64 tg])), some (.inl (3, [.int .i64 xx])), some (.inr (.inr (.inr (.pool m))))] => some ⟨PP m ∧ Gv.DeepN Wv.O8 K (Gv.see m (⟨ti, tg⟩ : Gv.Ref)) (Gv.lk Wv.O8 m (⟨ti, tg⟩ : Gv.Ref)), .int .i64 (Gv.first Wv.O8 (mayB xx) K (Gv.see m (⟨ti, tg⟩ : Gv.Ref)) (Gv.lk Wv.O8 m (⟨ti, tg⟩ : Gv.Ref)) ⟨0, Wv.O8.a0⟩ f_).1, none, [some (.inl (71, [.pointer (some ⟨2, 0, none⟩), .int .i64 ti, .int .i64 tg])), some (.inl (3, [.int .i64 xx])), some (.inr (.inr (.inr (.pool (Gv.first Wv.O8 (mayB xx) K (Gv.see m (⟨ti, tg⟩ : Gv.Ref)) (Gv.lk Wv.O8 m (⟨ti, tg⟩ : Gv.Ref)) ⟨0, Wv.O8.a0⟩ f_).2))))], [], [(0, 0)]⟩
  | _, _ => none
def TGfirstB (K : Nat) : Tab Rs := [(36, liftC zN 2 (con1 lookP)), (45, liftC zN 2 (con1 (firstBP K)))]
theorem gfirstB_ok (K : Nat) : ConOk D Try.prog 32 (con1 (gfirstBP K)) := by
  refine con1_ok (prim_at (fn := Try.f32) (root := codeOf Try.f32) (by kernel_rfl) (by kernel_rfl) (by kernel_rfl) fun args hh x hx => ?_)
  unfold gfirstBP at hx
  split at hx
  · rename_i f_ ti tg xx m
    injection hx with hx
    subst hx
    refine ⟨by first | exact Nat.le_refl _ | exact Nat.zero_le _ | exact Nat.le_succ _, noLit rfl, (fun hw => by first | rfl | cases hw), fun _ hv => ?_⟩
    obtain ⟨hp, hd⟩ := hv
    generalize hG : Rx.Ends (R := Rs) _ _ = G
    refine rx_ok (T := (TGfirstB K)) (show TabOk D Try.prog (TGfirstB K) from ⟨liftC_ok _ _ look_ok, liftC_ok _ _ (firstB_ok K), trivial⟩) mixed 200 ?_
    refine as_text (q := let zz1 := (Gv.lk Wv.O8 m (Gv.Ref.mk ti tg)); let zz2 := (ptL (Gv.Part.mk 0 (Wv.Sw.mk (Ti.Td.mk 0 0 0) (Ti.Td.mk 0 0 0) 0 0 (Wv.It.mk 0 0) false (Wv.It.mk 0 0) false (Wv.It.mk 0 0)))); let zz3 := (Gv.first Wv.O8 (mayB xx) K (Gv.see m (Gv.Ref.mk ti tg)) zz1 (Gv.Part.mk (0 : Int) (Wv.Sw.mk (Ti.Td.mk (0 : Int) (0 : Int) (0 : Int)) (Ti.Td.mk (0 : Int) (0 : Int) (0 : Int)) (0 : Int) (0 : Int) (Wv.It.mk (0 : Int) (0 : Int)) false (Wv.It.mk (0 : Int) (0 : Int)) false (Wv.It.mk (0 : Int) (0 : Int)))) f_); Vc (PP m) ∧ Vc ((ndL zz1) = ndL zz1 ∧ zz2 = zz2 ∧ PP (Gv.see m (Gv.Ref.mk ti tg)) ∧ Gv.DeepN Wv.O8 K (Gv.see m (Gv.Ref.mk ti tg)) zz1) ∧ Post (G (Value.int IntKind.i64 (Prod.fst zz3)) [trB 2 ti tg, some (Sum.inl (3, [Value.int IntKind.i64 xx])), oP (Prod.snd zz3)])) ?_ (by kernel_rfl)
    intro zz1 zz2 zz3; subst zz3 zz2 zz1
    subst hG
    repeat' (first | apply And.intro | apply Vc.mk | apply fits.mk | intro h | apply Post.mk)
    all_goals (try simp only [decide_eq_true_eq, decide_eq_false_iff_not, Nat.zero_add, ge_iff_le, Int.not_le, Int.not_lt, Int.toNat_natCast, beq_iff_eq, beq_eq_false_iff_ne, bne_iff_ne, bne_eq_false_iff_eq, Bool.not_eq_true', Bool.not_eq_false'] at *)
    all_goals first | contradiction | omega | (apply congrArg Value.bool; assumption) | exact congrArg Value.bool (decide_eq_true (by assumption)) | exact congrArg Value.bool (decide_eq_false (Int.not_lt.mpr (by assumption))) | exact ⟨rfl, by omega⟩ | exact rfl | (simp [*, -List.getD_eq_getElem?_getD]; done) | skip
    all_goals first | assumption | (simp only [Gv.see_ok, Gv.put1_ok, Gv.setN_ok, Gv.tie_ok, Gv.turnL_ok, Gv.turnR_ok, Gv.level_ok, Gv.replace_ok, Gv.hang_ok, Gv.link_ok, Gv.pickF_ok, Gv.glue_ok, Gv.pick_ok, Gv.cutF_ok, Gv.gather_ok, Gv.between_ok, Gv.first_ok, Gv.last_ok]; assumption) | skip
    exact ⟨[0, 1, 2], rfl, rfl, ⟨.inl rfl, .inl rfl, rfl, trivial⟩, rfl, rfl, rfl, rfl⟩
  · cases hx
def glastBP (K : Nat) : Prim Rs := fun args hh => match args, hh with
  | [.pointer (some ⟨0, 0, none⟩), .int .i64 f_, .func (.func 46) ⟨[]⟩ ⟨[.pointer (some ⟨1, 0, none⟩)]⟩], [some (.inl (71, [.pointer (some ⟨2, 0, none⟩), .int .i64 ti, .int .i64 tg])), some (.inl (3, [.int .i64 xx])), some (.inr (.inr (.inr (.pool m))))] => some ⟨PP m ∧ Gv.DeepN Wv.O8 K (Gv.see m (⟨ti, tg⟩ : Gv.Ref)) (Gv.lk Wv.O8 m (⟨ti, tg⟩ : Gv.Ref)), .int .i64 (Gv.last Wv.O8 (mayB xx) K (Gv.see m (⟨ti, tg⟩ : Gv.Ref)) (Gv.lk Wv.O8 m (⟨ti, tg⟩ : Gv.Ref)) ⟨0, Wv.O8.a0⟩ f_).1, none, [some (.inl (71, [.pointer (some ⟨2, 0, none⟩), .int .i64 ti, .int .i64 tg])), some (.inl (3, [.int .i64 xx])), some (.inr (.inr (.inr (.pool (Gv.last Wv.O8 (mayB xx) K (Gv.see m (⟨ti, tg⟩ : Gv.Ref)) (Gv.lk Wv.O8 m (⟨ti, tg⟩ : Gv.Ref)) ⟨0, Wv.O8.a0⟩ f_).2))))], [], [(0, 0)]⟩
  | _, _ => none
def TGlastB (K : Nat) : Tab Rs := [(36, liftC zN 2 (con1 lookP)), (47, liftC zN 2 (con1 (lastBP K)))]
theorem glastB_ok (K : Nat) : ConOk D Try.prog 34 (con1 (glastBP K)) := by
  refine con1_ok (prim_at (fn := Try.f34) (root := codeOf Try.f34) (by kernel_rfl) (by kernel_rfl) (by kernel_rfl) fun args hh x hx => ?_)
  unfold glastBP at hx
  split at hx
  · rename_i f_ ti tg xx m
    injection hx with hx
    subst hx
    refine ⟨by first | exact Nat.le_refl _ | exact Nat.zero_le _ | exact Nat.le_succ _, noLit rfl, (fun hw => by first | rfl | cases hw), fun _ hv => ?_⟩
    obtain ⟨hp, hd⟩ := hv
    generalize hG : Rx.Ends (R := Rs) _ _ = G
    refine rx_ok (T := (TGlastB K)) (show TabOk D Try.prog (TGlastB K) from ⟨liftC_ok _ _ look_ok, liftC_ok _ _ (lastB_ok K), trivial⟩) mixed 200 ?_
    refine as_text (q := let zz1 := (Gv.lk Wv.O8 m (Gv.Ref.mk ti tg)); let zz2 := (ptL (Gv.Part.mk 0 (Wv.Sw.mk (Ti.Td.mk 0 0 0) (Ti.Td.mk 0 0 0) 0 0 (Wv.It.mk 0 0) false (Wv.It.mk 0 0) false (Wv.It.mk 0 0)))); let zz3 := (Gv.last Wv.O8 (mayB xx) K (Gv.see m (Gv.Ref.mk ti tg)) zz1 (Gv.Part.mk (0 : Int) (Wv.Sw.mk (Ti.Td.mk (0 : Int) (0 : Int) (0 : Int)) (Ti.Td.mk (0 : Int) (0 : Int) (0 : Int)) (0 : Int) (0 : Int) (Wv.It.mk (0 : Int) (0 : Int)) false (Wv.It.mk (0 : Int) (0 : Int)) false (Wv.It.mk (0 : Int) (0 : Int)))) f_); Vc (PP m) ∧ Vc ((ndL zz1) = ndL zz1 ∧ zz2 = zz2 ∧ PP (Gv.see m (Gv.Ref.mk ti tg)) ∧ Gv.DeepN Wv.O8 K (Gv.see m (Gv.Ref.mk ti tg)) zz1) ∧ Post (G (Value.int IntKind.i64 (Prod.fst zz3)) [trB 2 ti tg, some (Sum.inl (3, [Value.int IntKind.i64 xx])), oP (Prod.snd zz3)])) ?_ (by kernel_rfl)
    intro zz1 zz2 zz3; subst zz3 zz2 zz1
    subst hG
    repeat' (first | apply And.intro | apply Vc.mk | apply fits.mk | intro h | apply Post.mk)
    all_goals (try simp only [decide_eq_true_eq, decide_eq_false_iff_not, Nat.zero_add, ge_iff_le, Int.not_le, Int.not_lt, Int.toNat_natCast, beq_iff_eq, beq_eq_false_iff_ne, bne_iff_ne, bne_eq_false_iff_eq, Bool.not_eq_true', Bool.not_eq_false'] at *)
    all_goals first | contradiction | omega | (apply congrArg Value.bool; assumption) | exact congrArg Value.bool (decide_eq_true (by assumption)) | exact congrArg Value.bool (decide_eq_false (Int.not_lt.mpr (by assumption))) | exact ⟨rfl, by omega⟩ | exact rfl | (simp [*, -List.getD_eq_getElem?_getD]; done) | skip
    all_goals first | assumption | (simp only [Gv.see_ok, Gv.put1_ok, Gv.setN_ok, Gv.tie_ok, Gv.turnL_ok, Gv.turnR_ok, Gv.level_ok, Gv.replace_ok, Gv.hang_ok, Gv.link_ok, Gv.pickF_ok, Gv.glue_ok, Gv.pick_ok, Gv.cutF_ok, Gv.gather_ok, Gv.between_ok, Gv.first_ok, Gv.last_ok]; assumption) | skip
    exact ⟨[0, 1, 2], rfl, rfl, ⟨.inl rfl, .inl rfl, rfl, trivial⟩, rfl, rfl, rfl, rfl⟩
  · cases hx
end Go.Proofs.Ytdgglimfjfedaaa.G8
