/- grove: a pool of nodes of slots: its functions: look, set. -/
import Derived.Test.YtljdcboijegllaaG9Put
import Derived.Test.YtljdcboijegllaaShFn
namespace Go.Proofs.Ytljdcboijegllaa.G9
open Go.Proofs.Ytljdcboijegllaa.Rx
set_option linter.unusedVariables false
set_option linter.unusedSimpArgs false
set_option maxRecDepth 100000
def TOne {R : Type} : Tab R := [(22, liftC zN 2 (con1 Sh.ssumP))]
theorem TOne_ok {R : Type} {D : Res R} : TabOk D Try.prog (TOne : Tab R) := ⟨liftC_ok _ _ Sh.ssum_ok, trivial⟩
def TPlus {R : Type} : Tab R := [(1000000000, wrapCon), (23, liftC zN 2 (con1 Sh.nplusP))]
theorem TPlus_ok {R : Type} {D : Res R} : TabOk D Try.prog (TPlus : Tab R) := ⟨wrapCon_ok, liftC_ok _ _ Sh.nplus_ok, trivial⟩
def oneP {R : Type} : Prim R := fun args hh => match args, hh with
  | [.agg ⟨[.int .i64 k0, .int .i64 k1, .bool k2, .int .i64 k3]⟩], [] => some ⟨True, .agg ⟨[.int .i64 (Gv.one Sh.O9 (⟨⟨k0, k1⟩, k2, k3⟩ : Sh.Sl)).n, .int .i64 (Gv.one Sh.O9 (⟨⟨k0, k1⟩, k2, k3⟩ : Sh.Sl)).sum.n]⟩, none, hh, [], []⟩
  | _, _ => none
theorem one_ok {R : Type} {D : Res R} : ConOk D Try.prog 29 (con1 oneP) := by
  refine con1_ok (prim_at (fn := Try.f29) (root := codeOf Try.f29) (by kernel_rfl) (by kernel_rfl) (by kernel_rfl) fun args hh x hx => ?_)
  unfold oneP at hx
  split at hx
  · rename_i k0 k1 k2 k3
    injection hx with hx
    subst hx
    refine ⟨by first | exact Nat.le_refl _ | exact Nat.zero_le _ | exact Nat.le_succ _, noLit rfl, (fun hw => by first | rfl | cases hw), fun _ hv => ?_⟩
    generalize hG : Rx.Ends (R := R) _ _ = G
    refine rx_ok (T := TOne) TOne_ok mixed 200 ?_
    refine as_text (q := let zz2 := Value.int IntKind.i64; let zz1 := (Sh.Sz.n (Gv.Ops.sum Sh.O9 (Sh.Sl.mk (Wv.It.mk k0 k1) k2 k3))); Vc True ∧ Vc True ∧ Post (G (Value.agg (Array.mk [zz2 1, zz2 zz1])) [some (Sum.inl (32, [zz2 k0, zz2 k1, Value.bool k2, zz2 k3])), some (Sum.inl (61, [zz2 1, zz2 zz1]))])) ?_ (by kernel_rfl)
    intro zz2 zz1; subst zz1 zz2
    subst hG
    repeat' (first | apply And.intro | apply Vc.mk | apply fits.mk | intro h | apply Post.mk)
    all_goals (try simp only [decide_eq_true_eq, decide_eq_false_iff_not, Nat.zero_add, ge_iff_le, Int.not_le, Int.not_lt, Int.toNat_natCast, beq_iff_eq, beq_eq_false_iff_ne, bne_iff_ne, bne_eq_false_iff_eq, Bool.not_eq_true', Bool.not_eq_false'] at *)
    all_goals first | contradiction | omega | (apply congrArg Value.bool; assumption) | exact congrArg Value.bool (decide_eq_true (by assumption)) | exact congrArg Value.bool (decide_eq_false (Int.not_lt.mpr (by assumption))) | exact ⟨rfl, by omega⟩ | exact rfl | (simp [*, -List.getD_eq_getElem?_getD]; done) | skip
    exact ⟨[], rfl, rfl, trivial, rfl, rfl, rfl, rfl⟩
  · cases hx
def plusP {R : Type} : Prim R := fun args hh => match args, hh with
  | [.agg ⟨[.int .i64 p0, .int .i64 p1]⟩, .agg ⟨[.int .i64 q0, .int .i64 q1]⟩], [] => some ⟨True, .agg ⟨[.int .i64 (Gv.plusP Sh.O9 (⟨p0, ⟨p1⟩⟩ : Gv.Part Sh.Sz) (⟨q0, ⟨q1⟩⟩ : Gv.Part Sh.Sz)).n, .int .i64 (Gv.plusP Sh.O9 (⟨p0, ⟨p1⟩⟩ : Gv.Part Sh.Sz) (⟨q0, ⟨q1⟩⟩ : Gv.Part Sh.Sz)).sum.n]⟩, none, hh, [], []⟩
  | _, _ => none
theorem plus_ok {R : Type} {D : Res R} : ConOk D Try.prog 44 (con1 plusP) := by
  refine con1_ok (prim_at (fn := Try.f44) (root := codeOf Try.f44) (by kernel_rfl) (by kernel_rfl) (by kernel_rfl) fun args hh x hx => ?_)
  unfold plusP at hx
  split at hx
  · rename_i p0 p1 q0 q1
    injection hx with hx
    subst hx
    refine ⟨by first | exact Nat.le_refl _ | exact Nat.zero_le _ | exact Nat.le_succ _, noLit rfl, (fun hw => by first | rfl | cases hw), fun _ hv => ?_⟩
    generalize hG : Rx.Ends (R := R) _ _ = G
    refine rx_ok (T := TPlus) TPlus_ok mixed 200 ?_
    refine as_text (q := let zz1 := Value.int IntKind.i64; ((p0 == (0 : Int)) = true → Post (G (Value.agg (Array.mk [zz1 q0, zz1 q1])) [some (Sum.inl (61, [zz1 p0, zz1 p1])), some (Sum.inl (61, [zz1 q0, zz1 q1])), some (Sum.inl (61, [zz1 q0, zz1 q1]))])) ∧ ((p0 == (0 : Int)) = false → ((q0 == (0 : Int)) = true → Post (G (Value.agg (Array.mk [zz1 p0, zz1 p1])) [some (Sum.inl (61, [zz1 p0, zz1 p1])), some (Sum.inl (61, [zz1 q0, zz1 q1])), some (Sum.inl (61, [zz1 p0, zz1 p1]))])) ∧ ((q0 == (0 : Int)) = false → Vc True ∧ Vc True ∧ Vc True ∧ Post (G (Value.agg (Array.mk [zz1 (IntKind.wrap IntKind.i64 (p0 + q0)), zz1 (Sh.Sz.n (Gv.Ops.plus Sh.O9 (Sh.Sz.mk p1) (Sh.Sz.mk q1)))])) [some (Sum.inl (61, [zz1 p0, zz1 p1])), some (Sum.inl (61, [zz1 q0, zz1 q1])), some (Sum.inl (61, [zz1 (IntKind.wrap IntKind.i64 (p0 + q0)), zz1 (Sh.Sz.n (Gv.Ops.plus Sh.O9 (Sh.Sz.mk p1) (Sh.Sz.mk q1)))]))])))) ?_ (by kernel_rfl)
    intro zz1; subst zz1
    have done : ∀ (p : Gv.Part Sh.Sz) (hp : Hp R), p = Gv.plusP Sh.O9 (⟨p0, ⟨p1⟩⟩ : Gv.Part Sh.Sz) (⟨q0, ⟨q1⟩⟩ : Gv.Part Sh.Sz) → G (.agg ⟨[.int .i64 p.n, .int .i64 p.sum.n]⟩) hp := by
      intro p hp e
      subst e
      subst hG
      exact ⟨⟨[], rfl, rfl, trivial, rfl, rfl, rfl, rfl⟩⟩
    clear hG
    repeat' (first | apply And.intro | apply Vc.mk | apply fits.mk | intro h | apply Post.mk)
    all_goals (try simp only [decide_eq_true_eq, decide_eq_false_iff_not, Nat.zero_add, ge_iff_le, Int.not_le, Int.not_lt, Int.toNat_natCast, beq_iff_eq, beq_eq_false_iff_ne, bne_iff_ne, bne_eq_false_iff_eq, Bool.not_eq_true', Bool.not_eq_false'] at *)
    all_goals first | contradiction | omega | (apply congrArg Value.bool; assumption) | exact congrArg Value.bool (decide_eq_true (by assumption)) | exact congrArg Value.bool (decide_eq_false (Int.not_lt.mpr (by assumption))) | exact ⟨rfl, by omega⟩ | exact rfl | (simp [*, -List.getD_eq_getElem?_getD]; done) | skip
    · have h : p0 = 0 := by assumption
      exact done (⟨q0, ⟨q1⟩⟩ : Gv.Part Sh.Sz) _ (by rw [Gv.plusP, if_pos h])
    · have h : p0 ≠ 0 := by assumption
      have h2 : q0 = 0 := by assumption
      exact done (⟨p0, ⟨p1⟩⟩ : Gv.Part Sh.Sz) _ (by rw [Gv.plusP, if_neg h, if_pos h2])
    · have h : p0 ≠ 0 := by assumption
      have h2 : q0 ≠ 0 := by assumption
      exact done ⟨Gv.W (p0 + q0), Sh.O9.plus (⟨p0, ⟨p1⟩⟩ : Gv.Part Sh.Sz).sum (⟨q0, ⟨q1⟩⟩ : Gv.Part Sh.Sz).sum⟩ _ (by rw [Gv.plusP, if_neg h, if_neg h2])
  · cases hx
def TLook : Tab Rs := [(45, liftC zN 2 (con1 getP))]
theorem TLook_ok : TabOk D Try.prog TLook := ⟨liftC_ok _ _ get_ok, trivial⟩
def lookP : Prim Rs := fun args hh => match args, hh with
  | [.pointer (some ⟨0, 0, none⟩), .agg ⟨[.int .i64 ri, .int .i64 rg]⟩], [some (.inl (59, [.pointer (some ⟨1, 0, none⟩), .int .i64 ti, .int .i64 tg])), some (.inr (.inr (.inr (.pool m))))] => some ⟨PP m, .agg ⟨[.int .i64 (Gv.lk Sh.O9 m ⟨ri, rg⟩).e.it.k, .int .i64 (Gv.lk Sh.O9 m ⟨ri, rg⟩).e.it.i, .bool (Gv.lk Sh.O9 m ⟨ri, rg⟩).e.eaten, .int .i64 (Gv.lk Sh.O9 m ⟨ri, rg⟩).e.time, .int .i64 (Gv.lk Sh.O9 m ⟨ri, rg⟩).l.i, .int .i64 (Gv.lk Sh.O9 m ⟨ri, rg⟩).l.g, .int .i64 (Gv.lk Sh.O9 m ⟨ri, rg⟩).r.i, .int .i64 (Gv.lk Sh.O9 m ⟨ri, rg⟩).r.g, .int .i64 (Gv.lk Sh.O9 m ⟨ri, rg⟩).all.n, .int .i64 (Gv.lk Sh.O9 m ⟨ri, rg⟩).all.sum.n, .int .i64 (Gv.lk Sh.O9 m ⟨ri, rg⟩).h]⟩, none, [some (.inl (59, [.pointer (some ⟨1, 0, none⟩), .int .i64 ti, .int .i64 tg])), some (.inr (.inr (.inr (.pool (Gv.see m ⟨ri, rg⟩)))))], [], [(0, 0)]⟩
  | _, _ => none
theorem look_ok : ConOk D Try.prog 34 (con1 lookP) := by
  refine con1_ok (prim_at (fn := Try.f34) (root := codeOf Try.f34) (by kernel_rfl) (by kernel_rfl) (by kernel_rfl) fun args hh x hx => ?_)
  unfold lookP at hx
  split at hx
  · rename_i ri rg ti tg m
    injection hx with hx
    subst hx
    refine ⟨by first | exact Nat.le_refl _ | exact Nat.zero_le _ | exact Nat.le_succ _, noLit rfl, (fun hw => by first | rfl | cases hw), fun _ hv => ?_⟩
    generalize hG : Rx.Ends (R := Rs) _ _ = G
    refine rx_ok (T := TLook) TLook_ok mixed 200 ?_
    refine as_text (q := let zz2 := Value.int IntKind.i64; let zz1 := (Gv.look zd m (Gv.Ref.mk ri rg)); Vc (PP m) ∧ Post (G (Value.agg (Array.mk [zz2 (Wv.It.k (Sh.Sl.it (Gv.Node.e zz1))), zz2 (Wv.It.i (Sh.Sl.it (Gv.Node.e zz1))), Value.bool (Sh.Sl.eaten (Gv.Node.e zz1)), zz2 (Sh.Sl.time (Gv.Node.e zz1)), zz2 (Gv.Ref.i (Gv.Node.l zz1)), zz2 (Gv.Ref.g (Gv.Node.l zz1)), zz2 (Gv.Ref.i (Gv.Node.r zz1)), zz2 (Gv.Ref.g (Gv.Node.r zz1)), zz2 (Gv.Part.n (Gv.Node.all zz1)), zz2 (Sh.Sz.n (Gv.Part.sum (Gv.Node.all zz1))), zz2 (Gv.Node.h zz1)])) [some (Sum.inl (59, [Value.pointer (some (Addr.mk 1 0 none)), zz2 ti, zz2 tg])), some (Sum.inr (Sum.inr (Sum.inr (Rs.pool (Gv.see m (Gv.Ref.mk ri rg)))))), some (Sum.inl (54, [zz2 ri, zz2 rg])), some (Sum.inl (63, [zz2 (Wv.It.k (Sh.Sl.it (Gv.Node.e zz1))), zz2 (Wv.It.i (Sh.Sl.it (Gv.Node.e zz1))), Value.bool (Sh.Sl.eaten (Gv.Node.e zz1)), zz2 (Sh.Sl.time (Gv.Node.e zz1)), zz2 (Gv.Ref.i (Gv.Node.l zz1)), zz2 (Gv.Ref.g (Gv.Node.l zz1)), zz2 (Gv.Ref.i (Gv.Node.r zz1)), zz2 (Gv.Ref.g (Gv.Node.r zz1)), zz2 (Gv.Part.n (Gv.Node.all zz1)), zz2 (Sh.Sz.n (Gv.Part.sum (Gv.Node.all zz1))), zz2 (Gv.Node.h zz1)])), some (Sum.inl (63, [zz2 (Wv.It.k (Sh.Sl.it (Gv.Node.e zz1))), zz2 (Wv.It.i (Sh.Sl.it (Gv.Node.e zz1))), Value.bool (Sh.Sl.eaten (Gv.Node.e zz1)), zz2 (Sh.Sl.time (Gv.Node.e zz1)), zz2 (Gv.Ref.i (Gv.Node.l zz1)), zz2 (Gv.Ref.g (Gv.Node.l zz1)), zz2 (Gv.Ref.i (Gv.Node.r zz1)), zz2 (Gv.Ref.g (Gv.Node.r zz1)), zz2 (Gv.Part.n (Gv.Node.all zz1)), zz2 (Sh.Sz.n (Gv.Part.sum (Gv.Node.all zz1))), zz2 (Gv.Node.h zz1)]))])) ?_ (by kernel_rfl)
    intro zz2 zz1; subst zz1 zz2
    subst hG
    exact ⟨⟨hv⟩, ⟨⟨[0, 1], rfl, rfl, ⟨.inl rfl, rfl, trivial⟩, rfl, rfl, rfl, rfl⟩⟩⟩
  · cases hx
def TSet : Tab Rs := [(1000000000, wrapCon), (29, liftC zN 2 (con1 oneP)), (44, liftC zN 2 (con1 plusP)), (54, liftC zN 2 (con1 setP))]
theorem TSet_ok : TabOk D Try.prog TSet := ⟨wrapCon_ok, liftC_ok _ _ one_ok, liftC_ok _ _ plus_ok, liftC_ok _ _ set_ok, trivial⟩
def setNP : Prim Rs := fun args hh => match args, hh with
  | [.pointer (some ⟨0, 0, none⟩), .agg ⟨[.int .i64 ri, .int .i64 rg]⟩, .agg ⟨[.int .i64 x0, .int .i64 x1, .bool x2, .int .i64 x3, .int .i64 x4, .int .i64 x5, .int .i64 x6, .int .i64 x7, .int .i64 x8, .int .i64 x9, .int .i64 x10]⟩, .agg ⟨[.int .i64 y0, .int .i64 y1, .bool y2, .int .i64 y3, .int .i64 y4, .int .i64 y5, .int .i64 y6, .int .i64 y7, .int .i64 y8, .int .i64 y9, .int .i64 y10]⟩, .agg ⟨[.int .i64 z0, .int .i64 z1, .bool z2, .int .i64 z3, .int .i64 z4, .int .i64 z5, .int .i64 z6, .int .i64 z7, .int .i64 z8, .int .i64 z9, .int .i64 z10]⟩], [some (.inl (59, [.pointer (some ⟨1, 0, none⟩), .int .i64 ti, .int .i64 tg])), some (.inr (.inr (.inr (.pool m))))] => some ⟨PP m, .agg ⟨[.int .i64 ri, .int .i64 rg]⟩, none, [some (.inl (59, [.pointer (some ⟨1, 0, none⟩), .int .i64 ti, .int .i64 tg])), some (.inr (.inr (.inr (.pool (Gv.setN Sh.O9 m ⟨ri, rg⟩ (⟨⟨⟨x0, x1⟩, x2, x3⟩, ⟨x4, x5⟩, ⟨x6, x7⟩, ⟨x8, ⟨x9⟩⟩, x10⟩ : Nd) (⟨⟨⟨y0, y1⟩, y2, y3⟩, ⟨y4, y5⟩, ⟨y6, y7⟩, ⟨y8, ⟨y9⟩⟩, y10⟩ : Nd) (⟨⟨⟨z0, z1⟩, z2, z3⟩, ⟨z4, z5⟩, ⟨z6, z7⟩, ⟨z8, ⟨z9⟩⟩, z10⟩ : Nd))))))], [], [(0, 0)]⟩
  | _, _ => none
theorem setN_ok : ConOk D Try.prog 52 (con1 setNP) := by
  refine con1_ok (prim_at (fn := Try.f52) (root := codeOf Try.f52) (by kernel_rfl) (by kernel_rfl) (by kernel_rfl) fun args hh x hx => ?_)
  unfold setNP at hx
  split at hx
  · rename_i ri rg x0 x1 x2 x3 x4 x5 x6 x7 x8 x9 x10 y0 y1 y2 y3 y4 y5 y6 y7 y8 y9 y10 z0 z1 z2 z3 z4 z5 z6 z7 z8 z9 z10 ti tg m
    injection hx with hx
    subst hx
    refine ⟨by first | exact Nat.le_refl _ | exact Nat.zero_le _ | exact Nat.le_succ _, noLit rfl, (fun hw => by first | rfl | cases hw), fun _ hv => ?_⟩
    generalize hG : Rx.Ends (R := Rs) _ _ = G
    refine rx_ok (T := TSet) TSet_ok mixed 200 ?_
    refine as_text (q := let zz3 := Value.int IntKind.i64; let zz1 := (Gv.plusP Sh.O9 (Gv.plusP Sh.O9 (Gv.Part.mk y8 (Sh.Sz.mk y9)) (Gv.one Sh.O9 (Sh.Sl.mk (Wv.It.mk x0 x1) x2 x3))) (Gv.Part.mk z8 (Sh.Sz.mk z9))); let zz2 := (IntKind.wrap IntKind.i64 ((1 : Int) + if z10 > y10 then z10 else y10)); Vc True ∧ Vc True ∧ Vc True ∧ Vc True ∧ Vc (PP m) ∧ Post (G (Value.agg (Array.mk [zz3 ri, zz3 rg])) [some (Sum.inl (59, [Value.pointer (some (Addr.mk 1 0 none)), zz3 ti, zz3 tg])), some (Sum.inr (Sum.inr (Sum.inr (Rs.pool (Gv.put1 m (Gv.Ref.mk ri rg) (Gv.Node.mk (Sh.Sl.mk (Wv.It.mk x0 x1) x2 x3) (Gv.Ref.mk x4 x5) (Gv.Ref.mk x6 x7) zz1 zz2)))))), some (Sum.inl (54, [zz3 ri, zz3 rg])), some (Sum.inl (63, [zz3 x0, zz3 x1, Value.bool x2, zz3 x3, zz3 x4, zz3 x5, zz3 x6, zz3 x7, zz3 (Gv.Part.n zz1), zz3 (Sh.Sz.n (Gv.Part.sum zz1)), zz3 zz2])), some (Sum.inl (63, [zz3 y0, zz3 y1, Value.bool y2, zz3 y3, zz3 y4, zz3 y5, zz3 y6, zz3 y7, zz3 y8, zz3 y9, zz3 y10])), some (Sum.inl (63, [zz3 z0, zz3 z1, Value.bool z2, zz3 z3, zz3 z4, zz3 z5, zz3 z6, zz3 z7, zz3 z8, zz3 z9, zz3 z10])), some (Sum.inl (54, [zz3 ri, zz3 rg]))])) ?_ (by kernel_rfl)
    intro zz3 zz1 zz2; subst zz2 zz1 zz3
    subst hG
    repeat' (first | apply And.intro | apply Vc.mk | apply fits.mk | intro h | apply Post.mk)
    all_goals (try simp only [decide_eq_true_eq, decide_eq_false_iff_not, Nat.zero_add, ge_iff_le, Int.not_le, Int.not_lt, Int.toNat_natCast, beq_iff_eq, beq_eq_false_iff_ne, bne_iff_ne, bne_eq_false_iff_eq, Bool.not_eq_true', Bool.not_eq_false'] at *)
    all_goals first | contradiction | omega | (apply congrArg Value.bool; assumption) | exact congrArg Value.bool (decide_eq_true (by assumption)) | exact congrArg Value.bool (decide_eq_false (Int.not_lt.mpr (by assumption))) | exact ⟨rfl, by omega⟩ | exact rfl | (simp [*, -List.getD_eq_getElem?_getD]; done) | skip
    all_goals first | assumption | exact ⟨[0, 1], rfl, rfl, ⟨.inl rfl, rfl, trivial⟩, rfl, rfl, rfl, rfl⟩
  · cases hx
end Go.Proofs.Ytljdcboijegllaa.G9
