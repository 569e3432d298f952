/- grove: a pool of nodes of marks: its functions: look, set. -/
import Derived.Test.YtegekenkfomlbaaG8Put
import Derived.Test.YtegekenkfomlbaaWvFn
namespace Go.Proofs.Ytegekenkfomlbaa.G8
open Go.Proofs.Ytegekenkfomlbaa.Rx
set_option linter.unusedVariables false
set_option linter.unusedSimpArgs false
set_option maxRecDepth 100000
abbrev trB (b : Nat) (i g : Int) : Option (SB Rs) := some (.inl (76, [.pointer (some ⟨b, 0, none⟩), .int .i64 i, .int .i64 g]))
abbrev oP (m : Pl) : Option (SB Rs) := some (.inr (.inr (.inr (.pool m))))
def TOne {R : Type} : Tab R := [(68, liftC zN 2 (con1 Wv.msumP))]
theorem TOne_ok {R : Type} {D : Res R} : TabOk D Try.prog (TOne : Tab R) := ⟨liftC_ok _ _ Wv.msum_ok, trivial⟩
def TPlus {R : Type} : Tab R := [(1000000000, wrapCon), (75, liftC zN 2 (con1 Wv.splusP))]
theorem TPlus_ok {R : Type} {D : Res R} : TabOk D Try.prog (TPlus : Tab R) := ⟨wrapCon_ok, liftC_ok _ _ Wv.splus_ok, trivial⟩
def oneP {R : Type} : Prim R := fun args hh => match args, hh with
  | [.agg ⟨kE⟩], [] => some ⟨kE = elL (elOf kE) ∧ (True), .agg ⟨ptL (Gv.one Wv.O8 (elOf kE))⟩, none, hh, [], []⟩
  | _, _ => none
theorem one_ok {R : Type} {D : Res R} : ConOk D Try.prog 37 (con1 oneP) := by
  refine con1_ok (prim_at (fn := Try.f37) (root := codeOf Try.f37) (by kernel_rfl) (by kernel_rfl) (by kernel_rfl) fun args hh x hx => ?_)
  unfold oneP at hx
  split at hx
  · rename_i kE
    injection hx with hx
    subst hx
    refine ⟨by first | exact Nat.le_refl _ | exact Nat.zero_le _ | exact Nat.le_succ _ | exact Nat.le_add_left 1 3 | exact Nat.le_add_left 2 2 | exact Nat.le_add_left 1 2, noLit rfl, (fun hw => by first | rfl | cases hw), fun _ hv => ?_⟩
    obtain ⟨hq0, hv⟩ := hv; generalize elOf kE = ke at *; subst hq0
    generalize hG : Rx.Ends (R := R) _ _ = G
    refine rx_ok (T := TOne) TOne_ok mixed 200 ?_
    refine as_text (q := Vc True ∧ Vc True ∧ Post (G (Value.agg (Array.mk (ptL (Gv.Part.mk 1 (Gv.Ops.sum Wv.O8 ke))))) [some (Sum.inl (46, (elL ke))), some (Sum.inl (68, (ptL (Gv.Part.mk 1 (Gv.Ops.sum Wv.O8 ke)))))])) ?_ (by kernel_rfl)
    subst hG
    repeat' (first | apply And.intro | apply Vc.mk | apply fits.mk | intro h | apply Post.mk)
    all_goals (try simp only [decide_eq_true_eq, decide_eq_false_iff_not, Nat.zero_add, ge_iff_le, Int.not_le, Int.not_lt, Int.toNat_natCast, beq_iff_eq, beq_eq_false_iff_ne, bne_iff_ne, bne_eq_false_iff_eq, Bool.not_eq_true', Bool.not_eq_false'] at *)
    all_goals first | contradiction | omega | (apply congrArg Value.bool; assumption) | exact congrArg Value.bool (decide_eq_true (by assumption)) | exact congrArg Value.bool (decide_eq_false (Int.not_lt.mpr (by assumption))) | exact ⟨rfl, by omega⟩ | exact rfl | (simp [*, -List.getD_eq_getElem?_getD]; done) | skip
    exact ⟨[], rfl, rfl, trivial, rfl, rfl, rfl, rfl⟩
  · cases hx
def plusP {R : Type} : Prim R := fun args hh => match args, hh with
  | [.agg ⟨pP⟩, .agg ⟨qP⟩], [] => some ⟨pP = ptL (ptOf pP) ∧ qP = ptL (ptOf qP) ∧ (True), .agg ⟨ptL (Gv.plusP Wv.O8 (ptOf pP) (ptOf qP))⟩, none, hh, [], []⟩
  | _, _ => none
theorem plus_ok {R : Type} {D : Res R} : ConOk D Try.prog 45 (con1 plusP) := by
  refine con1_ok (prim_at (fn := Try.f45) (root := codeOf Try.f45) (by kernel_rfl) (by kernel_rfl) (by kernel_rfl) fun args hh x hx => ?_)
  unfold plusP at hx
  split at hx
  · rename_i pP qP
    injection hx with hx
    subst hx
    refine ⟨by first | exact Nat.le_refl _ | exact Nat.zero_le _ | exact Nat.le_succ _ | exact Nat.le_add_left 1 3 | exact Nat.le_add_left 2 2 | exact Nat.le_add_left 1 2, noLit rfl, (fun hw => by first | rfl | cases hw), fun _ hv => ?_⟩
    obtain ⟨hq0, hq1, hv⟩ := hv; generalize ptOf pP = pp at *; subst hq0; generalize ptOf qP = qp at *; subst hq1
    generalize hG : Rx.Ends (R := R) _ _ = G
    refine rx_ok (T := TPlus) TPlus_ok mixed 200 ?_
    refine as_text (q := let zz1 := (ptL (Gv.Part.mk (IntKind.wrap IntKind.i64 (Gv.Part.n pp + Gv.Part.n qp)) (Gv.Ops.plus Wv.O8 (Gv.Part.sum pp) (Gv.Part.sum qp)))); ((Gv.Part.n pp == (0 : Int)) = true → Post (G (Value.agg (Array.mk (ptL qp))) [some (Sum.inl (68, (ptL pp))), some (Sum.inl (68, (ptL qp))), some (Sum.inl (68, (ptL qp)))])) ∧ ((Gv.Part.n pp == (0 : Int)) = false → ((Gv.Part.n qp == (0 : Int)) = true → Post (G (Value.agg (Array.mk (ptL pp))) [some (Sum.inl (68, (ptL pp))), some (Sum.inl (68, (ptL qp))), some (Sum.inl (68, (ptL pp)))])) ∧ ((Gv.Part.n qp == (0 : Int)) = false → Vc True ∧ Vc True ∧ Vc True ∧ Post (G (Value.agg (Array.mk zz1)) [some (Sum.inl (68, (ptL pp))), some (Sum.inl (68, (ptL qp))), some (Sum.inl (68, zz1))])))) ?_ (by kernel_rfl)
    intro zz1; subst zz1
    have done : ∀ (p : Gv.Part Wv.Sw) (hp : Hp R), p = Gv.plusP Wv.O8 pp qp → G (.agg ⟨ptL p⟩) hp := by
      intro p hp e
      subst e
      subst hG
      exact ⟨⟨[], rfl, rfl, trivial, rfl, rfl, rfl, rfl⟩⟩
    clear hG
    repeat' (first | apply And.intro | apply Vc.mk | apply fits.mk | intro h | apply Post.mk)
    all_goals (try simp only [decide_eq_true_eq, decide_eq_false_iff_not, Nat.zero_add, ge_iff_le, Int.not_le, Int.not_lt, Int.toNat_natCast, beq_iff_eq, beq_eq_false_iff_ne, bne_iff_ne, bne_eq_false_iff_eq, Bool.not_eq_true', Bool.not_eq_false'] at *)
    all_goals first | contradiction | omega | (apply congrArg Value.bool; assumption) | exact congrArg Value.bool (decide_eq_true (by assumption)) | exact congrArg Value.bool (decide_eq_false (Int.not_lt.mpr (by assumption))) | exact ⟨rfl, by omega⟩ | exact rfl | (simp [*, -List.getD_eq_getElem?_getD]; done) | skip
    · have h : pp.n = 0 := by assumption
      exact done qp _ (by rw [Gv.plusP, if_pos h])
    · have h : pp.n ≠ 0 := by assumption
      have h2 : qp.n = 0 := by assumption
      exact done pp _ (by rw [Gv.plusP, if_neg h, if_pos h2])
    · have h : pp.n ≠ 0 := by assumption
      have h2 : qp.n ≠ 0 := by assumption
      exact done ⟨Gv.W (pp.n + qp.n), Wv.O8.plus pp.sum qp.sum⟩ _ (by rw [Gv.plusP, if_neg h, if_neg h2])
  · cases hx
def TLook : Tab Rs := [(40, liftC zN 2 (con1 getP))]
theorem TLook_ok : TabOk D Try.prog TLook := ⟨liftC_ok _ _ get_ok, trivial⟩
def lookP : Prim Rs := fun args hh => match args, hh with
  | [.pointer (some ⟨0, 0, none⟩), .agg ⟨[.int .i64 ri, .int .i64 rg]⟩], [some (.inl (76, [.pointer (some ⟨1, 0, none⟩), .int .i64 ti, .int .i64 tg])), some (.inr (.inr (.inr (.pool m))))] => some ⟨PP m, .agg ⟨ndL (Gv.lk Wv.O8 m ⟨ri, rg⟩)⟩, none, [some (.inl (76, [.pointer (some ⟨1, 0, none⟩), .int .i64 ti, .int .i64 tg])), some (.inr (.inr (.inr (.pool (Gv.see m ⟨ri, rg⟩)))))], [], [(0, 0)]⟩
  | _, _ => none
theorem look_ok : ConOk D Try.prog 33 (con1 lookP) := by
  refine con1_ok (prim_at (fn := Try.f33) (root := codeOf Try.f33) (by kernel_rfl) (by kernel_rfl) (by kernel_rfl) fun args hh x hx => ?_)
  unfold lookP at hx
  split at hx
  · rename_i ri rg ti tg m
    injection hx with hx
    subst hx
    refine ⟨by first | exact Nat.le_refl _ | exact Nat.zero_le _ | exact Nat.le_succ _ | exact Nat.le_add_left 1 3 | exact Nat.le_add_left 2 2 | exact Nat.le_add_left 1 2, noLit rfl, (fun hw => by first | rfl | cases hw), fun _ hv => ?_⟩
    generalize hG : Rx.Ends (R := Rs) _ _ = G
    refine rx_ok (T := TLook) TLook_ok mixed 200 ?_
    refine as_text (q := Vc (PP m) ∧ Post (G (Value.agg (Array.mk (ndL (Gv.look zd m (Gv.Ref.mk ri rg))))) [trB 1 ti tg, oP (Gv.see m (Gv.Ref.mk ri rg)), some (Sum.inl (70, [Value.int IntKind.i64 ri, Value.int IntKind.i64 rg])), some (Sum.inl (72, (ndL (Gv.look zd m (Gv.Ref.mk ri rg))))), some (Sum.inl (72, (ndL (Gv.look zd m (Gv.Ref.mk ri rg)))))])) ?_ (by kernel_rfl)
    subst hG
    exact ⟨⟨hv⟩, ⟨⟨[0, 1], rfl, rfl, ⟨.inl rfl, rfl, trivial⟩, rfl, rfl, rfl, rfl⟩⟩⟩
  · cases hx
def TSet : Tab Rs := [(1000000000, wrapCon), (37, liftC zN 2 (con1 oneP)), (45, liftC zN 2 (con1 plusP)), (50, liftC zN 2 (con1 setP))]
theorem TSet_ok : TabOk D Try.prog TSet := ⟨wrapCon_ok, liftC_ok _ _ one_ok, liftC_ok _ _ plus_ok, liftC_ok _ _ set_ok, trivial⟩
def setNP : Prim Rs := fun args hh => match args, hh with
  | [.pointer (some ⟨0, 0, none⟩), .agg ⟨[.int .i64 ri, .int .i64 rg]⟩, .agg ⟨xN⟩, .agg ⟨yN⟩, .agg ⟨zN⟩], [some (.inl (76, [.pointer (some ⟨1, 0, none⟩), .int .i64 ti, .int .i64 tg])), some (.inr (.inr (.inr (.pool m))))] => some ⟨xN = ndL (ndOf xN) ∧ yN = ndL (ndOf yN) ∧ zN = ndL (ndOf zN) ∧ (PP m), .agg ⟨[.int .i64 ri, .int .i64 rg]⟩, none, [some (.inl (76, [.pointer (some ⟨1, 0, none⟩), .int .i64 ti, .int .i64 tg])), some (.inr (.inr (.inr (.pool (Gv.setN Wv.O8 m ⟨ri, rg⟩ (ndOf xN) (ndOf yN) (ndOf zN))))))], [], [(0, 0)]⟩
  | _, _ => none
theorem setN_ok : ConOk D Try.prog 47 (con1 setNP) := by
  refine con1_ok (prim_at (fn := Try.f47) (root := codeOf Try.f47) (by kernel_rfl) (by kernel_rfl) (by kernel_rfl) fun args hh x hx => ?_)
  unfold setNP at hx
  split at hx
  · rename_i ri rg xN yN zN ti tg m
    injection hx with hx
    subst hx
    refine ⟨by first | exact Nat.le_refl _ | exact Nat.zero_le _ | exact Nat.le_succ _ | exact Nat.le_add_left 1 3 | exact Nat.le_add_left 2 2 | exact Nat.le_add_left 1 2, noLit rfl, (fun hw => by first | rfl | cases hw), fun _ hv => ?_⟩
    obtain ⟨hq0, hq1, hq2, hv⟩ := hv; generalize ndOf xN = xn at *; subst hq0; generalize ndOf yN = yn at *; subst hq1; generalize ndOf zN = zn at *; subst hq2
    generalize hG : Rx.Ends (R := Rs) _ _ = G
    refine rx_ok (T := TSet) TSet_ok mixed 200 ?_
    refine as_text (q := let zz3 := Value.int IntKind.i64; let zz1 := (Gv.plusP Wv.O8 (Gv.Node.all yn) (Gv.one Wv.O8 (Gv.Node.e xn))); let zz2 := (Gv.Node.mk (Gv.Node.e xn) (Gv.Node.l xn) (Gv.Node.r xn) (Gv.plusP Wv.O8 zz1 (Gv.Node.all zn)) (IntKind.wrap IntKind.i64 ((1 : Int) + if Gv.Node.h zn > Gv.Node.h yn then Gv.Node.h zn else Gv.Node.h yn))); Vc True ∧ Vc ((elL (Gv.Node.e xn)) = elL (Gv.Node.e xn) ∧ True) ∧ Vc ((ptL (Gv.Node.all yn)) = ptL (Gv.Node.all yn) ∧ (ptL (Gv.one Wv.O8 (Gv.Node.e xn))) = ptL (Gv.one Wv.O8 (Gv.Node.e xn)) ∧ True) ∧ Vc ((ptL zz1) = ptL zz1 ∧ (ptL (Gv.Node.all zn)) = ptL (Gv.Node.all zn) ∧ True) ∧ Vc ((ndL zz2) = ndL zz2 ∧ PP m) ∧ Post (G (Value.agg (Array.mk [zz3 ri, zz3 rg])) [trB 1 ti tg, oP (Gv.put1 m (Gv.Ref.mk ri rg) zz2), some (Sum.inl (70, [zz3 ri, zz3 rg])), some (Sum.inl (72, (ndL zz2))), some (Sum.inl (72, (ndL yn))), some (Sum.inl (72, (ndL zn))), some (Sum.inl (70, [zz3 ri, zz3 rg]))])) ?_ (by kernel_rfl)
    intro zz3 zz1 zz2; subst zz2 zz1 zz3
    subst hG
    repeat' (first | apply And.intro | apply Vc.mk | apply fits.mk | intro h | apply Post.mk)
    all_goals (try simp only [decide_eq_true_eq, decide_eq_false_iff_not, Nat.zero_add, ge_iff_le, Int.not_le, Int.not_lt, Int.toNat_natCast, beq_iff_eq, beq_eq_false_iff_ne, bne_iff_ne, bne_eq_false_iff_eq, Bool.not_eq_true', Bool.not_eq_false'] at *)
    all_goals first | contradiction | omega | (apply congrArg Value.bool; assumption) | exact congrArg Value.bool (decide_eq_true (by assumption)) | exact congrArg Value.bool (decide_eq_false (Int.not_lt.mpr (by assumption))) | exact ⟨rfl, by omega⟩ | exact rfl | (simp [*, -List.getD_eq_getElem?_getD]; done) | skip
    all_goals first | assumption | exact ⟨[0, 1], rfl, rfl, ⟨.inl rfl, rfl, trivial⟩, rfl, rfl, rfl, rfl⟩
  · cases hx
end Go.Proofs.Ytegekenkfomlbaa.G8
