/- grove: a pool of nodes of marks: its functions: tie, level. -/
import Derived.Test.YtegekenkfomlbaaG8Set
import Derived.Test.YtegekenkfomlbaaGvOk
namespace Go.Proofs.Ytegekenkfomlbaa.G8
open Go.Proofs.Ytegekenkfomlbaa.Rx
set_option linter.unusedVariables false
set_option linter.unusedSimpArgs false
set_option maxRecDepth 100000
def TTie : Tab Rs := [(33, liftC zN 2 (con1 lookP)), (47, liftC zN 2 (con1 setNP))]
theorem TTie_ok : TabOk D Try.prog TTie := ⟨liftC_ok _ _ look_ok, liftC_ok _ _ setN_ok, trivial⟩
def tieP : Prim Rs := fun args hh => match args, hh with
  | [.pointer (some ⟨0, 0, none⟩), .agg ⟨[.int .i64 ri, .int .i64 rg]⟩, .agg ⟨xN⟩], [some (.inl (76, [.pointer (some ⟨1, 0, none⟩), .int .i64 ti, .int .i64 tg])), some (.inr (.inr (.inr (.pool m))))] => some ⟨xN = ndL (ndOf xN) ∧ (PP m), .agg ⟨[.int .i64 ri, .int .i64 rg]⟩, none, [some (.inl (76, [.pointer (some ⟨1, 0, none⟩), .int .i64 ti, .int .i64 tg])), some (.inr (.inr (.inr (.pool (Gv.tie Wv.O8 m ⟨ri, rg⟩ (ndOf xN))))))], [], [(0, 0)]⟩
  | _, _ => none
theorem tie_ok : ConOk D Try.prog 42 (con1 tieP) := by
  refine con1_ok (prim_at (fn := Try.f42) (root := codeOf Try.f42) (by kernel_rfl) (by kernel_rfl) (by kernel_rfl) fun args hh x hx => ?_)
  unfold tieP at hx
  split at hx
  · rename_i ri rg xN ti tg m
    injection hx with hx
    subst hx
    refine ⟨by first | exact Nat.le_refl _ | exact Nat.zero_le _ | exact Nat.le_succ _ | exact Nat.le_add_left 1 3 | exact Nat.le_add_left 2 2 | exact Nat.le_add_left 1 2, noLit rfl, (fun hw => by first | rfl | cases hw), fun _ hv => ?_⟩
    obtain ⟨hq0, hv⟩ := hv; generalize ndOf xN = xn at *; subst hq0
    generalize hG : Rx.Ends (R := Rs) _ _ = G
    refine rx_ok (T := TTie) TTie_ok mixed 200 ?_
    refine as_text (q := let zz2 := Value.int IntKind.i64; let zz1 := (Gv.lk Wv.O8 (Gv.see m (Gv.Node.l xn)) (Gv.Node.r xn)); Vc (PP m) ∧ Vc (PP (Gv.see m (Gv.Node.l xn))) ∧ Vc ((ndL xn) = ndL xn ∧ (ndL (Gv.lk Wv.O8 m (Gv.Node.l xn))) = ndL (Gv.lk Wv.O8 m (Gv.Node.l xn)) ∧ (ndL zz1) = ndL zz1 ∧ PP (Gv.see (Gv.see m (Gv.Node.l xn)) (Gv.Node.r xn))) ∧ Post (G (Value.agg (Array.mk [zz2 ri, zz2 rg])) [trB 1 ti tg, oP (Gv.setN Wv.O8 (Gv.see (Gv.see m (Gv.Node.l xn)) (Gv.Node.r xn)) (Gv.Ref.mk ri rg) xn (Gv.lk Wv.O8 m (Gv.Node.l xn)) zz1), some (Sum.inl (70, [zz2 ri, zz2 rg])), some (Sum.inl (72, (ndL xn))), some (Sum.inl (70, [zz2 ri, zz2 rg]))])) ?_ (by kernel_rfl)
    intro zz2 zz1; subst zz1 zz2
    subst hG
    repeat' (first | apply And.intro | apply Vc.mk | apply fits.mk | intro h | apply Post.mk)
    all_goals (try simp only [decide_eq_true_eq, decide_eq_false_iff_not, Nat.zero_add, ge_iff_le, Int.not_le, Int.not_lt, Int.toNat_natCast, beq_iff_eq, beq_eq_false_iff_ne, bne_iff_ne, bne_eq_false_iff_eq, Bool.not_eq_true', Bool.not_eq_false'] at *)
    all_goals first | contradiction | omega | (apply congrArg Value.bool; assumption) | exact congrArg Value.bool (decide_eq_true (by assumption)) | exact congrArg Value.bool (decide_eq_false (Int.not_lt.mpr (by assumption))) | exact ⟨rfl, by omega⟩ | exact rfl | (simp [*, -List.getD_eq_getElem?_getD]; done) | skip
    all_goals first | assumption | (simp only [Gv.see_ok, Gv.put1_ok, Gv.setN_ok, Gv.tie_ok, Gv.turnL_ok, Gv.turnR_ok, Gv.level_ok, Gv.replace_ok, Gv.hang_ok, Gv.link_ok, Gv.pickF_ok, Gv.glue_ok, Gv.pick_ok, Gv.cutF_ok, Gv.gather_ok, Gv.between_ok, Gv.first_ok, Gv.last_ok]; assumption) | skip
    exact ⟨[0, 1], rfl, rfl, ⟨.inl rfl, rfl, trivial⟩, rfl, rfl, rfl, rfl⟩
  · cases hx
def TTurn : Tab Rs := [(33, liftC zN 2 (con1 lookP)), (42, liftC zN 2 (con1 tieP))]
theorem TTurn_ok : TabOk D Try.prog TTurn := ⟨liftC_ok _ _ look_ok, liftC_ok _ _ tie_ok, trivial⟩
def turnLP : Prim Rs := fun args hh => match args, hh with
  | [.pointer (some ⟨0, 0, none⟩), .agg ⟨[.int .i64 ri, .int .i64 rg]⟩, .agg ⟨xN⟩], [some (.inl (76, [.pointer (some ⟨1, 0, none⟩), .int .i64 ti, .int .i64 tg])), some (.inr (.inr (.inr (.pool m))))] => some ⟨xN = ndL (ndOf xN) ∧ (PP m), .agg ⟨[.int .i64 (ndOf xN).r.i, .int .i64 (ndOf xN).r.g]⟩, none, [some (.inl (76, [.pointer (some ⟨1, 0, none⟩), .int .i64 ti, .int .i64 tg])), some (.inr (.inr (.inr (.pool (Gv.turnL Wv.O8 m ⟨ri, rg⟩ (ndOf xN))))))], [], [(0, 0)]⟩
  | _, _ => none
theorem turnL_ok : ConOk D Try.prog 48 (con1 turnLP) := by
  refine con1_ok (prim_at (fn := Try.f48) (root := codeOf Try.f48) (by kernel_rfl) (by kernel_rfl) (by kernel_rfl) fun args hh x hx => ?_)
  unfold turnLP at hx
  split at hx
  · rename_i ri rg xN ti tg m
    injection hx with hx
    subst hx
    refine ⟨by first | exact Nat.le_refl _ | exact Nat.zero_le _ | exact Nat.le_succ _ | exact Nat.le_add_left 1 3 | exact Nat.le_add_left 2 2 | exact Nat.le_add_left 1 2, noLit rfl, (fun hw => by first | rfl | cases hw), fun _ hv => ?_⟩
    obtain ⟨hq0, hv⟩ := hv; generalize ndOf xN = xn at *; subst hq0
    generalize hG : Rx.Ends (R := Rs) _ _ = G
    refine rx_ok (T := TTurn) TTurn_ok mixed 200 ?_
    refine as_text (q := let zz5 := Value.int IntKind.i64; let zz1 := (Gv.lk Wv.O8 m (Gv.Node.r xn)); let zz2 := (Gv.Node.mk (Gv.Node.e xn) (Gv.Node.l xn) (Gv.Node.l zz1) (Gv.Node.all xn) (Gv.Node.h xn)); let zz3 := (Gv.Node.mk (Gv.Node.e zz1) (Gv.Ref.mk ri rg) (Gv.Node.r zz1) (Gv.Node.all zz1) (Gv.Node.h zz1)); let zz4 := (Gv.tie Wv.O8 (Gv.see m (Gv.Node.r xn)) (Gv.Ref.mk ri rg) zz2); Vc (PP m) ∧ Vc ((ndL zz2) = ndL zz2 ∧ PP (Gv.see m (Gv.Node.r xn))) ∧ Vc ((ndL zz3) = ndL zz3 ∧ PP zz4) ∧ Post (G (Value.agg (Array.mk [zz5 (Gv.Ref.i (Gv.Node.r xn)), zz5 (Gv.Ref.g (Gv.Node.r xn))])) [trB 1 ti tg, oP (Gv.tie Wv.O8 zz4 (Gv.Node.r xn) zz3), some (Sum.inl (70, [zz5 ri, zz5 rg])), some (Sum.inl (72, (ndL zz2))), some (Sum.inl (70, [zz5 (Gv.Ref.i (Gv.Node.r xn)), zz5 (Gv.Ref.g (Gv.Node.r xn))])), some (Sum.inl (70, [zz5 (Gv.Ref.i (Gv.Node.r xn)), zz5 (Gv.Ref.g (Gv.Node.r xn))])), some (Sum.inl (72, (ndL zz3)))])) ?_ (by kernel_rfl)
    intro zz5 zz1 zz2 zz3 zz4; subst zz4 zz3 zz2 zz1 zz5
    subst hG
    repeat' (first | apply And.intro | apply Vc.mk | apply fits.mk | intro h | apply Post.mk)
    all_goals (try simp only [decide_eq_true_eq, decide_eq_false_iff_not, Nat.zero_add, ge_iff_le, Int.not_le, Int.not_lt, Int.toNat_natCast, beq_iff_eq, beq_eq_false_iff_ne, bne_iff_ne, bne_eq_false_iff_eq, Bool.not_eq_true', Bool.not_eq_false'] at *)
    all_goals first | contradiction | omega | (apply congrArg Value.bool; assumption) | exact congrArg Value.bool (decide_eq_true (by assumption)) | exact congrArg Value.bool (decide_eq_false (Int.not_lt.mpr (by assumption))) | exact ⟨rfl, by omega⟩ | exact rfl | (simp [*, -List.getD_eq_getElem?_getD]; done) | skip
    all_goals first | assumption | (simp only [Gv.see_ok, Gv.put1_ok, Gv.setN_ok, Gv.tie_ok, Gv.turnL_ok, Gv.turnR_ok, Gv.level_ok, Gv.replace_ok, Gv.hang_ok, Gv.link_ok, Gv.pickF_ok, Gv.glue_ok, Gv.pick_ok, Gv.cutF_ok, Gv.gather_ok, Gv.between_ok, Gv.first_ok, Gv.last_ok]; assumption) | skip
    exact ⟨[0, 1], rfl, rfl, ⟨.inl rfl, rfl, trivial⟩, rfl, rfl, rfl, rfl⟩
  · cases hx
def turnRP : Prim Rs := fun args hh => match args, hh with
  | [.pointer (some ⟨0, 0, none⟩), .agg ⟨[.int .i64 ri, .int .i64 rg]⟩, .agg ⟨xN⟩], [some (.inl (76, [.pointer (some ⟨1, 0, none⟩), .int .i64 ti, .int .i64 tg])), some (.inr (.inr (.inr (.pool m))))] => some ⟨xN = ndL (ndOf xN) ∧ (PP m), .agg ⟨[.int .i64 (ndOf xN).l.i, .int .i64 (ndOf xN).l.g]⟩, none, [some (.inl (76, [.pointer (some ⟨1, 0, none⟩), .int .i64 ti, .int .i64 tg])), some (.inr (.inr (.inr (.pool (Gv.turnR Wv.O8 m ⟨ri, rg⟩ (ndOf xN))))))], [], [(0, 0)]⟩
  | _, _ => none
theorem turnR_ok : ConOk D Try.prog 49 (con1 turnRP) := by
  refine con1_ok (prim_at (fn := Try.f49) (root := codeOf Try.f49) (by kernel_rfl) (by kernel_rfl) (by kernel_rfl) fun args hh x hx => ?_)
  unfold turnRP at hx
  split at hx
  · rename_i ri rg xN ti tg m
    injection hx with hx
    subst hx
    refine ⟨by first | exact Nat.le_refl _ | exact Nat.zero_le _ | exact Nat.le_succ _ | exact Nat.le_add_left 1 3 | exact Nat.le_add_left 2 2 | exact Nat.le_add_left 1 2, noLit rfl, (fun hw => by first | rfl | cases hw), fun _ hv => ?_⟩
    obtain ⟨hq0, hv⟩ := hv; generalize ndOf xN = xn at *; subst hq0
    generalize hG : Rx.Ends (R := Rs) _ _ = G
    refine rx_ok (T := TTurn) TTurn_ok mixed 200 ?_
    refine as_text (q := let zz5 := Value.int IntKind.i64; let zz1 := (Gv.lk Wv.O8 m (Gv.Node.l xn)); let zz2 := (Gv.Node.mk (Gv.Node.e xn) (Gv.Node.r zz1) (Gv.Node.r xn) (Gv.Node.all xn) (Gv.Node.h xn)); let zz3 := (Gv.Node.mk (Gv.Node.e zz1) (Gv.Node.l zz1) (Gv.Ref.mk ri rg) (Gv.Node.all zz1) (Gv.Node.h zz1)); let zz4 := (Gv.tie Wv.O8 (Gv.see m (Gv.Node.l xn)) (Gv.Ref.mk ri rg) zz2); Vc (PP m) ∧ Vc ((ndL zz2) = ndL zz2 ∧ PP (Gv.see m (Gv.Node.l xn))) ∧ Vc ((ndL zz3) = ndL zz3 ∧ PP zz4) ∧ Post (G (Value.agg (Array.mk [zz5 (Gv.Ref.i (Gv.Node.l xn)), zz5 (Gv.Ref.g (Gv.Node.l xn))])) [trB 1 ti tg, oP (Gv.tie Wv.O8 zz4 (Gv.Node.l xn) zz3), some (Sum.inl (70, [zz5 ri, zz5 rg])), some (Sum.inl (72, (ndL zz2))), some (Sum.inl (70, [zz5 (Gv.Ref.i (Gv.Node.l xn)), zz5 (Gv.Ref.g (Gv.Node.l xn))])), some (Sum.inl (70, [zz5 (Gv.Ref.i (Gv.Node.l xn)), zz5 (Gv.Ref.g (Gv.Node.l xn))])), some (Sum.inl (72, (ndL zz3)))])) ?_ (by kernel_rfl)
    intro zz5 zz1 zz2 zz3 zz4; subst zz4 zz3 zz2 zz1 zz5
    subst hG
    repeat' (first | apply And.intro | apply Vc.mk | apply fits.mk | intro h | apply Post.mk)
    all_goals (try simp only [decide_eq_true_eq, decide_eq_false_iff_not, Nat.zero_add, ge_iff_le, Int.not_le, Int.not_lt, Int.toNat_natCast, beq_iff_eq, beq_eq_false_iff_ne, bne_iff_ne, bne_eq_false_iff_eq, Bool.not_eq_true', Bool.not_eq_false'] at *)
    all_goals first | contradiction | omega | (apply congrArg Value.bool; assumption) | exact congrArg Value.bool (decide_eq_true (by assumption)) | exact congrArg Value.bool (decide_eq_false (Int.not_lt.mpr (by assumption))) | exact ⟨rfl, by omega⟩ | exact rfl | (simp [*, -List.getD_eq_getElem?_getD]; done) | skip
    all_goals first | assumption | (simp only [Gv.see_ok, Gv.put1_ok, Gv.setN_ok, Gv.tie_ok, Gv.turnL_ok, Gv.turnR_ok, Gv.level_ok, Gv.replace_ok, Gv.hang_ok, Gv.link_ok, Gv.pickF_ok, Gv.glue_ok, Gv.pick_ok, Gv.cutF_ok, Gv.gather_ok, Gv.between_ok, Gv.first_ok, Gv.last_ok]; assumption) | skip
    exact ⟨[0, 1], rfl, rfl, ⟨.inl rfl, rfl, trivial⟩, rfl, rfl, rfl, rfl⟩
  · cases hx
def TLev : Tab Rs := [(1000000000, wrapCon), (33, liftC zN 2 (con1 lookP)), (47, liftC zN 2 (con1 setNP)), (48, liftC zN 2 (con1 turnLP)), (49, liftC zN 2 (con1 turnRP))]
theorem TLev_ok : TabOk D Try.prog TLev := ⟨wrapCon_ok, liftC_ok _ _ look_ok, liftC_ok _ _ setN_ok, liftC_ok _ _ turnL_ok, liftC_ok _ _ turnR_ok, trivial⟩
def levelP : Prim Rs := fun args hh => match args, hh with
  | [.pointer (some ⟨0, 0, none⟩), .agg ⟨[.int .i64 ri, .int .i64 rg]⟩, .agg ⟨xN⟩], [some (.inl (76, [.pointer (some ⟨1, 0, none⟩), .int .i64 ti, .int .i64 tg])), some (.inr (.inr (.inr (.pool m))))] => some ⟨xN = ndL (ndOf xN) ∧ (PP m), .agg ⟨[.int .i64 (Gv.level Wv.O8 m ⟨ri, rg⟩ (ndOf xN)).1.i, .int .i64 (Gv.level Wv.O8 m ⟨ri, rg⟩ (ndOf xN)).1.g]⟩, none, [some (.inl (76, [.pointer (some ⟨1, 0, none⟩), .int .i64 ti, .int .i64 tg])), some (.inr (.inr (.inr (.pool (Gv.level Wv.O8 m ⟨ri, rg⟩ (ndOf xN)).2))))], [], [(0, 0)]⟩
  | _, _ => none
theorem level_ok : ConOk D Try.prog 44 (con1 levelP) := by
  refine con1_ok (prim_at (fn := Try.f44) (root := codeOf Try.f44) (by kernel_rfl) (by kernel_rfl) (by kernel_rfl) fun args hh x hx => ?_)
  unfold levelP at hx
  split at hx
  · rename_i ri rg xN ti tg m
    injection hx with hx
    subst hx
    refine ⟨by first | exact Nat.le_refl _ | exact Nat.zero_le _ | exact Nat.le_succ _ | exact Nat.le_add_left 1 3 | exact Nat.le_add_left 2 2 | exact Nat.le_add_left 1 2, noLit rfl, (fun hw => by first | rfl | cases hw), fun _ hv => ?_⟩
    obtain ⟨hq0, hv⟩ := hv; generalize ndOf xN = xn at *; subst hq0
    generalize hG : Rx.Ends (R := Rs) _ _ = G
    refine rx_ok (T := TLev) TLev_ok mixed 200 ?_
    refine as_text (q := let zz12 := Value.int IntKind.i64; let zz1 := (Gv.lk Wv.O8 m (Gv.Node.l xn)); let zz2 := (Gv.lk Wv.O8 (Gv.see m (Gv.Node.l xn)) (Gv.Node.r xn)); let zz3 := (Gv.Node.h zz1 > IntKind.wrap IntKind.i64 (Gv.Node.h zz2 + (1 : Int))); let zz4 := (Gv.see (Gv.see m (Gv.Node.l xn)) (Gv.Node.r xn)); let zz5 := (Gv.Node.h (Gv.lk Wv.O8 zz4 (Gv.Node.r zz1)) > Gv.Node.h (Gv.lk Wv.O8 (Gv.see zz4 (Gv.Node.r zz1)) (Gv.Node.l zz1))); let zz6 := (Gv.see (Gv.see zz4 (Gv.Node.r zz1)) (Gv.Node.l zz1)); let zz7 := (Gv.Node.mk (Gv.Node.e xn) (Gv.Node.r zz1) (Gv.Node.r xn) (Gv.Node.all xn) (Gv.Node.h xn)); let zz8 := (Gv.Node.h zz2 > IntKind.wrap IntKind.i64 (Gv.Node.h zz1 + (1 : Int))); let zz9 := (Gv.Node.h (Gv.lk Wv.O8 zz4 (Gv.Node.l zz2)) > Gv.Node.h (Gv.lk Wv.O8 (Gv.see zz4 (Gv.Node.l zz2)) (Gv.Node.r zz2))); let zz10 := (Gv.see (Gv.see zz4 (Gv.Node.l zz2)) (Gv.Node.r zz2)); let zz11 := (Gv.Node.mk (Gv.Node.e xn) (Gv.Node.l xn) (Gv.Node.l zz2) (Gv.Node.all xn) (Gv.Node.h xn)); Vc (PP m) ∧ Vc (PP (Gv.see m (Gv.Node.l xn))) ∧ Vc True ∧ (decide zz3 = true → Vc (PP zz4) ∧ Vc (PP (Gv.see zz4 (Gv.Node.r zz1))) ∧ (decide zz5 = true → Vc ((ndL zz1) = ndL zz1 ∧ PP zz6) ∧ Vc ((ndL zz7) = ndL zz7 ∧ PP (Gv.turnL Wv.O8 zz6 (Gv.Node.l xn) zz1)) ∧ Post (G (Value.agg (Array.mk [zz12 (Gv.Ref.i (Gv.Node.l zz7)), zz12 (Gv.Ref.g (Gv.Node.l zz7))])) [trB 1 ti tg, oP (Gv.turnR Wv.O8 (Gv.turnL Wv.O8 zz6 (Gv.Node.l xn) zz1) (Gv.Ref.mk ri rg) zz7), some (Sum.inl (70, [zz12 ri, zz12 rg])), some (Sum.inl (72, (ndL zz7))), some (Sum.inl (70, [zz12 (Gv.Ref.i (Gv.Node.l zz7)), zz12 (Gv.Ref.g (Gv.Node.l zz7))])), some (Sum.inl (72, (ndL zz1))), some (Sum.inl (72, (ndL zz2)))])) ∧ (decide zz5 = false → Vc ((ndL xn) = ndL xn ∧ PP zz6) ∧ Post (G (Value.agg (Array.mk [zz12 (Gv.Ref.i (Gv.Node.l xn)), zz12 (Gv.Ref.g (Gv.Node.l xn))])) [trB 1 ti tg, oP (Gv.turnR Wv.O8 zz6 (Gv.Ref.mk ri rg) xn), some (Sum.inl (70, [zz12 ri, zz12 rg])), some (Sum.inl (72, (ndL xn))), some (Sum.inl (70, [zz12 (Gv.Ref.i (Gv.Node.l xn)), zz12 (Gv.Ref.g (Gv.Node.l xn))])), some (Sum.inl (72, (ndL zz1))), some (Sum.inl (72, (ndL zz2)))]))) ∧ (decide zz3 = false → Vc True ∧ (decide zz8 = true → Vc (PP zz4) ∧ Vc (PP (Gv.see zz4 (Gv.Node.l zz2))) ∧ (decide zz9 = true → Vc ((ndL zz2) = ndL zz2 ∧ PP zz10) ∧ Vc ((ndL zz11) = ndL zz11 ∧ PP (Gv.turnR Wv.O8 zz10 (Gv.Node.r xn) zz2)) ∧ Post (G (Value.agg (Array.mk [zz12 (Gv.Ref.i (Gv.Node.r zz11)), zz12 (Gv.Ref.g (Gv.Node.r zz11))])) [trB 1 ti tg, oP (Gv.turnL Wv.O8 (Gv.turnR Wv.O8 zz10 (Gv.Node.r xn) zz2) (Gv.Ref.mk ri rg) zz11), some (Sum.inl (70, [zz12 ri, zz12 rg])), some (Sum.inl (72, (ndL zz11))), some (Sum.inl (70, [zz12 (Gv.Ref.i (Gv.Node.r zz11)), zz12 (Gv.Ref.g (Gv.Node.r zz11))])), some (Sum.inl (72, (ndL zz1))), some (Sum.inl (72, (ndL zz2)))])) ∧ (decide zz9 = false → Vc ((ndL xn) = ndL xn ∧ PP zz10) ∧ Post (G (Value.agg (Array.mk [zz12 (Gv.Ref.i (Gv.Node.r xn)), zz12 (Gv.Ref.g (Gv.Node.r xn))])) [trB 1 ti tg, oP (Gv.turnL Wv.O8 zz10 (Gv.Ref.mk ri rg) xn), some (Sum.inl (70, [zz12 ri, zz12 rg])), some (Sum.inl (72, (ndL xn))), some (Sum.inl (70, [zz12 (Gv.Ref.i (Gv.Node.r xn)), zz12 (Gv.Ref.g (Gv.Node.r xn))])), some (Sum.inl (72, (ndL zz1))), some (Sum.inl (72, (ndL zz2)))]))) ∧ (decide zz8 = false → Vc ((ndL xn) = ndL xn ∧ (ndL zz1) = ndL zz1 ∧ (ndL zz2) = ndL zz2 ∧ PP zz4) ∧ Post (G (Value.agg (Array.mk [zz12 ri, zz12 rg])) [trB 1 ti tg, oP (Gv.setN Wv.O8 zz4 (Gv.Ref.mk ri rg) xn zz1 zz2), some (Sum.inl (70, [zz12 ri, zz12 rg])), some (Sum.inl (72, (ndL xn))), some (Sum.inl (70, [zz12 ri, zz12 rg])), some (Sum.inl (72, (ndL zz1))), some (Sum.inl (72, (ndL zz2)))])))) ?_ (by kernel_rfl)
    intro zz12 zz1 zz2 zz3 zz4 zz5 zz6 zz7 zz8 zz9 zz10 zz11; subst zz11 zz10 zz9 zz8 zz7 zz6 zz5 zz4 zz3 zz2 zz1 zz12
    have done : ∀ (i g : Int) (m' : Pl) (rest : Hp Rs), Gv.level Wv.O8 m ⟨ri, rg⟩ xn = (⟨i, g⟩, m') → G (.agg ⟨[.int .i64 i, .int .i64 g]⟩) ([some (.inl (76, [.pointer (some ⟨1, 0, none⟩), .int .i64 ti, .int .i64 tg])), some (.inr (.inr (.inr (.pool m'))))] ++ rest) := by
      intro i g m' rest e
      subst hG
      refine ⟨[0, 1], ?_, rfl, ⟨.inl rfl, ?_, trivial⟩, rfl, rfl, rfl, rfl⟩
      · simp only [e]; rfl
      · simp only [e]; rfl
    clear hG
    repeat' (first | apply And.intro | apply Vc.mk | apply fits.mk | intro h | apply Post.mk)
    all_goals (try simp only [decide_eq_true_eq, decide_eq_false_iff_not, Nat.zero_add, ge_iff_le, Int.not_le, Int.not_lt, Int.toNat_natCast, beq_iff_eq, beq_eq_false_iff_ne, bne_iff_ne, bne_eq_false_iff_eq, Bool.not_eq_true', Bool.not_eq_false'] at *)
    all_goals first | contradiction | omega | (apply congrArg Value.bool; assumption) | exact congrArg Value.bool (decide_eq_true (by assumption)) | exact congrArg Value.bool (decide_eq_false (Int.not_lt.mpr (by assumption))) | exact ⟨rfl, by omega⟩ | exact rfl | (simp [*, -List.getD_eq_getElem?_getD]; done) | skip
    all_goals first | assumption | (simp only [Gv.see_ok, Gv.put1_ok, Gv.setN_ok, Gv.tie_ok, Gv.turnL_ok, Gv.turnR_ok, Gv.level_ok, Gv.replace_ok, Gv.hang_ok, Gv.link_ok, Gv.pickF_ok, Gv.glue_ok, Gv.pick_ok, Gv.cutF_ok, Gv.gather_ok, Gv.between_ok, Gv.first_ok, Gv.last_ok]; assumption) | skip
    all_goals (refine done _ _ _ _ ?_; unfold Gv.level; (try dsimp only [Gv.W]); repeat' split)
    all_goals first | rfl | (exfalso; omega)
  · cases hx
end Go.Proofs.Ytegekenkfomlbaa.G8
