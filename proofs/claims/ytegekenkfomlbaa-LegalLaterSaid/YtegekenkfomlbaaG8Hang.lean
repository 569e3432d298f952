/- grove: a pool of nodes of marks: its functions: replace, hang. -/
import Derived.Test.YtegekenkfomlbaaG8Tie
namespace Go.Proofs.Ytegekenkfomlbaa.G8
open Go.Proofs.Ytegekenkfomlbaa.Rx
set_option linter.unusedVariables false
set_option linter.unusedSimpArgs false
set_option maxRecDepth 100000
def hangP  (k : Nat) : Prim Rs := fun args hh => match args, hh with
  | [.pointer (some ⟨0, 0, none⟩), .agg ⟨[.int .i64 ri, .int .i64 rg]⟩, .agg ⟨[.int .i64 fi, .int .i64 fg]⟩, .agg ⟨kE⟩], [some (.inl (76, [.pointer (some ⟨1, 0, none⟩), .int .i64 ti, .int .i64 tg])), some (.inr (.inr (.inr (.pool m))))] => some ⟨kE = elL (elOf kE) ∧ (PP m ∧ Gv.Deep Wv.O8 k m ⟨ri, rg⟩), .agg ⟨[.int .i64 (Gv.hang Wv.O8 k m ⟨ri, rg⟩ ⟨fi, fg⟩ (elOf kE)).1.i, .int .i64 (Gv.hang Wv.O8 k m ⟨ri, rg⟩ ⟨fi, fg⟩ (elOf kE)).1.g]⟩, none, [some (.inl (76, [.pointer (some ⟨1, 0, none⟩), .int .i64 ti, .int .i64 tg])), some (.inr (.inr (.inr (.pool (Gv.hang Wv.O8 k m ⟨ri, rg⟩ ⟨fi, fg⟩ (elOf kE)).2))))], [], [(0, 0)]⟩
  | _, _ => none
def THang (k : Nat) : Tab Rs := [(67, liftC zN 2 (con1 Wv.mcmpP)), (33, liftC zN 2 (con1 lookP)), (44, liftC zN 2 (con1 levelP)), (38, liftC zN 2 (con1 (hangP k)))]
theorem hang_ok : ∀ k : Nat, ConOk D Try.prog 38 (con1 (hangP k))
  | 0 => by
    refine con1_ok (prim_at (fn := Try.f38) (root := codeOf Try.f38) (by kernel_rfl) (by kernel_rfl) (by kernel_rfl) fun args hh x hx => ?_)
    unfold hangP at hx
    split at hx
    · rename_i ri rg fi fg kE ti tg m
      injection hx with hx
      subst hx
      refine ⟨by first | exact Nat.le_refl _ | exact Nat.zero_le _ | exact Nat.le_succ _ | exact Nat.le_add_left 1 3 | exact Nat.le_add_left 2 2 | exact Nat.le_add_left 1 2, noLit rfl, (fun hw => by first | rfl | cases hw), fun _ hv => ?_⟩
      exact False.elim (And.right (And.right hv))
    · cases hx
  | k + 1 => by
    have ih := hang_ok k
    refine con1_ok (prim_at (fn := Try.f38) (root := codeOf Try.f38) (by kernel_rfl) (by kernel_rfl) (by kernel_rfl) fun args hh x hx => ?_)
    unfold hangP at hx
    split at hx
    · rename_i ri rg fi fg kE ti tg m
      injection hx with hx
      subst hx
      refine ⟨by first | exact Nat.le_refl _ | exact Nat.zero_le _ | exact Nat.le_succ _ | exact Nat.le_add_left 1 3 | exact Nat.le_add_left 2 2 | exact Nat.le_add_left 1 2, noLit rfl, (fun hw => by first | rfl | cases hw), fun _ hv => ?_⟩
      obtain ⟨hq0, hv⟩ := hv; generalize elOf kE = ke at *; subst hq0; obtain ⟨hp, hd⟩ := hv
      generalize hG : Rx.Ends (R := Rs) _ _ = G
      refine rx_ok (T := (THang k)) (show TabOk D Try.prog (THang k) from ⟨liftC_ok _ _ Wv.mcmp_ok, liftC_ok _ _ look_ok, liftC_ok _ _ level_ok, liftC_ok _ _ ih, trivial⟩) mixed 200 ?_
      refine as_text (q := let zz11 := Value.int IntKind.i64; let zz1 := (Gv.lk Wv.O8 m (Gv.Ref.mk ri rg)); let zz2 := (Gv.see m (Gv.Ref.mk ri rg)); let zz3 := (Gv.Node.mk (Gv.Node.e zz1) (Prod.fst (Gv.hang Wv.O8 k zz2 (Gv.Node.l zz1) (Gv.Ref.mk fi fg) ke)) (Gv.Node.r zz1) (Gv.Node.all zz1) (Gv.Node.h zz1)); let zz4 := (Prod.snd (Gv.hang Wv.O8 k zz2 (Gv.Node.l zz1) (Gv.Ref.mk fi fg) ke)); let zz5 := (Gv.Ref.i (Prod.fst (Gv.level Wv.O8 zz4 (Gv.Ref.mk ri rg) zz3))); let zz6 := (Gv.Ref.g (Prod.fst (Gv.level Wv.O8 zz4 (Gv.Ref.mk ri rg) zz3))); let zz7 := (Gv.Node.mk (Gv.Node.e zz1) (Gv.Node.l zz1) (Prod.fst (Gv.hang Wv.O8 k zz2 (Gv.Node.r zz1) (Gv.Ref.mk fi fg) ke)) (Gv.Node.all zz1) (Gv.Node.h zz1)); let zz8 := (Prod.snd (Gv.hang Wv.O8 k zz2 (Gv.Node.r zz1) (Gv.Ref.mk fi fg) ke)); let zz9 := (Gv.Ref.i (Prod.fst (Gv.level Wv.O8 zz8 (Gv.Ref.mk ri rg) zz7))); let zz10 := (Gv.Ref.g (Prod.fst (Gv.level Wv.O8 zz8 (Gv.Ref.mk ri rg) zz7))); Vc (PP m) ∧ ((Gv.Node.h zz1 == (0 : Int)) = true → Post (G (Value.agg (Array.mk [zz11 fi, zz11 fg])) [trB 1 ti tg, oP zz2, some (Sum.inl (70, [zz11 ri, zz11 rg])), some (Sum.inl (70, [zz11 fi, zz11 fg])), some (Sum.inl (46, (elL ke))), some (Sum.inl (70, [zz11 fi, zz11 fg])), some (Sum.inl (72, (ndL zz1)))])) ∧ ((Gv.Node.h zz1 == (0 : Int)) = false → Vc True ∧ Vc True ∧ (decide (Gv.Ops.cmp Wv.O8 ke (Gv.Node.e zz1) < (0 : Int)) = true → Vc ((elL ke) = elL ke ∧ PP zz2 ∧ Gv.Deep Wv.O8 k zz2 (Gv.Node.l zz1)) ∧ Vc ((ndL zz3) = ndL zz3 ∧ PP zz4) ∧ Post (G (Value.agg (Array.mk [zz11 zz5, zz11 zz6])) [trB 1 ti tg, oP (Prod.snd (Gv.level Wv.O8 zz4 (Gv.Ref.mk ri rg) zz3)), some (Sum.inl (70, [zz11 ri, zz11 rg])), some (Sum.inl (70, [zz11 fi, zz11 fg])), some (Sum.inl (46, (elL ke))), some (Sum.inl (70, [zz11 zz5, zz11 zz6])), some (Sum.inl (72, (ndL zz3)))])) ∧ (decide (Gv.Ops.cmp Wv.O8 ke (Gv.Node.e zz1) < (0 : Int)) = false → Vc ((elL ke) = elL ke ∧ PP zz2 ∧ Gv.Deep Wv.O8 k zz2 (Gv.Node.r zz1)) ∧ Vc ((ndL zz7) = ndL zz7 ∧ PP zz8) ∧ Post (G (Value.agg (Array.mk [zz11 zz9, zz11 zz10])) [trB 1 ti tg, oP (Prod.snd (Gv.level Wv.O8 zz8 (Gv.Ref.mk ri rg) zz7)), some (Sum.inl (70, [zz11 ri, zz11 rg])), some (Sum.inl (70, [zz11 fi, zz11 fg])), some (Sum.inl (46, (elL ke))), some (Sum.inl (70, [zz11 zz9, zz11 zz10])), some (Sum.inl (72, (ndL zz7)))])))) ?_ (by kernel_rfl)
      intro zz11 zz1 zz2 zz3 zz4 zz5 zz6 zz7 zz8 zz9 zz10; subst zz10 zz9 zz8 zz7 zz6 zz5 zz4 zz3 zz2 zz1 zz11
      simp only [Gv.Deep] at hd
      have done : ∀ (i g : Int) (m' : Pl) (rest : Hp Rs), Gv.hang Wv.O8 (k + 1) m ⟨ri, rg⟩ ⟨fi, fg⟩ ke = (⟨i, g⟩, m') → G (.agg ⟨[.int .i64 i, .int .i64 g]⟩) ([some (.inl (76, [.pointer (some ⟨1, 0, none⟩), .int .i64 ti, .int .i64 tg])), some (.inr (.inr (.inr (.pool m'))))] ++ rest) := by
        intro i g m' rest e
        subst hG
        refine ⟨[0, 1], ?_, rfl, ⟨.inl rfl, ?_, trivial⟩, rfl, rfl, rfl, rfl⟩
        · simp only [e]; rfl
        · simp only [e]; rfl
      clear hG
      repeat' (first | apply And.intro | apply Vc.mk | apply fits.mk | intro h | apply Post.mk)
      all_goals (try simp only [decide_eq_true_eq, decide_eq_false_iff_not, Nat.zero_add, ge_iff_le, Int.not_le, Int.not_lt, Int.toNat_natCast, beq_iff_eq, beq_eq_false_iff_ne, bne_iff_ne, bne_eq_false_iff_eq, Bool.not_eq_true', Bool.not_eq_false'] at *)
      all_goals first | contradiction | omega | (apply congrArg Value.bool; assumption) | exact congrArg Value.bool (decide_eq_true (by assumption)) | exact congrArg Value.bool (decide_eq_false (Int.not_lt.mpr (by assumption))) | exact ⟨rfl, by omega⟩ | exact rfl | (simp [*, -List.getD_eq_getElem?_getD]; done) | skip
      all_goals first | assumption | (simp only [Gv.see_ok, Gv.put1_ok, Gv.setN_ok, Gv.tie_ok, Gv.turnL_ok, Gv.turnR_ok, Gv.level_ok, Gv.replace_ok, Gv.hang_ok, Gv.link_ok, Gv.pickF_ok, Gv.glue_ok, Gv.pick_ok, Gv.cutF_ok, Gv.gather_ok, Gv.between_ok, Gv.first_ok, Gv.last_ok]; assumption) | skip
      all_goals first | (rw [Gv.Deep_see]; rcases hd with hd | hd; exfalso; omega; first | exact hd.1 | exact hd.2) | skip
      all_goals (refine done _ _ _ _ ?_; rw [Gv.hang]; (try dsimp only [Gv.W]); repeat' split)
      all_goals first | rfl | (exfalso; omega) | contradiction | exact Prod.ext (Eq.symm (by assumption)) rfl | (exfalso; simp_all; done)
    · cases hx
def replaceP  (k : Nat) : Prim Rs := fun args hh => match args, hh with
  | [.pointer (some ⟨0, 0, none⟩), .agg ⟨[.int .i64 ri, .int .i64 rg]⟩, .agg ⟨kE⟩], [some (.inl (76, [.pointer (some ⟨1, 0, none⟩), .int .i64 ti, .int .i64 tg])), some (.inr (.inr (.inr (.pool m))))] => some ⟨kE = elL (elOf kE) ∧ (PP m ∧ Gv.Deep Wv.O8 k m ⟨ri, rg⟩), .bool (Gv.replace Wv.O8 k m ⟨ri, rg⟩ (elOf kE)).1, none, [some (.inl (76, [.pointer (some ⟨1, 0, none⟩), .int .i64 ti, .int .i64 tg])), some (.inr (.inr (.inr (.pool (Gv.replace Wv.O8 k m ⟨ri, rg⟩ (elOf kE)).2))))], [], [(0, 0)]⟩
  | _, _ => none
def TRepl (k : Nat) : Tab Rs := [(67, liftC zN 2 (con1 Wv.mcmpP)), (33, liftC zN 2 (con1 lookP)), (42, liftC zN 2 (con1 tieP)), (35, liftC zN 2 (con1 (replaceP k)))]
theorem replace_ok : ∀ k : Nat, ConOk D Try.prog 35 (con1 (replaceP k))
  | 0 => by
    refine con1_ok (prim_at (fn := Try.f35) (root := codeOf Try.f35) (by kernel_rfl) (by kernel_rfl) (by kernel_rfl) fun args hh x hx => ?_)
    unfold replaceP at hx
    split at hx
    · rename_i ri rg kE ti tg m
      injection hx with hx
      subst hx
      refine ⟨by first | exact Nat.le_refl _ | exact Nat.zero_le _ | exact Nat.le_succ _ | exact Nat.le_add_left 1 3 | exact Nat.le_add_left 2 2 | exact Nat.le_add_left 1 2, noLit rfl, (fun hw => by first | rfl | cases hw), fun _ hv => ?_⟩
      exact False.elim (And.right (And.right hv))
    · cases hx
  | k + 1 => by
    have ih := replace_ok k
    refine con1_ok (prim_at (fn := Try.f35) (root := codeOf Try.f35) (by kernel_rfl) (by kernel_rfl) (by kernel_rfl) fun args hh x hx => ?_)
    unfold replaceP at hx
    split at hx
    · rename_i ri rg kE ti tg m
      injection hx with hx
      subst hx
      refine ⟨by first | exact Nat.le_refl _ | exact Nat.zero_le _ | exact Nat.le_succ _ | exact Nat.le_add_left 1 3 | exact Nat.le_add_left 2 2 | exact Nat.le_add_left 1 2, noLit rfl, (fun hw => by first | rfl | cases hw), fun _ hv => ?_⟩
      obtain ⟨hq0, hv⟩ := hv; generalize elOf kE = ke at *; subst hq0; obtain ⟨hp, hd⟩ := hv
      generalize hG : Rx.Ends (R := Rs) _ _ = G
      refine rx_ok (T := (TRepl k)) (show TabOk D Try.prog (TRepl k) from ⟨liftC_ok _ _ Wv.mcmp_ok, liftC_ok _ _ look_ok, liftC_ok _ _ tie_ok, liftC_ok _ _ ih, trivial⟩) mixed 200 ?_
      refine as_text (q := let zz6 := Value.int IntKind.i64; let zz1 := (Gv.lk Wv.O8 m (Gv.Ref.mk ri rg)); let zz2 := (Gv.see m (Gv.Ref.mk ri rg)); let zz3 := (Gv.replace Wv.O8 k zz2 (Gv.Node.l zz1) ke); let zz4 := (Gv.replace Wv.O8 k zz2 (Gv.Node.r zz1) ke); let zz5 := (Gv.Node.mk ke (Gv.Node.l zz1) (Gv.Node.r zz1) (Gv.Node.all zz1) (Gv.Node.h zz1)); Vc (PP m) ∧ ((Gv.Node.h zz1 == (0 : Int)) = true → Post (G (Value.bool false) [trB 1 ti tg, oP zz2, some (Sum.inl (70, [zz6 ri, zz6 rg])), some (Sum.inl (46, (elL ke))), some (Sum.inl (72, (ndL zz1)))])) ∧ ((Gv.Node.h zz1 == (0 : Int)) = false → Vc True ∧ Vc True ∧ (decide (Gv.Ops.cmp Wv.O8 ke (Gv.Node.e zz1) < (0 : Int)) = true → Vc ((elL ke) = elL ke ∧ PP zz2 ∧ Gv.Deep Wv.O8 k zz2 (Gv.Node.l zz1)) ∧ (Prod.fst zz3 = true → Vc ((ndL zz1) = ndL zz1 ∧ PP (Prod.snd zz3)) ∧ Post (G (Value.bool (Prod.fst zz3)) [trB 1 ti tg, oP (Gv.tie Wv.O8 (Prod.snd zz3) (Gv.Ref.mk ri rg) zz1), some (Sum.inl (70, [zz6 ri, zz6 rg])), some (Sum.inl (46, (elL ke))), some (Sum.inl (72, (ndL zz1)))])) ∧ (Prod.fst zz3 = false → Post (G (Value.bool (Prod.fst zz3)) [trB 1 ti tg, oP (Prod.snd zz3), some (Sum.inl (70, [zz6 ri, zz6 rg])), some (Sum.inl (46, (elL ke))), some (Sum.inl (72, (ndL zz1)))]))) ∧ (decide (Gv.Ops.cmp Wv.O8 ke (Gv.Node.e zz1) < (0 : Int)) = false → (decide (Gv.Ops.cmp Wv.O8 ke (Gv.Node.e zz1) > (0 : Int)) = true → Vc ((elL ke) = elL ke ∧ PP zz2 ∧ Gv.Deep Wv.O8 k zz2 (Gv.Node.r zz1)) ∧ (Prod.fst zz4 = true → Vc ((ndL zz1) = ndL zz1 ∧ PP (Prod.snd zz4)) ∧ Post (G (Value.bool (Prod.fst zz4)) [trB 1 ti tg, oP (Gv.tie Wv.O8 (Prod.snd zz4) (Gv.Ref.mk ri rg) zz1), some (Sum.inl (70, [zz6 ri, zz6 rg])), some (Sum.inl (46, (elL ke))), some (Sum.inl (72, (ndL zz1)))])) ∧ (Prod.fst zz4 = false → Post (G (Value.bool (Prod.fst zz4)) [trB 1 ti tg, oP (Prod.snd zz4), some (Sum.inl (70, [zz6 ri, zz6 rg])), some (Sum.inl (46, (elL ke))), some (Sum.inl (72, (ndL zz1)))]))) ∧ (decide (Gv.Ops.cmp Wv.O8 ke (Gv.Node.e zz1) > (0 : Int)) = false → Vc ((ndL zz5) = ndL zz5 ∧ PP zz2) ∧ Post (G (Value.bool true) [trB 1 ti tg, oP (Gv.tie Wv.O8 zz2 (Gv.Ref.mk ri rg) zz5), some (Sum.inl (70, [zz6 ri, zz6 rg])), some (Sum.inl (46, (elL ke))), some (Sum.inl (72, (ndL zz5)))]))))) ?_ (by kernel_rfl)
      intro zz6 zz1 zz2 zz3 zz4 zz5; subst zz5 zz4 zz3 zz2 zz1 zz6
      simp only [Gv.Deep] at hd
      have done : ∀ (b : Bool) (m' : Pl) (rest : Hp Rs), Gv.replace Wv.O8 (k + 1) m ⟨ri, rg⟩ ke = (b, m') → G (.bool b) ([some (.inl (76, [.pointer (some ⟨1, 0, none⟩), .int .i64 ti, .int .i64 tg])), some (.inr (.inr (.inr (.pool m'))))] ++ rest) := by
        intro b m' rest e
        subst hG
        refine ⟨[0, 1], ?_, rfl, ⟨.inl rfl, ?_, trivial⟩, rfl, rfl, rfl, rfl⟩
        · simp only [e]; rfl
        · simp only [e]; rfl
      clear hG
      repeat' (first | apply And.intro | apply Vc.mk | apply fits.mk | intro h | apply Post.mk)
      all_goals (try simp only [decide_eq_true_eq, decide_eq_false_iff_not, Nat.zero_add, ge_iff_le, Int.not_le, Int.not_lt, Int.toNat_natCast, beq_iff_eq, beq_eq_false_iff_ne, bne_iff_ne, bne_eq_false_iff_eq, Bool.not_eq_true', Bool.not_eq_false'] at *)
      all_goals first | contradiction | omega | (apply congrArg Value.bool; assumption) | exact congrArg Value.bool (decide_eq_true (by assumption)) | exact congrArg Value.bool (decide_eq_false (Int.not_lt.mpr (by assumption))) | exact ⟨rfl, by omega⟩ | exact rfl | (simp [*, -List.getD_eq_getElem?_getD]; done) | skip
      all_goals first | assumption | (simp only [Gv.see_ok, Gv.put1_ok, Gv.setN_ok, Gv.tie_ok, Gv.turnL_ok, Gv.turnR_ok, Gv.level_ok, Gv.replace_ok, Gv.hang_ok, Gv.link_ok, Gv.pickF_ok, Gv.glue_ok, Gv.pick_ok, Gv.cutF_ok, Gv.gather_ok, Gv.between_ok, Gv.first_ok, Gv.last_ok]; assumption) | skip
      all_goals first | (rw [Gv.Deep_see]; rcases hd with hd | hd; exfalso; omega; first | exact hd.1 | exact hd.2) | skip
      all_goals (refine done _ _ _ ?_; rw [Gv.replace]; (try dsimp only [Gv.W]); repeat' split)
      all_goals first | rfl | (exfalso; omega) | contradiction | exact Prod.ext (Eq.symm (by assumption)) rfl | (exfalso; simp_all; done)
    · cases hx
end Go.Proofs.Ytegekenkfomlbaa.G8
