/- grove: a pool of nodes of slots: its functions: replace, hang. -/
import Derived.Test.YtljdcboijegllaaG9Tie
namespace Go.Proofs.Ytljdcboijegllaa.G9
open Go.Proofs.Ytljdcboijegllaa.Rx
set_option linter.unusedVariables false
set_option linter.unusedSimpArgs false
set_option maxRecDepth 100000
def hangP  (k : Nat) : Prim Rs := fun args hh => match args, hh with
  | [.pointer (some ⟨0, 0, none⟩), .agg ⟨[.int .i64 ri, .int .i64 rg]⟩, .agg ⟨[.int .i64 fi, .int .i64 fg]⟩, .agg ⟨[.int .i64 k0, .int .i64 k1, .bool k2, .int .i64 k3]⟩], [some (.inl (59, [.pointer (some ⟨1, 0, none⟩), .int .i64 ti, .int .i64 tg])), some (.inr (.inr (.inr (.pool m))))] => some ⟨PP m ∧ Gv.Deep Sh.O9 k m ⟨ri, rg⟩, .agg ⟨[.int .i64 (Gv.hang Sh.O9 k m ⟨ri, rg⟩ ⟨fi, fg⟩ (⟨⟨k0, k1⟩, k2, k3⟩ : Sh.Sl)).1.i, .int .i64 (Gv.hang Sh.O9 k m ⟨ri, rg⟩ ⟨fi, fg⟩ (⟨⟨k0, k1⟩, k2, k3⟩ : Sh.Sl)).1.g]⟩, none, [some (.inl (59, [.pointer (some ⟨1, 0, none⟩), .int .i64 ti, .int .i64 tg])), some (.inr (.inr (.inr (.pool (Gv.hang Sh.O9 k m ⟨ri, rg⟩ ⟨fi, fg⟩ (⟨⟨k0, k1⟩, k2, k3⟩ : Sh.Sl)).2))))], [], [(0, 0)]⟩
  | _, _ => none
def THang (k : Nat) : Tab Rs := [(20, liftC zN 2 (con1 Sh.scmpP)), (34, liftC zN 2 (con1 lookP)), (39, liftC zN 2 (con1 levelP)), (30, liftC zN 2 (con1 (hangP k)))]
theorem hang_ok : ∀ k : Nat, ConOk D Try.prog 30 (con1 (hangP k))
  | 0 => by
    refine con1_ok (prim_at (fn := Try.f30) (root := codeOf Try.f30) (by kernel_rfl) (by kernel_rfl) (by kernel_rfl) fun args hh x hx => ?_)
    unfold hangP at hx
    split at hx
    · rename_i ri rg fi fg k0 k1 k2 k3 ti tg m
      injection hx with hx
      subst hx
      refine ⟨by first | exact Nat.le_refl _ | exact Nat.zero_le _ | exact Nat.le_succ _, noLit rfl, (fun hw => by first | rfl | cases hw), fun _ hv => ?_⟩
      exact False.elim (And.right hv)
    · cases hx
  | k + 1 => by
    have ih := hang_ok k
    refine con1_ok (prim_at (fn := Try.f30) (root := codeOf Try.f30) (by kernel_rfl) (by kernel_rfl) (by kernel_rfl) fun args hh x hx => ?_)
    unfold hangP at hx
    split at hx
    · rename_i ri rg fi fg k0 k1 k2 k3 ti tg m
      injection hx with hx
      subst hx
      refine ⟨by first | exact Nat.le_refl _ | exact Nat.zero_le _ | exact Nat.le_succ _, noLit rfl, (fun hw => by first | rfl | cases hw), fun _ hv => ?_⟩
      obtain ⟨hp, hd⟩ := hv
      generalize hG : Rx.Ends (R := Rs) _ _ = G
      refine rx_ok (T := (THang k)) (show TabOk D Try.prog (THang k) from ⟨liftC_ok _ _ Sh.scmp_ok, liftC_ok _ _ look_ok, liftC_ok _ _ level_ok, liftC_ok _ _ ih, trivial⟩) mixed 200 ?_
      refine as_text (q := let zz13 := Value.pointer (some (Addr.mk 1 0 none)); let zz14 := Value.int IntKind.i64; let zz1 := (Gv.lk Sh.O9 m (Gv.Ref.mk ri rg)); let zz2 := (Gv.see m (Gv.Ref.mk ri rg)); let zz3 := (Wv.It.k (Sh.Sl.it (Gv.Node.e zz1))); let zz4 := (Wv.It.i (Sh.Sl.it (Gv.Node.e zz1))); let zz5 := (Sh.Sz.n (Gv.Part.sum (Gv.Node.all zz1))); let zz6 := (Sh.Sl.mk (Wv.It.mk k0 k1) k2 k3); let zz7 := (Prod.snd (Gv.hang Sh.O9 k zz2 (Gv.Node.l zz1) (Gv.Ref.mk fi fg) zz6)); let zz8 := (Prod.fst (Gv.hang Sh.O9 k zz2 (Gv.Node.l zz1) (Gv.Ref.mk fi fg) zz6)); let zz9 := (Gv.level Sh.O9 zz7 (Gv.Ref.mk ri rg) (Gv.Node.mk (Gv.Node.e zz1) zz8 (Gv.Node.r zz1) (Gv.Node.all zz1) (Gv.Node.h zz1))); let zz10 := (Prod.snd (Gv.hang Sh.O9 k zz2 (Gv.Node.r zz1) (Gv.Ref.mk fi fg) zz6)); let zz11 := (Prod.fst (Gv.hang Sh.O9 k zz2 (Gv.Node.r zz1) (Gv.Ref.mk fi fg) zz6)); let zz12 := (Gv.level Sh.O9 zz10 (Gv.Ref.mk ri rg) (Gv.Node.mk (Gv.Node.e zz1) (Gv.Node.l zz1) zz11 (Gv.Node.all zz1) (Gv.Node.h zz1))); Vc (PP m) ∧ ((Gv.Node.h zz1 == (0 : Int)) = true → Post (G (Value.agg (Array.mk [zz14 fi, zz14 fg])) [some (Sum.inl (59, [zz13, zz14 ti, zz14 tg])), some (Sum.inr (Sum.inr (Sum.inr (Rs.pool zz2)))), some (Sum.inl (54, [zz14 ri, zz14 rg])), some (Sum.inl (54, [zz14 fi, zz14 fg])), some (Sum.inl (32, [zz14 k0, zz14 k1, Value.bool k2, zz14 k3])), some (Sum.inl (54, [zz14 fi, zz14 fg])), some (Sum.inl (63, [zz14 zz3, zz14 zz4, Value.bool (Sh.Sl.eaten (Gv.Node.e zz1)), zz14 (Sh.Sl.time (Gv.Node.e zz1)), zz14 (Gv.Ref.i (Gv.Node.l zz1)), zz14 (Gv.Ref.g (Gv.Node.l zz1)), zz14 (Gv.Ref.i (Gv.Node.r zz1)), zz14 (Gv.Ref.g (Gv.Node.r zz1)), zz14 (Gv.Part.n (Gv.Node.all zz1)), zz14 zz5, zz14 (Gv.Node.h zz1)]))])) ∧ ((Gv.Node.h zz1 == (0 : Int)) = false → Vc True ∧ Vc True ∧ (decide (Gv.Ops.cmp Sh.O9 zz6 (Gv.Node.e zz1) < (0 : Int)) = true → Vc (PP zz2 ∧ Gv.Deep Sh.O9 k zz2 (Gv.Node.l zz1)) ∧ Vc (PP zz7) ∧ Post (G (Value.agg (Array.mk [zz14 (Gv.Ref.i (Prod.fst zz9)), zz14 (Gv.Ref.g (Prod.fst zz9))])) [some (Sum.inl (59, [zz13, zz14 ti, zz14 tg])), some (Sum.inr (Sum.inr (Sum.inr (Rs.pool (Prod.snd zz9))))), some (Sum.inl (54, [zz14 ri, zz14 rg])), some (Sum.inl (54, [zz14 fi, zz14 fg])), some (Sum.inl (32, [zz14 k0, zz14 k1, Value.bool k2, zz14 k3])), some (Sum.inl (54, [zz14 (Gv.Ref.i (Prod.fst zz9)), zz14 (Gv.Ref.g (Prod.fst zz9))])), some (Sum.inl (63, [zz14 zz3, zz14 zz4, Value.bool (Sh.Sl.eaten (Gv.Node.e zz1)), zz14 (Sh.Sl.time (Gv.Node.e zz1)), zz14 (Gv.Ref.i zz8), zz14 (Gv.Ref.g zz8), zz14 (Gv.Ref.i (Gv.Node.r zz1)), zz14 (Gv.Ref.g (Gv.Node.r zz1)), zz14 (Gv.Part.n (Gv.Node.all zz1)), zz14 zz5, zz14 (Gv.Node.h zz1)]))])) ∧ (decide (Gv.Ops.cmp Sh.O9 zz6 (Gv.Node.e zz1) < (0 : Int)) = false → Vc (PP zz2 ∧ Gv.Deep Sh.O9 k zz2 (Gv.Node.r zz1)) ∧ Vc (PP zz10) ∧ Post (G (Value.agg (Array.mk [zz14 (Gv.Ref.i (Prod.fst zz12)), zz14 (Gv.Ref.g (Prod.fst zz12))])) [some (Sum.inl (59, [zz13, zz14 ti, zz14 tg])), some (Sum.inr (Sum.inr (Sum.inr (Rs.pool (Prod.snd zz12))))), some (Sum.inl (54, [zz14 ri, zz14 rg])), some (Sum.inl (54, [zz14 fi, zz14 fg])), some (Sum.inl (32, [zz14 k0, zz14 k1, Value.bool k2, zz14 k3])), some (Sum.inl (54, [zz14 (Gv.Ref.i (Prod.fst zz12)), zz14 (Gv.Ref.g (Prod.fst zz12))])), some (Sum.inl (63, [zz14 zz3, zz14 zz4, Value.bool (Sh.Sl.eaten (Gv.Node.e zz1)), zz14 (Sh.Sl.time (Gv.Node.e zz1)), zz14 (Gv.Ref.i (Gv.Node.l zz1)), zz14 (Gv.Ref.g (Gv.Node.l zz1)), zz14 (Gv.Ref.i zz11), zz14 (Gv.Ref.g zz11), zz14 (Gv.Part.n (Gv.Node.all zz1)), zz14 zz5, zz14 (Gv.Node.h zz1)]))])))) ?_ (by kernel_rfl)
      intro zz13 zz14 zz1 zz2 zz3 zz4 zz5 zz6 zz7 zz8 zz9 zz10 zz11 zz12; subst zz12 zz11 zz10 zz9 zz8 zz7 zz6 zz5 zz4 zz3 zz2 zz1 zz14 zz13
      simp only [Gv.Deep] at hd
      have done : ∀ (i g : Int) (m' : Pl) (rest : Hp Rs), Gv.hang Sh.O9 (k + 1) m ⟨ri, rg⟩ ⟨fi, fg⟩ (⟨⟨k0, k1⟩, k2, k3⟩ : Sh.Sl) = (⟨i, g⟩, m') → G (.agg ⟨[.int .i64 i, .int .i64 g]⟩) ([some (.inl (59, [.pointer (some ⟨1, 0, none⟩), .int .i64 ti, .int .i64 tg])), some (.inr (.inr (.inr (.pool m'))))] ++ rest) := by
        intro i g m' rest e
        subst hG
        refine ⟨[0, 1], ?_, rfl, ⟨.inl rfl, ?_, trivial⟩, rfl, rfl, rfl, rfl⟩
        · simp only [e]; rfl
        · simp only [e]; rfl
      clear hG
      repeat' (first | apply And.intro | apply Vc.mk | apply fits.mk | intro h | apply Post.mk)
      all_goals (try simp only [decide_eq_true_eq, decide_eq_false_iff_not, Nat.zero_add, ge_iff_le, Int.not_le, Int.not_lt, Int.toNat_natCast, beq_iff_eq, beq_eq_false_iff_ne, bne_iff_ne, bne_eq_false_iff_eq, Bool.not_eq_true', Bool.not_eq_false'] at *)
      all_goals first | contradiction | omega | (apply congrArg Value.bool; assumption) | exact congrArg Value.bool (decide_eq_true (by assumption)) | exact congrArg Value.bool (decide_eq_false (Int.not_lt.mpr (by assumption))) | exact ⟨rfl, by omega⟩ | exact rfl | (simp [*, -List.getD_eq_getElem?_getD]; done) | skip
      all_goals first | assumption | (simp only [Gv.see_ok, Gv.put1_ok, Gv.setN_ok, Gv.tie_ok, Gv.turnL_ok, Gv.turnR_ok, Gv.level_ok, Gv.replace_ok, Gv.hang_ok, Gv.link_ok, Gv.pickF_ok, Gv.glue_ok, Gv.pick_ok, Gv.cutF_ok, Gv.gather_ok, Gv.between_ok, Gv.first_ok, Gv.last_ok]; assumption) | skip
      all_goals first | (rw [Gv.Deep_see]; rcases hd with hd | hd; exfalso; omega; first | exact hd.1 | exact hd.2) | skip
      all_goals (refine done _ _ _ _ ?_; rw [Gv.hang]; (try dsimp only [Gv.W]); repeat' split)
      all_goals first | rfl | (exfalso; omega) | contradiction | exact Prod.ext (Eq.symm (by assumption)) rfl | (exfalso; simp_all; done)
    · cases hx
def replaceP  (k : Nat) : Prim Rs := fun args hh => match args, hh with
  | [.pointer (some ⟨0, 0, none⟩), .agg ⟨[.int .i64 ri, .int .i64 rg]⟩, .agg ⟨[.int .i64 k0, .int .i64 k1, .bool k2, .int .i64 k3]⟩], [some (.inl (59, [.pointer (some ⟨1, 0, none⟩), .int .i64 ti, .int .i64 tg])), some (.inr (.inr (.inr (.pool m))))] => some ⟨PP m ∧ Gv.Deep Sh.O9 k m ⟨ri, rg⟩, .bool (Gv.replace Sh.O9 k m ⟨ri, rg⟩ (⟨⟨k0, k1⟩, k2, k3⟩ : Sh.Sl)).1, none, [some (.inl (59, [.pointer (some ⟨1, 0, none⟩), .int .i64 ti, .int .i64 tg])), some (.inr (.inr (.inr (.pool (Gv.replace Sh.O9 k m ⟨ri, rg⟩ (⟨⟨k0, k1⟩, k2, k3⟩ : Sh.Sl)).2))))], [], [(0, 0)]⟩
  | _, _ => none
def TRepl (k : Nat) : Tab Rs := [(20, liftC zN 2 (con1 Sh.scmpP)), (34, liftC zN 2 (con1 lookP)), (41, liftC zN 2 (con1 tieP)), (27, liftC zN 2 (con1 (replaceP k)))]
theorem replace_ok : ∀ k : Nat, ConOk D Try.prog 27 (con1 (replaceP k))
  | 0 => by
    refine con1_ok (prim_at (fn := Try.f27) (root := codeOf Try.f27) (by kernel_rfl) (by kernel_rfl) (by kernel_rfl) fun args hh x hx => ?_)
    unfold replaceP at hx
    split at hx
    · rename_i ri rg k0 k1 k2 k3 ti tg m
      injection hx with hx
      subst hx
      refine ⟨by first | exact Nat.le_refl _ | exact Nat.zero_le _ | exact Nat.le_succ _, noLit rfl, (fun hw => by first | rfl | cases hw), fun _ hv => ?_⟩
      exact False.elim (And.right hv)
    · cases hx
  | k + 1 => by
    have ih := replace_ok k
    refine con1_ok (prim_at (fn := Try.f27) (root := codeOf Try.f27) (by kernel_rfl) (by kernel_rfl) (by kernel_rfl) fun args hh x hx => ?_)
    unfold replaceP at hx
    split at hx
    · rename_i ri rg k0 k1 k2 k3 ti tg m
      injection hx with hx
      subst hx
      refine ⟨by first | exact Nat.le_refl _ | exact Nat.zero_le _ | exact Nat.le_succ _, noLit rfl, (fun hw => by first | rfl | cases hw), fun _ hv => ?_⟩
      obtain ⟨hp, hd⟩ := hv
      generalize hG : Rx.Ends (R := Rs) _ _ = G
      refine rx_ok (T := (TRepl k)) (show TabOk D Try.prog (TRepl k) from ⟨liftC_ok _ _ Sh.scmp_ok, liftC_ok _ _ look_ok, liftC_ok _ _ tie_ok, liftC_ok _ _ ih, trivial⟩) mixed 200 ?_
      refine as_text (q := let zz6 := Value.pointer (some (Addr.mk 1 0 none)); let zz7 := Value.int IntKind.i64; let zz1 := (Gv.lk Sh.O9 m (Gv.Ref.mk ri rg)); let zz2 := (Gv.see m (Gv.Ref.mk ri rg)); let zz3 := (Sh.Sl.mk (Wv.It.mk k0 k1) k2 k3); let zz4 := (Gv.replace Sh.O9 k zz2 (Gv.Node.l zz1) zz3); let zz5 := (Gv.replace Sh.O9 k zz2 (Gv.Node.r zz1) zz3); Vc (PP m) ∧ ((Gv.Node.h zz1 == (0 : Int)) = true → Post (G (Value.bool false) [some (Sum.inl (59, [zz6, zz7 ti, zz7 tg])), some (Sum.inr (Sum.inr (Sum.inr (Rs.pool zz2)))), some (Sum.inl (54, [zz7 ri, zz7 rg])), some (Sum.inl (32, [zz7 k0, zz7 k1, Value.bool k2, zz7 k3])), some (Sum.inl (63, [zz7 (Wv.It.k (Sh.Sl.it (Gv.Node.e zz1))), zz7 (Wv.It.i (Sh.Sl.it (Gv.Node.e zz1))), Value.bool (Sh.Sl.eaten (Gv.Node.e zz1)), zz7 (Sh.Sl.time (Gv.Node.e zz1)), zz7 (Gv.Ref.i (Gv.Node.l zz1)), zz7 (Gv.Ref.g (Gv.Node.l zz1)), zz7 (Gv.Ref.i (Gv.Node.r zz1)), zz7 (Gv.Ref.g (Gv.Node.r zz1)), zz7 (Gv.Part.n (Gv.Node.all zz1)), zz7 (Sh.Sz.n (Gv.Part.sum (Gv.Node.all zz1))), zz7 (Gv.Node.h zz1)]))])) ∧ ((Gv.Node.h zz1 == (0 : Int)) = false → Vc True ∧ Vc True ∧ (decide (Gv.Ops.cmp Sh.O9 zz3 (Gv.Node.e zz1) < (0 : Int)) = true → Vc (PP zz2 ∧ Gv.Deep Sh.O9 k zz2 (Gv.Node.l zz1)) ∧ (Prod.fst zz4 = true → Vc (PP (Prod.snd zz4)) ∧ Post (G (Value.bool (Prod.fst zz4)) [some (Sum.inl (59, [zz6, zz7 ti, zz7 tg])), some (Sum.inr (Sum.inr (Sum.inr (Rs.pool (Gv.tie Sh.O9 (Prod.snd zz4) (Gv.Ref.mk ri rg) zz1))))), some (Sum.inl (54, [zz7 ri, zz7 rg])), some (Sum.inl (32, [zz7 k0, zz7 k1, Value.bool k2, zz7 k3])), some (Sum.inl (63, [zz7 (Wv.It.k (Sh.Sl.it (Gv.Node.e zz1))), zz7 (Wv.It.i (Sh.Sl.it (Gv.Node.e zz1))), Value.bool (Sh.Sl.eaten (Gv.Node.e zz1)), zz7 (Sh.Sl.time (Gv.Node.e zz1)), zz7 (Gv.Ref.i (Gv.Node.l zz1)), zz7 (Gv.Ref.g (Gv.Node.l zz1)), zz7 (Gv.Ref.i (Gv.Node.r zz1)), zz7 (Gv.Ref.g (Gv.Node.r zz1)), zz7 (Gv.Part.n (Gv.Node.all zz1)), zz7 (Sh.Sz.n (Gv.Part.sum (Gv.Node.all zz1))), zz7 (Gv.Node.h zz1)]))])) ∧ (Prod.fst zz4 = false → Post (G (Value.bool (Prod.fst zz4)) [some (Sum.inl (59, [zz6, zz7 ti, zz7 tg])), some (Sum.inr (Sum.inr (Sum.inr (Rs.pool (Prod.snd zz4))))), some (Sum.inl (54, [zz7 ri, zz7 rg])), some (Sum.inl (32, [zz7 k0, zz7 k1, Value.bool k2, zz7 k3])), some (Sum.inl (63, [zz7 (Wv.It.k (Sh.Sl.it (Gv.Node.e zz1))), zz7 (Wv.It.i (Sh.Sl.it (Gv.Node.e zz1))), Value.bool (Sh.Sl.eaten (Gv.Node.e zz1)), zz7 (Sh.Sl.time (Gv.Node.e zz1)), zz7 (Gv.Ref.i (Gv.Node.l zz1)), zz7 (Gv.Ref.g (Gv.Node.l zz1)), zz7 (Gv.Ref.i (Gv.Node.r zz1)), zz7 (Gv.Ref.g (Gv.Node.r zz1)), zz7 (Gv.Part.n (Gv.Node.all zz1)), zz7 (Sh.Sz.n (Gv.Part.sum (Gv.Node.all zz1))), zz7 (Gv.Node.h zz1)]))]))) ∧ (decide (Gv.Ops.cmp Sh.O9 zz3 (Gv.Node.e zz1) < (0 : Int)) = false → (decide (Gv.Ops.cmp Sh.O9 zz3 (Gv.Node.e zz1) > (0 : Int)) = true → Vc (PP zz2 ∧ Gv.Deep Sh.O9 k zz2 (Gv.Node.r zz1)) ∧ (Prod.fst zz5 = true → Vc (PP (Prod.snd zz5)) ∧ Post (G (Value.bool (Prod.fst zz5)) [some (Sum.inl (59, [zz6, zz7 ti, zz7 tg])), some (Sum.inr (Sum.inr (Sum.inr (Rs.pool (Gv.tie Sh.O9 (Prod.snd zz5) (Gv.Ref.mk ri rg) zz1))))), some (Sum.inl (54, [zz7 ri, zz7 rg])), some (Sum.inl (32, [zz7 k0, zz7 k1, Value.bool k2, zz7 k3])), some (Sum.inl (63, [zz7 (Wv.It.k (Sh.Sl.it (Gv.Node.e zz1))), zz7 (Wv.It.i (Sh.Sl.it (Gv.Node.e zz1))), Value.bool (Sh.Sl.eaten (Gv.Node.e zz1)), zz7 (Sh.Sl.time (Gv.Node.e zz1)), zz7 (Gv.Ref.i (Gv.Node.l zz1)), zz7 (Gv.Ref.g (Gv.Node.l zz1)), zz7 (Gv.Ref.i (Gv.Node.r zz1)), zz7 (Gv.Ref.g (Gv.Node.r zz1)), zz7 (Gv.Part.n (Gv.Node.all zz1)), zz7 (Sh.Sz.n (Gv.Part.sum (Gv.Node.all zz1))), zz7 (Gv.Node.h zz1)]))])) ∧ (Prod.fst zz5 = false → Post (G (Value.bool (Prod.fst zz5)) [some (Sum.inl (59, [zz6, zz7 ti, zz7 tg])), some (Sum.inr (Sum.inr (Sum.inr (Rs.pool (Prod.snd zz5))))), some (Sum.inl (54, [zz7 ri, zz7 rg])), some (Sum.inl (32, [zz7 k0, zz7 k1, Value.bool k2, zz7 k3])), some (Sum.inl (63, [zz7 (Wv.It.k (Sh.Sl.it (Gv.Node.e zz1))), zz7 (Wv.It.i (Sh.Sl.it (Gv.Node.e zz1))), Value.bool (Sh.Sl.eaten (Gv.Node.e zz1)), zz7 (Sh.Sl.time (Gv.Node.e zz1)), zz7 (Gv.Ref.i (Gv.Node.l zz1)), zz7 (Gv.Ref.g (Gv.Node.l zz1)), zz7 (Gv.Ref.i (Gv.Node.r zz1)), zz7 (Gv.Ref.g (Gv.Node.r zz1)), zz7 (Gv.Part.n (Gv.Node.all zz1)), zz7 (Sh.Sz.n (Gv.Part.sum (Gv.Node.all zz1))), zz7 (Gv.Node.h zz1)]))]))) ∧ (decide (Gv.Ops.cmp Sh.O9 zz3 (Gv.Node.e zz1) > (0 : Int)) = false → Vc (PP zz2) ∧ Post (G (Value.bool true) [some (Sum.inl (59, [zz6, zz7 ti, zz7 tg])), some (Sum.inr (Sum.inr (Sum.inr (Rs.pool (Gv.tie Sh.O9 zz2 (Gv.Ref.mk ri rg) (Gv.Node.mk zz3 (Gv.Node.l zz1) (Gv.Node.r zz1) (Gv.Node.all zz1) (Gv.Node.h zz1))))))), some (Sum.inl (54, [zz7 ri, zz7 rg])), some (Sum.inl (32, [zz7 k0, zz7 k1, Value.bool k2, zz7 k3])), some (Sum.inl (63, [zz7 k0, zz7 k1, Value.bool k2, zz7 k3, zz7 (Gv.Ref.i (Gv.Node.l zz1)), zz7 (Gv.Ref.g (Gv.Node.l zz1)), zz7 (Gv.Ref.i (Gv.Node.r zz1)), zz7 (Gv.Ref.g (Gv.Node.r zz1)), zz7 (Gv.Part.n (Gv.Node.all zz1)), zz7 (Sh.Sz.n (Gv.Part.sum (Gv.Node.all zz1))), zz7 (Gv.Node.h zz1)]))]))))) ?_ (by kernel_rfl)
      intro zz6 zz7 zz1 zz2 zz3 zz4 zz5; subst zz5 zz4 zz3 zz2 zz1 zz7 zz6
      simp only [Gv.Deep] at hd
      have done : ∀ (b : Bool) (m' : Pl) (rest : Hp Rs), Gv.replace Sh.O9 (k + 1) m ⟨ri, rg⟩ (⟨⟨k0, k1⟩, k2, k3⟩ : Sh.Sl) = (b, m') → G (.bool b) ([some (.inl (59, [.pointer (some ⟨1, 0, none⟩), .int .i64 ti, .int .i64 tg])), some (.inr (.inr (.inr (.pool m'))))] ++ rest) := by
        intro b m' rest e
        subst hG
        refine ⟨[0, 1], ?_, rfl, ⟨.inl rfl, ?_, trivial⟩, rfl, rfl, rfl, rfl⟩
        · simp only [e]; rfl
        · simp only [e]; rfl
      clear hG
      repeat' (first | apply And.intro | apply Vc.mk | apply fits.mk | intro h | apply Post.mk)
      all_goals (try simp only [decide_eq_true_eq, decide_eq_false_iff_not, Nat.zero_add, ge_iff_le, Int.not_le, Int.not_lt, Int.toNat_natCast, beq_iff_eq, beq_eq_false_iff_ne, bne_iff_ne, bne_eq_false_iff_eq, Bool.not_eq_true', Bool.not_eq_false'] at *)
      all_goals first | contradiction | omega | (apply congrArg Value.bool; assumption) | exact congrArg Value.bool (decide_eq_true (by assumption)) | exact congrArg Value.bool (decide_eq_false (Int.not_lt.mpr (by assumption))) | exact ⟨rfl, by omega⟩ | exact rfl | (simp [*, -List.getD_eq_getElem?_getD]; done) | skip
      all_goals first | assumption | (simp only [Gv.see_ok, Gv.put1_ok, Gv.setN_ok, Gv.tie_ok, Gv.turnL_ok, Gv.turnR_ok, Gv.level_ok, Gv.replace_ok, Gv.hang_ok, Gv.link_ok, Gv.pickF_ok, Gv.glue_ok, Gv.pick_ok, Gv.cutF_ok, Gv.gather_ok, Gv.between_ok, Gv.first_ok, Gv.last_ok]; assumption) | skip
      all_goals first | (rw [Gv.Deep_see]; rcases hd with hd | hd; exfalso; omega; first | exact hd.1 | exact hd.2) | skip
      all_goals (refine done _ _ _ ?_; rw [Gv.replace]; (try dsimp only [Gv.W]); repeat' split)
      all_goals first | rfl | (exfalso; omega) | contradiction | exact Prod.ext (Eq.symm (by assumption)) rfl | (exfalso; simp_all; done)
    · cases hx
end Go.Proofs.Ytljdcboijegllaa.G9
