/- grove: a pool of nodes of slots: its functions: glue, pick, cut. -/
import Derived.Test.YtljdcboijegllaaG9Link
namespace Go.Proofs.Ytljdcboijegllaa.G9
open Go.Proofs.Ytljdcboijegllaa.Rx
set_option linter.unusedVariables false
set_option linter.unusedSimpArgs false
set_option maxRecDepth 100000
def glueP (K : Nat) : Prim Rs := fun args hh => match args, hh with
  | [.pointer (some ⟨0, 0, none⟩), .agg ⟨[.int .i64 ai, .int .i64 ag]⟩, .agg ⟨[.int .i64 ci, .int .i64 cg]⟩], [some (.inl (59, [.pointer (some ⟨1, 0, none⟩), .int .i64 ti, .int .i64 tg])), some (.inr (.inr (.inr (.pool m))))] => some ⟨PP m ∧ Gv.GlueD Sh.O9 K m ⟨ai, ag⟩ ⟨ci, cg⟩, .agg ⟨[.int .i64 (Gv.glue Sh.O9 K m ⟨ai, ag⟩ ⟨ci, cg⟩).1.i, .int .i64 (Gv.glue Sh.O9 K m ⟨ai, ag⟩ ⟨ci, cg⟩).1.g]⟩, none, [some (.inl (59, [.pointer (some ⟨1, 0, none⟩), .int .i64 ti, .int .i64 tg])), some (.inr (.inr (.inr (.pool (Gv.glue Sh.O9 K m ⟨ai, ag⟩ ⟨ci, cg⟩).2))))], [], [(0, 0)]⟩
  | _, _ => none
def TGlue (K : Nat) : Tab Rs := [(48, liftC zN 2 (con1 (pickFP K))), (49, liftC zN 2 (con1 (linkP K)))]
theorem glue_ok (K : Nat) : ConOk D Try.prog 38 (con1 (glueP K)) := by
  refine con1_ok (prim_at (fn := Try.f38) (root := codeOf Try.f38) (by kernel_rfl) (by kernel_rfl) (by kernel_rfl) fun args hh x hx => ?_)
  unfold glueP at hx
  split at hx
  · rename_i ai ag ci cg ti tg m
    injection hx with hx
    subst hx
    refine ⟨by first | exact Nat.le_refl _ | exact Nat.zero_le _ | exact Nat.le_succ _, noLit rfl, (fun hw => by first | rfl | cases hw), fun _ hv => ?_⟩
    obtain ⟨hp, hd⟩ := hv
    generalize hG : Rx.Ends (R := Rs) _ _ = G
    refine rx_ok (T := (TGlue K)) (show TabOk D Try.prog (TGlue K) from ⟨liftC_ok _ _ (pickF_ok K), liftC_ok _ _ (link_ok K), trivial⟩) mixed 200 ?_
    refine as_text (q := let zz7 := Value.int IntKind.i64; let zz1 := (if false = true then !(ci == (0 : Int) && (cg == (0 : Int) && true)) else ci == (0 : Int) && (cg == (0 : Int) && true)); let zz2 := (Prod.snd (Prod.snd (Gv.pickF Sh.O9 K m (Gv.Ref.mk ci cg)))); let zz3 := (Prod.fst (Prod.snd (Gv.pickF Sh.O9 K m (Gv.Ref.mk ci cg)))); let zz4 := (Prod.fst (Gv.pickF Sh.O9 K m (Gv.Ref.mk ci cg))); let zz5 := (Gv.Ref.i (Prod.fst (Gv.link Sh.O9 K zz2 (Gv.Ref.mk ai ag) zz3 zz4))); let zz6 := (Gv.Ref.g (Prod.fst (Gv.link Sh.O9 K zz2 (Gv.Ref.mk ai ag) zz3 zz4))); (zz1 = true → Post (G (Value.agg (Array.mk [zz7 ai, zz7 ag])) [some (Sum.inl (59, [Value.pointer (some (Addr.mk 1 0 none)), zz7 ti, zz7 tg])), some (Sum.inr (Sum.inr (Sum.inr (Rs.pool m)))), some (Sum.inl (54, [zz7 ai, zz7 ag])), some (Sum.inl (54, [zz7 ci, zz7 cg])), some (Sum.inl (54, [zz7 ai, zz7 ag]))])) ∧ (zz1 = false → Vc (PP m ∧ Gv.PickFD Sh.O9 K m (Gv.Ref.mk ci cg)) ∧ Vc (PP zz2 ∧ Gv.LinkD Sh.O9 K zz2 (Gv.Ref.mk ai ag) zz3 zz4) ∧ Post (G (Value.agg (Array.mk [zz7 zz5, zz7 zz6])) [some (Sum.inl (59, [Value.pointer (some (Addr.mk 1 0 none)), zz7 ti, zz7 tg])), some (Sum.inr (Sum.inr (Sum.inr (Rs.pool (Prod.snd (Gv.link Sh.O9 K zz2 (Gv.Ref.mk ai ag) zz3 zz4)))))), some (Sum.inl (54, [zz7 ai, zz7 ag])), some (Sum.inl (54, [zz7 ci, zz7 cg])), some (Sum.inl (54, [zz7 zz5, zz7 zz6])), some (Sum.inl (54, [zz7 (Gv.Ref.i zz4), zz7 (Gv.Ref.g zz4)])), some (Sum.inl (54, [zz7 (Gv.Ref.i zz3), zz7 (Gv.Ref.g zz3)]))]))) ?_ (by kernel_rfl)
    intro zz7 zz1 zz2 zz3 zz4 zz5 zz6; subst zz6 zz5 zz4 zz3 zz2 zz1 zz7
    unfold Gv.GlueD at hd
    have done : ∀ (i g : Int) (m' : Pl) (rest : Hp Rs), Gv.glue Sh.O9 K m ⟨ai, ag⟩ ⟨ci, cg⟩ = (⟨i, g⟩, m') → G (.agg ⟨[.int .i64 i, .int .i64 g]⟩) ([some (.inl (59, [.pointer (some ⟨1, 0, none⟩), .int .i64 ti, .int .i64 tg])), some (.inr (.inr (.inr (.pool m'))))] ++ rest) := by
      intro i g m' rest e
      subst hG
      refine ⟨[0, 1], ?_, rfl, ⟨.inl rfl, ?_, trivial⟩, rfl, rfl, rfl, rfl⟩
      · simp only [e]; rfl
      · simp only [e]; rfl
    clear hG
    try simp only [Gv.eq0, Gv.ref_eta]
    repeat' (first | apply And.intro | apply Vc.mk | apply fits.mk | intro h | apply Post.mk)
    all_goals (try simp only [decide_eq_true_eq, decide_eq_false_iff_not, Nat.zero_add, ge_iff_le, Int.not_le, Int.not_lt, Int.toNat_natCast, beq_iff_eq, beq_eq_false_iff_ne, bne_iff_ne, bne_eq_false_iff_eq, Bool.not_eq_true', Bool.not_eq_false'] at *)
    all_goals first | contradiction | omega | (apply congrArg Value.bool; assumption) | exact congrArg Value.bool (decide_eq_true (by assumption)) | exact congrArg Value.bool (decide_eq_false (Int.not_lt.mpr (by assumption))) | exact ⟨rfl, by omega⟩ | exact rfl | (simp [*, -List.getD_eq_getElem?_getD]; done) | skip
    all_goals first | assumption | (simp only [Gv.see_ok, Gv.put1_ok, Gv.setN_ok, Gv.tie_ok, Gv.turnL_ok, Gv.turnR_ok, Gv.level_ok, Gv.replace_ok, Gv.hang_ok, Gv.link_ok, Gv.pickF_ok, Gv.glue_ok, Gv.pick_ok, Gv.cutF_ok, Gv.gather_ok, Gv.between_ok, Gv.first_ok, Gv.last_ok]; assumption) | skip
    all_goals first | (rw [if_neg (by assumption)] at hd; first | exact hd.1 | exact hd.2) | skip
    all_goals (refine done _ _ _ _ ?_; unfold Gv.glue; (try dsimp only [Gv.W]); repeat' split)
    all_goals first | rfl | (exfalso; omega) | contradiction | exact Prod.ext (Eq.symm (by assumption)) rfl | (exfalso; simp_all; done)
  · cases hx
def pickP (K : Nat) (k : Nat) : Prim Rs := fun args hh => match args, hh with
  | [.pointer (some ⟨0, 0, none⟩), .agg ⟨[.int .i64 ri, .int .i64 rg]⟩, .agg ⟨[.int .i64 k0, .int .i64 k1, .bool k2, .int .i64 k3]⟩], [some (.inl (59, [.pointer (some ⟨1, 0, none⟩), .int .i64 ti, .int .i64 tg])), some (.inr (.inr (.inr (.pool m))))] => some ⟨PP m ∧ Gv.PickD Sh.O9 K k m ⟨ri, rg⟩ (⟨⟨k0, k1⟩, k2, k3⟩ : Sh.Sl), .tuple #[.agg ⟨[.int .i64 (Gv.pick Sh.O9 K k m ⟨ri, rg⟩ (⟨⟨k0, k1⟩, k2, k3⟩ : Sh.Sl)).1.i, .int .i64 (Gv.pick Sh.O9 K k m ⟨ri, rg⟩ (⟨⟨k0, k1⟩, k2, k3⟩ : Sh.Sl)).1.g]⟩, .agg ⟨[.int .i64 (Gv.pick Sh.O9 K k m ⟨ri, rg⟩ (⟨⟨k0, k1⟩, k2, k3⟩ : Sh.Sl)).2.1.i, .int .i64 (Gv.pick Sh.O9 K k m ⟨ri, rg⟩ (⟨⟨k0, k1⟩, k2, k3⟩ : Sh.Sl)).2.1.g]⟩], none, [some (.inl (59, [.pointer (some ⟨1, 0, none⟩), .int .i64 ti, .int .i64 tg])), some (.inr (.inr (.inr (.pool (Gv.pick Sh.O9 K k m ⟨ri, rg⟩ (⟨⟨k0, k1⟩, k2, k3⟩ : Sh.Sl)).2.2))))], [], [(0, 0)]⟩
  | _, _ => none
def TPick (K : Nat) (k : Nat) : Tab Rs := [(20, liftC zN 2 (con1 Sh.scmpP)), (34, liftC zN 2 (con1 lookP)), (39, liftC zN 2 (con1 levelP)), (38, liftC zN 2 (con1 (glueP K))), (25, liftC zN 2 (con1 (pickP K k)))]
theorem pick_ok (K : Nat) : ∀ k : Nat, ConOk D Try.prog 25 (con1 (pickP K k))
  | 0 => by
    refine con1_ok (prim_at (fn := Try.f25) (root := codeOf Try.f25) (by kernel_rfl) (by kernel_rfl) (by kernel_rfl) fun args hh x hx => ?_)
    unfold pickP at hx
    split at hx
    · rename_i ri rg k0 k1 k2 k3 ti tg m
      injection hx with hx
      subst hx
      refine ⟨by first | exact Nat.le_refl _ | exact Nat.zero_le _ | exact Nat.le_succ _, noLit rfl, (fun hw => by first | rfl | cases hw), fun _ hv => ?_⟩
      exact False.elim (And.right hv)
    · cases hx
  | k + 1 => by
    have ih := pick_ok K k
    refine con1_ok (prim_at (fn := Try.f25) (root := codeOf Try.f25) (by kernel_rfl) (by kernel_rfl) (by kernel_rfl) fun args hh x hx => ?_)
    unfold pickP at hx
    split at hx
    · rename_i ri rg k0 k1 k2 k3 ti tg m
      injection hx with hx
      subst hx
      refine ⟨by first | exact Nat.le_refl _ | exact Nat.zero_le _ | exact Nat.le_succ _, noLit rfl, (fun hw => by first | rfl | cases hw), fun _ hv => ?_⟩
      obtain ⟨hp, hd⟩ := hv
      generalize hG : Rx.Ends (R := Rs) _ _ = G
      refine rx_ok (T := (TPick K k)) (show TabOk D Try.prog (TPick K k) from ⟨liftC_ok _ _ Sh.scmp_ok, liftC_ok _ _ look_ok, liftC_ok _ _ level_ok, liftC_ok _ _ (glue_ok K), liftC_ok _ _ ih, trivial⟩) mixed 200 ?_
      refine as_text (q := let zz19 := Value.pointer (some (Addr.mk 1 0 none)); let zz20 := Value.int IntKind.i64; let zz1 := (Gv.lk Sh.O9 m (Gv.Ref.mk ri rg)); let zz2 := (Array.mk [zz20 ri, zz20 rg]); let zz3 := (Gv.see m (Gv.Ref.mk ri rg)); let zz4 := (Gv.Node.e zz1); let zz5 := (Gv.Node.l zz1); let zz6 := (Gv.Node.r zz1); let zz7 := (Sh.Sz.n (Gv.Part.sum (Gv.Node.all zz1))); let zz8 := (Sh.Sl.mk (Wv.It.mk k0 k1) k2 k3); let zz9 := (Prod.fst (Prod.snd (Gv.pick Sh.O9 K k zz3 zz5 zz8))); let zz10 := (if false = true then !(Gv.Ref.i zz9 == (0 : Int) && (Gv.Ref.g zz9 == (0 : Int) && true)) else Gv.Ref.i zz9 == (0 : Int) && (Gv.Ref.g zz9 == (0 : Int) && true)); let zz11 := (Prod.snd (Prod.snd (Gv.pick Sh.O9 K k zz3 zz5 zz8))); let zz12 := (Prod.fst (Gv.pick Sh.O9 K k zz3 zz5 zz8)); let zz13 := (Gv.level Sh.O9 zz11 (Gv.Ref.mk ri rg) (Gv.Node.mk zz4 zz12 zz6 (Gv.Node.all zz1) (Gv.Node.h zz1))); let zz14 := (Prod.fst (Prod.snd (Gv.pick Sh.O9 K k zz3 zz6 zz8))); let zz15 := (if false = true then !(Gv.Ref.i zz14 == (0 : Int) && (Gv.Ref.g zz14 == (0 : Int) && true)) else Gv.Ref.i zz14 == (0 : Int) && (Gv.Ref.g zz14 == (0 : Int) && true)); let zz16 := (Prod.snd (Prod.snd (Gv.pick Sh.O9 K k zz3 zz6 zz8))); let zz17 := (Prod.fst (Gv.pick Sh.O9 K k zz3 zz6 zz8)); let zz18 := (Gv.level Sh.O9 zz16 (Gv.Ref.mk ri rg) (Gv.Node.mk zz4 zz5 zz17 (Gv.Node.all zz1) (Gv.Node.h zz1))); Vc (PP m) ∧ ((Gv.Node.h zz1 == (0 : Int)) = true → Post (G (Value.tuple (Array.mk [Value.agg zz2, Value.agg (Array.mk [zz20 0, zz20 0])])) [some (Sum.inl (59, [zz19, zz20 ti, zz20 tg])), some (Sum.inr (Sum.inr (Sum.inr (Rs.pool zz3)))), some (Sum.inl (54, [zz20 ri, zz20 rg])), some (Sum.inl (32, [zz20 k0, zz20 k1, Value.bool k2, zz20 k3])), some (Sum.inl (54, [zz20 ri, zz20 rg])), some (Sum.inl (54, [zz20 0, zz20 0])), some (Sum.inl (63, [zz20 (Wv.It.k (Sh.Sl.it zz4)), zz20 (Wv.It.i (Sh.Sl.it zz4)), Value.bool (Sh.Sl.eaten zz4), zz20 (Sh.Sl.time zz4), zz20 (Gv.Ref.i zz5), zz20 (Gv.Ref.g zz5), zz20 (Gv.Ref.i zz6), zz20 (Gv.Ref.g zz6), zz20 (Gv.Part.n (Gv.Node.all zz1)), zz20 zz7, zz20 (Gv.Node.h zz1)]))])) ∧ ((Gv.Node.h zz1 == (0 : Int)) = false → Vc True ∧ Vc True ∧ (decide (Gv.Ops.cmp Sh.O9 zz8 zz4 < (0 : Int)) = true → Vc (PP zz3 ∧ Gv.PickD Sh.O9 K k zz3 zz5 zz8) ∧ (zz10 = true → Post (G (Value.tuple (Array.mk [Value.agg zz2, Value.agg (Array.mk [zz20 (Gv.Ref.i zz9), zz20 (Gv.Ref.g zz9)])])) [some (Sum.inl (59, [zz19, zz20 ti, zz20 tg])), some (Sum.inr (Sum.inr (Sum.inr (Rs.pool zz11)))), some (Sum.inl (54, [zz20 ri, zz20 rg])), some (Sum.inl (32, [zz20 k0, zz20 k1, Value.bool k2, zz20 k3])), some (Sum.inl (54, [zz20 ri, zz20 rg])), some (Sum.inl (54, [zz20 (Gv.Ref.i zz9), zz20 (Gv.Ref.g zz9)])), some (Sum.inl (63, [zz20 (Wv.It.k (Sh.Sl.it zz4)), zz20 (Wv.It.i (Sh.Sl.it zz4)), Value.bool (Sh.Sl.eaten zz4), zz20 (Sh.Sl.time zz4), zz20 (Gv.Ref.i zz12), zz20 (Gv.Ref.g zz12), zz20 (Gv.Ref.i zz6), zz20 (Gv.Ref.g zz6), zz20 (Gv.Part.n (Gv.Node.all zz1)), zz20 zz7, zz20 (Gv.Node.h zz1)]))])) ∧ (zz10 = false → Vc (PP zz11) ∧ Post (G (Value.tuple (Array.mk [Value.agg (Array.mk [zz20 (Gv.Ref.i (Prod.fst zz13)), zz20 (Gv.Ref.g (Prod.fst zz13))]), Value.agg (Array.mk [zz20 (Gv.Ref.i zz9), zz20 (Gv.Ref.g zz9)])])) [some (Sum.inl (59, [zz19, zz20 ti, zz20 tg])), some (Sum.inr (Sum.inr (Sum.inr (Rs.pool (Prod.snd zz13))))), some (Sum.inl (54, [zz20 ri, zz20 rg])), some (Sum.inl (32, [zz20 k0, zz20 k1, Value.bool k2, zz20 k3])), some (Sum.inl (54, [zz20 (Gv.Ref.i (Prod.fst zz13)), zz20 (Gv.Ref.g (Prod.fst zz13))])), some (Sum.inl (54, [zz20 (Gv.Ref.i zz9), zz20 (Gv.Ref.g zz9)])), some (Sum.inl (63, [zz20 (Wv.It.k (Sh.Sl.it zz4)), zz20 (Wv.It.i (Sh.Sl.it zz4)), Value.bool (Sh.Sl.eaten zz4), zz20 (Sh.Sl.time zz4), zz20 (Gv.Ref.i zz12), zz20 (Gv.Ref.g zz12), zz20 (Gv.Ref.i zz6), zz20 (Gv.Ref.g zz6), zz20 (Gv.Part.n (Gv.Node.all zz1)), zz20 zz7, zz20 (Gv.Node.h zz1)]))]))) ∧ (decide (Gv.Ops.cmp Sh.O9 zz8 zz4 < (0 : Int)) = false → (decide (Gv.Ops.cmp Sh.O9 zz8 zz4 > (0 : Int)) = true → Vc (PP zz3 ∧ Gv.PickD Sh.O9 K k zz3 zz6 zz8) ∧ (zz15 = true → Post (G (Value.tuple (Array.mk [Value.agg zz2, Value.agg (Array.mk [zz20 (Gv.Ref.i zz14), zz20 (Gv.Ref.g zz14)])])) [some (Sum.inl (59, [zz19, zz20 ti, zz20 tg])), some (Sum.inr (Sum.inr (Sum.inr (Rs.pool zz16)))), some (Sum.inl (54, [zz20 ri, zz20 rg])), some (Sum.inl (32, [zz20 k0, zz20 k1, Value.bool k2, zz20 k3])), some (Sum.inl (54, [zz20 ri, zz20 rg])), some (Sum.inl (54, [zz20 (Gv.Ref.i zz14), zz20 (Gv.Ref.g zz14)])), some (Sum.inl (63, [zz20 (Wv.It.k (Sh.Sl.it zz4)), zz20 (Wv.It.i (Sh.Sl.it zz4)), Value.bool (Sh.Sl.eaten zz4), zz20 (Sh.Sl.time zz4), zz20 (Gv.Ref.i zz5), zz20 (Gv.Ref.g zz5), zz20 (Gv.Ref.i zz17), zz20 (Gv.Ref.g zz17), zz20 (Gv.Part.n (Gv.Node.all zz1)), zz20 zz7, zz20 (Gv.Node.h zz1)]))])) ∧ (zz15 = false → Vc (PP zz16) ∧ Post (G (Value.tuple (Array.mk [Value.agg (Array.mk [zz20 (Gv.Ref.i (Prod.fst zz18)), zz20 (Gv.Ref.g (Prod.fst zz18))]), Value.agg (Array.mk [zz20 (Gv.Ref.i zz14), zz20 (Gv.Ref.g zz14)])])) [some (Sum.inl (59, [zz19, zz20 ti, zz20 tg])), some (Sum.inr (Sum.inr (Sum.inr (Rs.pool (Prod.snd zz18))))), some (Sum.inl (54, [zz20 ri, zz20 rg])), some (Sum.inl (32, [zz20 k0, zz20 k1, Value.bool k2, zz20 k3])), some (Sum.inl (54, [zz20 (Gv.Ref.i (Prod.fst zz18)), zz20 (Gv.Ref.g (Prod.fst zz18))])), some (Sum.inl (54, [zz20 (Gv.Ref.i zz14), zz20 (Gv.Ref.g zz14)])), some (Sum.inl (63, [zz20 (Wv.It.k (Sh.Sl.it zz4)), zz20 (Wv.It.i (Sh.Sl.it zz4)), Value.bool (Sh.Sl.eaten zz4), zz20 (Sh.Sl.time zz4), zz20 (Gv.Ref.i zz5), zz20 (Gv.Ref.g zz5), zz20 (Gv.Ref.i zz17), zz20 (Gv.Ref.g zz17), zz20 (Gv.Part.n (Gv.Node.all zz1)), zz20 zz7, zz20 (Gv.Node.h zz1)]))]))) ∧ (decide (Gv.Ops.cmp Sh.O9 zz8 zz4 > (0 : Int)) = false → Vc (PP zz3 ∧ Gv.GlueD Sh.O9 K zz3 zz5 zz6) ∧ Post (G (Value.tuple (Array.mk [Value.agg (Array.mk [zz20 (Gv.Ref.i (Prod.fst (Gv.glue Sh.O9 K zz3 zz5 zz6))), zz20 (Gv.Ref.g (Prod.fst (Gv.glue Sh.O9 K zz3 zz5 zz6)))]), Value.agg zz2])) [some (Sum.inl (59, [zz19, zz20 ti, zz20 tg])), some (Sum.inr (Sum.inr (Sum.inr (Rs.pool (Prod.snd (Gv.glue Sh.O9 K zz3 zz5 zz6)))))), some (Sum.inl (54, [zz20 ri, zz20 rg])), some (Sum.inl (32, [zz20 k0, zz20 k1, Value.bool k2, zz20 k3])), some (Sum.inl (54, [zz20 (Gv.Ref.i (Prod.fst (Gv.glue Sh.O9 K zz3 zz5 zz6))), zz20 (Gv.Ref.g (Prod.fst (Gv.glue Sh.O9 K zz3 zz5 zz6)))])), some (Sum.inl (54, [zz20 ri, zz20 rg])), some (Sum.inl (63, [zz20 (Wv.It.k (Sh.Sl.it zz4)), zz20 (Wv.It.i (Sh.Sl.it zz4)), Value.bool (Sh.Sl.eaten zz4), zz20 (Sh.Sl.time zz4), zz20 (Gv.Ref.i zz5), zz20 (Gv.Ref.g zz5), zz20 (Gv.Ref.i zz6), zz20 (Gv.Ref.g zz6), zz20 (Gv.Part.n (Gv.Node.all zz1)), zz20 zz7, zz20 (Gv.Node.h zz1)]))]))))) ?_ (by kernel_rfl)
      intro zz19 zz20 zz1 zz2 zz3 zz4 zz5 zz6 zz7 zz8 zz9 zz10 zz11 zz12 zz13 zz14 zz15 zz16 zz17 zz18; subst zz18 zz17 zz16 zz15 zz14 zz13 zz12 zz11 zz10 zz9 zz8 zz7 zz6 zz5 zz4 zz3 zz2 zz1 zz20 zz19
      rw [Gv.PickD] at hd
      have done : ∀ (i g i2 g2 : Int) (m' : Pl) (rest : Hp Rs), Gv.pick Sh.O9 K (k + 1) m ⟨ri, rg⟩ (⟨⟨k0, k1⟩, k2, k3⟩ : Sh.Sl) = (⟨i, g⟩, ⟨i2, g2⟩, m') → G (.tuple #[.agg ⟨[.int .i64 i, .int .i64 g]⟩, .agg ⟨[.int .i64 i2, .int .i64 g2]⟩]) ([some (.inl (59, [.pointer (some ⟨1, 0, none⟩), .int .i64 ti, .int .i64 tg])), some (.inr (.inr (.inr (.pool m'))))] ++ rest) := by
        intro i g i2 g2 m' rest e
        subst hG
        refine ⟨[0, 1], ?_, rfl, ⟨.inl rfl, ?_, trivial⟩, rfl, rfl, rfl, rfl⟩
        · simp only [e]; rfl
        · simp only [e]; rfl
      clear hG
      try simp only [Gv.eq0, Gv.ref_eta]
      repeat' (first | apply And.intro | apply Vc.mk | apply fits.mk | intro h | apply Post.mk)
      all_goals (try simp only [decide_eq_true_eq, decide_eq_false_iff_not, Nat.zero_add, ge_iff_le, Int.not_le, Int.not_lt, Int.toNat_natCast, beq_iff_eq, beq_eq_false_iff_ne, bne_iff_ne, bne_eq_false_iff_eq, Bool.not_eq_true', Bool.not_eq_false'] at *)
      all_goals first | contradiction | omega | (apply congrArg Value.bool; assumption) | exact congrArg Value.bool (decide_eq_true (by assumption)) | exact congrArg Value.bool (decide_eq_false (Int.not_lt.mpr (by assumption))) | exact ⟨rfl, by omega⟩ | exact rfl | (simp [*, -List.getD_eq_getElem?_getD]; done) | skip
      all_goals first | assumption | (simp only [Gv.see_ok, Gv.put1_ok, Gv.setN_ok, Gv.tie_ok, Gv.turnL_ok, Gv.turnR_ok, Gv.level_ok, Gv.replace_ok, Gv.hang_ok, Gv.link_ok, Gv.pickF_ok, Gv.glue_ok, Gv.pick_ok, Gv.cutF_ok, Gv.gather_ok, Gv.between_ok, Gv.first_ok, Gv.last_ok]; assumption) | skip
      all_goals first | (rw [if_neg (by assumption), if_pos (by assumption)] at hd; exact hd) | (rw [if_neg (by assumption), if_neg (by omega), if_pos (by assumption)] at hd; exact hd) | (rw [if_neg (by assumption), if_neg (by omega), if_neg (by omega)] at hd; exact hd) | skip
      all_goals (refine done _ _ _ _ _ _ ?_; rw [Gv.pick]; (try dsimp only [Gv.W]); repeat' split)
      all_goals first | rfl | (exfalso; omega) | contradiction | exact Prod.ext (Eq.symm (by assumption)) rfl | (exfalso; simp_all; done)
    · cases hx
end Go.Proofs.Ytljdcboijegllaa.G9
