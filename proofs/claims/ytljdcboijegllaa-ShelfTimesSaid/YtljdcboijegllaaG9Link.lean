/- grove: a pool of nodes of slots: its functions: link, pickFirst, glue. -/
import Derived.Test.YtljdcboijegllaaG9Hang
namespace Go.Proofs.Ytljdcboijegllaa.G9
open Go.Proofs.Ytljdcboijegllaa.Rx
set_option linter.unusedVariables false
set_option linter.unusedSimpArgs false
set_option maxRecDepth 100000
def pickFP  (k : Nat) : Prim Rs := fun args hh => match args, hh with
  | [.pointer (some ⟨0, 0, none⟩), .agg ⟨[.int .i64 ri, .int .i64 rg]⟩], [some (.inl (59, [.pointer (some ⟨1, 0, none⟩), .int .i64 ti, .int .i64 tg])), some (.inr (.inr (.inr (.pool m))))] => some ⟨PP m ∧ Gv.PickFD Sh.O9 k m ⟨ri, rg⟩, .tuple #[.agg ⟨[.int .i64 (Gv.pickF Sh.O9 k m ⟨ri, rg⟩).1.i, .int .i64 (Gv.pickF Sh.O9 k m ⟨ri, rg⟩).1.g]⟩, .agg ⟨[.int .i64 (Gv.pickF Sh.O9 k m ⟨ri, rg⟩).2.1.i, .int .i64 (Gv.pickF Sh.O9 k m ⟨ri, rg⟩).2.1.g]⟩], none, [some (.inl (59, [.pointer (some ⟨1, 0, none⟩), .int .i64 ti, .int .i64 tg])), some (.inr (.inr (.inr (.pool (Gv.pickF Sh.O9 k m ⟨ri, rg⟩).2.2))))], [], [(0, 0)]⟩
  | _, _ => none
def TPickF (k : Nat) : Tab Rs := [(34, liftC zN 2 (con1 lookP)), (39, liftC zN 2 (con1 levelP)), (48, liftC zN 2 (con1 (pickFP k)))]
theorem pickF_ok : ∀ k : Nat, ConOk D Try.prog 48 (con1 (pickFP k))
  | 0 => by
    refine con1_ok (prim_at (fn := Try.f48) (root := codeOf Try.f48) (by kernel_rfl) (by kernel_rfl) (by kernel_rfl) fun args hh x hx => ?_)
    unfold pickFP at hx
    split at hx
    · rename_i ri rg ti tg m
      injection hx with hx
      subst hx
      refine ⟨by first | exact Nat.le_refl _ | exact Nat.zero_le _ | exact Nat.le_succ _, noLit rfl, (fun hw => by first | rfl | cases hw), fun _ hv => ?_⟩
      exact False.elim (And.right hv)
    · cases hx
  | k + 1 => by
    have ih := pickF_ok k
    refine con1_ok (prim_at (fn := Try.f48) (root := codeOf Try.f48) (by kernel_rfl) (by kernel_rfl) (by kernel_rfl) fun args hh x hx => ?_)
    unfold pickFP at hx
    split at hx
    · rename_i ri rg ti tg m
      injection hx with hx
      subst hx
      refine ⟨by first | exact Nat.le_refl _ | exact Nat.zero_le _ | exact Nat.le_succ _, noLit rfl, (fun hw => by first | rfl | cases hw), fun _ hv => ?_⟩
      obtain ⟨hp, hd⟩ := hv
      generalize hG : Rx.Ends (R := Rs) _ _ = G
      refine rx_ok (T := (TPickF k)) (show TabOk D Try.prog (TPickF k) from ⟨liftC_ok _ _ look_ok, liftC_ok _ _ level_ok, liftC_ok _ _ ih, trivial⟩) mixed 200 ?_
      refine as_text (q := let zz9 := Value.int IntKind.i64; let zz1 := (Gv.lk Sh.O9 m (Gv.Ref.mk ri rg)); let zz2 := (Gv.Node.l zz1); let zz3 := (if false = true then !(Gv.Ref.i zz2 == (0 : Int) && (Gv.Ref.g zz2 == (0 : Int) && true)) else Gv.Ref.i zz2 == (0 : Int) && (Gv.Ref.g zz2 == (0 : Int) && true)); let zz4 := (Gv.Ref.i (Gv.Node.r zz1)); let zz5 := (Gv.Ref.g (Gv.Node.r zz1)); let zz6 := (Gv.see m (Gv.Ref.mk ri rg)); let zz7 := (Prod.fst (Gv.pickF Sh.O9 k zz6 zz2)); let zz8 := (Gv.level Sh.O9 (Prod.snd (Prod.snd (Gv.pickF Sh.O9 k zz6 zz2))) (Gv.Ref.mk ri rg) (Gv.Node.mk (Gv.Node.e zz1) zz7 (Gv.Node.r zz1) (Gv.Node.all zz1) (Gv.Node.h zz1))); Vc (PP m) ∧ (zz3 = true → Post (G (Value.tuple (Array.mk [Value.agg (Array.mk [zz9 zz4, zz9 zz5]), Value.agg (Array.mk [zz9 ri, zz9 rg])])) [some (Sum.inl (59, [Value.pointer (some (Addr.mk 1 0 none)), zz9 ti, zz9 tg])), some (Sum.inr (Sum.inr (Sum.inr (Rs.pool zz6)))), some (Sum.inl (54, [zz9 ri, zz9 rg])), some (Sum.inl (54, [zz9 zz4, zz9 zz5])), some (Sum.inl (54, [zz9 ri, zz9 rg])), some (Sum.inl (63, [zz9 (Wv.It.k (Sh.Sl.it (Gv.Node.e zz1))), zz9 (Wv.It.i (Sh.Sl.it (Gv.Node.e zz1))), Value.bool (Sh.Sl.eaten (Gv.Node.e zz1)), zz9 (Sh.Sl.time (Gv.Node.e zz1)), zz9 (Gv.Ref.i zz2), zz9 (Gv.Ref.g zz2), zz9 zz4, zz9 zz5, zz9 (Gv.Part.n (Gv.Node.all zz1)), zz9 (Sh.Sz.n (Gv.Part.sum (Gv.Node.all zz1))), zz9 (Gv.Node.h zz1)]))])) ∧ (zz3 = false → Vc (PP zz6 ∧ Gv.PickFD Sh.O9 k zz6 zz2) ∧ Vc (PP (Prod.snd (Prod.snd (Gv.pickF Sh.O9 k zz6 zz2)))) ∧ Post (G (Value.tuple (Array.mk [Value.agg (Array.mk [zz9 (Gv.Ref.i (Prod.fst zz8)), zz9 (Gv.Ref.g (Prod.fst zz8))]), Value.agg (Array.mk [zz9 (Gv.Ref.i (Prod.fst (Prod.snd (Gv.pickF Sh.O9 k zz6 zz2)))), zz9 (Gv.Ref.g (Prod.fst (Prod.snd (Gv.pickF Sh.O9 k zz6 zz2))))])])) [some (Sum.inl (59, [Value.pointer (some (Addr.mk 1 0 none)), zz9 ti, zz9 tg])), some (Sum.inr (Sum.inr (Sum.inr (Rs.pool (Prod.snd zz8))))), some (Sum.inl (54, [zz9 ri, zz9 rg])), some (Sum.inl (54, [zz9 (Gv.Ref.i (Prod.fst zz8)), zz9 (Gv.Ref.g (Prod.fst zz8))])), some (Sum.inl (54, [zz9 (Gv.Ref.i (Prod.fst (Prod.snd (Gv.pickF Sh.O9 k zz6 zz2)))), zz9 (Gv.Ref.g (Prod.fst (Prod.snd (Gv.pickF Sh.O9 k zz6 zz2))))])), some (Sum.inl (63, [zz9 (Wv.It.k (Sh.Sl.it (Gv.Node.e zz1))), zz9 (Wv.It.i (Sh.Sl.it (Gv.Node.e zz1))), Value.bool (Sh.Sl.eaten (Gv.Node.e zz1)), zz9 (Sh.Sl.time (Gv.Node.e zz1)), zz9 (Gv.Ref.i zz7), zz9 (Gv.Ref.g zz7), zz9 zz4, zz9 zz5, zz9 (Gv.Part.n (Gv.Node.all zz1)), zz9 (Sh.Sz.n (Gv.Part.sum (Gv.Node.all zz1))), zz9 (Gv.Node.h zz1)]))]))) ?_ (by kernel_rfl)
      intro zz9 zz1 zz2 zz3 zz4 zz5 zz6 zz7 zz8; subst zz8 zz7 zz6 zz5 zz4 zz3 zz2 zz1 zz9
      simp only [Gv.PickFD] at hd
      have done : ∀ (i g i2 g2 : Int) (m' : Pl) (rest : Hp Rs), Gv.pickF Sh.O9 (k + 1) m ⟨ri, rg⟩ = (⟨i, g⟩, ⟨i2, g2⟩, m') → G (.tuple #[.agg ⟨[.int .i64 i, .int .i64 g]⟩, .agg ⟨[.int .i64 i2, .int .i64 g2]⟩]) ([some (.inl (59, [.pointer (some ⟨1, 0, none⟩), .int .i64 ti, .int .i64 tg])), some (.inr (.inr (.inr (.pool m'))))] ++ rest) := by
        intro i g i2 g2 m' rest e
        subst hG
        refine ⟨[0, 1], ?_, rfl, ⟨.inl rfl, ?_, trivial⟩, rfl, rfl, rfl, rfl⟩
        · simp only [e]; rfl
        · simp only [e]; rfl
      clear hG
      try simp only [Gv.eq0, Gv.ref_eta]
      repeat' (first | apply And.intro | apply Vc.mk | apply fits.mk | intro h | apply Post.mk)
      all_goals (try simp only [decide_eq_true_eq, decide_eq_false_iff_not, Nat.zero_add, ge_iff_le, Int.not_le, Int.not_lt, Int.toNat_natCast, beq_iff_eq, beq_eq_false_iff_ne, bne_iff_ne, bne_eq_false_iff_eq, Bool.not_eq_true', Bool.not_eq_false'] at *)
      all_goals first | contradiction | omega | (apply congrArg Value.bool; assumption) | exact congrArg Value.bool (decide_eq_true (by assumption)) | exact congrArg Value.bool (decide_eq_false (Int.not_lt.mpr (by assumption))) | exact ⟨rfl, by omega⟩ | exact rfl | (simp [*, -List.getD_eq_getElem?_getD]; done) | skip
      all_goals first | assumption | (simp only [Gv.see_ok, Gv.put1_ok, Gv.setN_ok, Gv.tie_ok, Gv.turnL_ok, Gv.turnR_ok, Gv.level_ok, Gv.replace_ok, Gv.hang_ok, Gv.link_ok, Gv.pickF_ok, Gv.glue_ok, Gv.pick_ok, Gv.cutF_ok, Gv.gather_ok, Gv.between_ok, Gv.first_ok, Gv.last_ok]; assumption) | skip
      all_goals first | (rw [Gv.PickFD_see]; first | assumption | (rw [if_neg (by assumption), Gv.PickFD_see] at hd; exact hd)) | skip
      all_goals (refine done _ _ _ _ _ _ ?_; rw [Gv.pickF]; (try dsimp only [Gv.W]); repeat' split)
      all_goals first | rfl | (exfalso; omega) | contradiction | exact Prod.ext (Eq.symm (by assumption)) rfl | (exfalso; simp_all; done)
    · cases hx
def linkP  (k : Nat) : Prim Rs := fun args hh => match args, hh with
  | [.pointer (some ⟨0, 0, none⟩), .agg ⟨[.int .i64 ai, .int .i64 ag]⟩, .agg ⟨[.int .i64 bi, .int .i64 bg]⟩, .agg ⟨[.int .i64 ci, .int .i64 cg]⟩], [some (.inl (59, [.pointer (some ⟨1, 0, none⟩), .int .i64 ti, .int .i64 tg])), some (.inr (.inr (.inr (.pool m))))] => some ⟨PP m ∧ Gv.LinkD Sh.O9 k m ⟨ai, ag⟩ ⟨bi, bg⟩ ⟨ci, cg⟩, .agg ⟨[.int .i64 (Gv.link Sh.O9 k m ⟨ai, ag⟩ ⟨bi, bg⟩ ⟨ci, cg⟩).1.i, .int .i64 (Gv.link Sh.O9 k m ⟨ai, ag⟩ ⟨bi, bg⟩ ⟨ci, cg⟩).1.g]⟩, none, [some (.inl (59, [.pointer (some ⟨1, 0, none⟩), .int .i64 ti, .int .i64 tg])), some (.inr (.inr (.inr (.pool (Gv.link Sh.O9 k m ⟨ai, ag⟩ ⟨bi, bg⟩ ⟨ci, cg⟩).2))))], [], [(0, 0)]⟩
  | _, _ => none
def TLink (k : Nat) : Tab Rs := [(1000000000, wrapCon), (34, liftC zN 2 (con1 lookP)), (39, liftC zN 2 (con1 levelP)), (52, liftC zN 2 (con1 setNP)), (49, liftC zN 2 (con1 (linkP k)))]
theorem link_ok : ∀ k : Nat, ConOk D Try.prog 49 (con1 (linkP k))
  | 0 => by
    refine con1_ok (prim_at (fn := Try.f49) (root := codeOf Try.f49) (by kernel_rfl) (by kernel_rfl) (by kernel_rfl) fun args hh x hx => ?_)
    unfold linkP at hx
    split at hx
    · rename_i ai ag bi bg ci cg ti tg m
      injection hx with hx
      subst hx
      refine ⟨by first | exact Nat.le_refl _ | exact Nat.zero_le _ | exact Nat.le_succ _, noLit rfl, (fun hw => by first | rfl | cases hw), fun _ hv => ?_⟩
      exact False.elim (And.right hv)
    · cases hx
  | k + 1 => by
    have ih := link_ok k
    refine con1_ok (prim_at (fn := Try.f49) (root := codeOf Try.f49) (by kernel_rfl) (by kernel_rfl) (by kernel_rfl) fun args hh x hx => ?_)
    unfold linkP at hx
    split at hx
    · rename_i ai ag bi bg ci cg ti tg m
      injection hx with hx
      subst hx
      refine ⟨by first | exact Nat.le_refl _ | exact Nat.zero_le _ | exact Nat.le_succ _, noLit rfl, (fun hw => by first | rfl | cases hw), fun _ hv => ?_⟩
      obtain ⟨hp, hd⟩ := hv
      generalize hG : Rx.Ends (R := Rs) _ _ = G
      refine rx_ok (T := (TLink k)) (show TabOk D Try.prog (TLink k) from ⟨wrapCon_ok, liftC_ok _ _ look_ok, liftC_ok _ _ level_ok, liftC_ok _ _ setN_ok, liftC_ok _ _ ih, trivial⟩) mixed 200 ?_
      refine as_text (q := let zz15 := Value.pointer (some (Addr.mk 1 0 none)); let zz16 := Value.int IntKind.i64; let zz1 := (Gv.Ref.mk ai ag); let zz2 := (Gv.lk Sh.O9 m zz1); let zz3 := (Gv.Ref.mk ci cg); let zz4 := (Gv.lk Sh.O9 (Gv.see m zz1) zz3); let zz5 := (Gv.Node.h zz2 > IntKind.wrap IntKind.i64 (Gv.Node.h zz4 + (1 : Int))); let zz6 := (Gv.see (Gv.see m zz1) zz3); let zz7 := (Gv.Ref.mk bi bg); let zz8 := (Prod.fst (Gv.link Sh.O9 k zz6 (Gv.Node.r zz2) zz7 zz3)); let zz9 := (Gv.level Sh.O9 (Prod.snd (Gv.link Sh.O9 k zz6 (Gv.Node.r zz2) zz7 zz3)) zz1 (Gv.Node.mk (Gv.Node.e zz2) (Gv.Node.l zz2) zz8 (Gv.Node.all zz2) (Gv.Node.h zz2))); let zz10 := (Gv.Node.h zz4 > IntKind.wrap IntKind.i64 (Gv.Node.h zz2 + (1 : Int))); let zz11 := (Prod.fst (Gv.link Sh.O9 k zz6 zz1 zz7 (Gv.Node.l zz4))); let zz12 := (Gv.level Sh.O9 (Prod.snd (Gv.link Sh.O9 k zz6 zz1 zz7 (Gv.Node.l zz4))) zz3 (Gv.Node.mk (Gv.Node.e zz4) zz11 (Gv.Node.r zz4) (Gv.Node.all zz4) (Gv.Node.h zz4))); let zz13 := (Gv.Node.e (Gv.lk Sh.O9 zz6 zz7)); let zz14 := (Gv.Node.all (Gv.lk Sh.O9 zz6 zz7)); Vc (PP m) ∧ Vc (PP (Gv.see m zz1)) ∧ Vc True ∧ (decide zz5 = true → Vc (PP zz6 ∧ Gv.LinkD Sh.O9 k zz6 (Gv.Node.r zz2) zz7 zz3) ∧ Vc (PP (Prod.snd (Gv.link Sh.O9 k zz6 (Gv.Node.r zz2) zz7 zz3))) ∧ Post (G (Value.agg (Array.mk [zz16 (Gv.Ref.i (Prod.fst zz9)), zz16 (Gv.Ref.g (Prod.fst zz9))])) [some (Sum.inl (59, [zz15, zz16 ti, zz16 tg])), some (Sum.inr (Sum.inr (Sum.inr (Rs.pool (Prod.snd zz9))))), some (Sum.inl (54, [zz16 ai, zz16 ag])), some (Sum.inl (54, [zz16 bi, zz16 bg])), some (Sum.inl (54, [zz16 ci, zz16 cg])), some (Sum.inl (54, [zz16 (Gv.Ref.i (Prod.fst zz9)), zz16 (Gv.Ref.g (Prod.fst zz9))])), some (Sum.inl (63, [zz16 (Wv.It.k (Sh.Sl.it (Gv.Node.e zz2))), zz16 (Wv.It.i (Sh.Sl.it (Gv.Node.e zz2))), Value.bool (Sh.Sl.eaten (Gv.Node.e zz2)), zz16 (Sh.Sl.time (Gv.Node.e zz2)), zz16 (Gv.Ref.i (Gv.Node.l zz2)), zz16 (Gv.Ref.g (Gv.Node.l zz2)), zz16 (Gv.Ref.i zz8), zz16 (Gv.Ref.g zz8), zz16 (Gv.Part.n (Gv.Node.all zz2)), zz16 (Sh.Sz.n (Gv.Part.sum (Gv.Node.all zz2))), zz16 (Gv.Node.h zz2)])), some (Sum.inl (63, [zz16 (Wv.It.k (Sh.Sl.it (Gv.Node.e zz4))), zz16 (Wv.It.i (Sh.Sl.it (Gv.Node.e zz4))), Value.bool (Sh.Sl.eaten (Gv.Node.e zz4)), zz16 (Sh.Sl.time (Gv.Node.e zz4)), zz16 (Gv.Ref.i (Gv.Node.l zz4)), zz16 (Gv.Ref.g (Gv.Node.l zz4)), zz16 (Gv.Ref.i (Gv.Node.r zz4)), zz16 (Gv.Ref.g (Gv.Node.r zz4)), zz16 (Gv.Part.n (Gv.Node.all zz4)), zz16 (Sh.Sz.n (Gv.Part.sum (Gv.Node.all zz4))), zz16 (Gv.Node.h zz4)]))])) ∧ (decide zz5 = false → Vc True ∧ (decide zz10 = true → Vc (PP zz6 ∧ Gv.LinkD Sh.O9 k zz6 zz1 zz7 (Gv.Node.l zz4)) ∧ Vc (PP (Prod.snd (Gv.link Sh.O9 k zz6 zz1 zz7 (Gv.Node.l zz4)))) ∧ Post (G (Value.agg (Array.mk [zz16 (Gv.Ref.i (Prod.fst zz12)), zz16 (Gv.Ref.g (Prod.fst zz12))])) [some (Sum.inl (59, [zz15, zz16 ti, zz16 tg])), some (Sum.inr (Sum.inr (Sum.inr (Rs.pool (Prod.snd zz12))))), some (Sum.inl (54, [zz16 ai, zz16 ag])), some (Sum.inl (54, [zz16 bi, zz16 bg])), some (Sum.inl (54, [zz16 ci, zz16 cg])), some (Sum.inl (54, [zz16 (Gv.Ref.i (Prod.fst zz12)), zz16 (Gv.Ref.g (Prod.fst zz12))])), some (Sum.inl (63, [zz16 (Wv.It.k (Sh.Sl.it (Gv.Node.e zz2))), zz16 (Wv.It.i (Sh.Sl.it (Gv.Node.e zz2))), Value.bool (Sh.Sl.eaten (Gv.Node.e zz2)), zz16 (Sh.Sl.time (Gv.Node.e zz2)), zz16 (Gv.Ref.i (Gv.Node.l zz2)), zz16 (Gv.Ref.g (Gv.Node.l zz2)), zz16 (Gv.Ref.i (Gv.Node.r zz2)), zz16 (Gv.Ref.g (Gv.Node.r zz2)), zz16 (Gv.Part.n (Gv.Node.all zz2)), zz16 (Sh.Sz.n (Gv.Part.sum (Gv.Node.all zz2))), zz16 (Gv.Node.h zz2)])), some (Sum.inl (63, [zz16 (Wv.It.k (Sh.Sl.it (Gv.Node.e zz4))), zz16 (Wv.It.i (Sh.Sl.it (Gv.Node.e zz4))), Value.bool (Sh.Sl.eaten (Gv.Node.e zz4)), zz16 (Sh.Sl.time (Gv.Node.e zz4)), zz16 (Gv.Ref.i zz11), zz16 (Gv.Ref.g zz11), zz16 (Gv.Ref.i (Gv.Node.r zz4)), zz16 (Gv.Ref.g (Gv.Node.r zz4)), zz16 (Gv.Part.n (Gv.Node.all zz4)), zz16 (Sh.Sz.n (Gv.Part.sum (Gv.Node.all zz4))), zz16 (Gv.Node.h zz4)]))])) ∧ (decide zz10 = false → Vc (PP zz6) ∧ Vc (PP (Gv.see zz6 zz7)) ∧ Post (G (Value.agg (Array.mk [zz16 bi, zz16 bg])) [some (Sum.inl (59, [zz15, zz16 ti, zz16 tg])), some (Sum.inr (Sum.inr (Sum.inr (Rs.pool (Gv.setN Sh.O9 (Gv.see zz6 zz7) zz7 (Gv.Node.mk zz13 zz1 zz3 zz14 (Gv.Node.h (Gv.lk Sh.O9 zz6 zz7))) zz2 zz4))))), some (Sum.inl (54, [zz16 ai, zz16 ag])), some (Sum.inl (54, [zz16 bi, zz16 bg])), some (Sum.inl (54, [zz16 ci, zz16 cg])), some (Sum.inl (54, [zz16 bi, zz16 bg])), some (Sum.inl (63, [zz16 (Wv.It.k (Sh.Sl.it (Gv.Node.e zz2))), zz16 (Wv.It.i (Sh.Sl.it (Gv.Node.e zz2))), Value.bool (Sh.Sl.eaten (Gv.Node.e zz2)), zz16 (Sh.Sl.time (Gv.Node.e zz2)), zz16 (Gv.Ref.i (Gv.Node.l zz2)), zz16 (Gv.Ref.g (Gv.Node.l zz2)), zz16 (Gv.Ref.i (Gv.Node.r zz2)), zz16 (Gv.Ref.g (Gv.Node.r zz2)), zz16 (Gv.Part.n (Gv.Node.all zz2)), zz16 (Sh.Sz.n (Gv.Part.sum (Gv.Node.all zz2))), zz16 (Gv.Node.h zz2)])), some (Sum.inl (63, [zz16 (Wv.It.k (Sh.Sl.it (Gv.Node.e zz4))), zz16 (Wv.It.i (Sh.Sl.it (Gv.Node.e zz4))), Value.bool (Sh.Sl.eaten (Gv.Node.e zz4)), zz16 (Sh.Sl.time (Gv.Node.e zz4)), zz16 (Gv.Ref.i (Gv.Node.l zz4)), zz16 (Gv.Ref.g (Gv.Node.l zz4)), zz16 (Gv.Ref.i (Gv.Node.r zz4)), zz16 (Gv.Ref.g (Gv.Node.r zz4)), zz16 (Gv.Part.n (Gv.Node.all zz4)), zz16 (Sh.Sz.n (Gv.Part.sum (Gv.Node.all zz4))), zz16 (Gv.Node.h zz4)])), some (Sum.inl (63, [zz16 (Wv.It.k (Sh.Sl.it zz13)), zz16 (Wv.It.i (Sh.Sl.it zz13)), Value.bool (Sh.Sl.eaten zz13), zz16 (Sh.Sl.time zz13), zz16 ai, zz16 ag, zz16 ci, zz16 cg, zz16 (Gv.Part.n zz14), zz16 (Sh.Sz.n (Gv.Part.sum zz14)), zz16 (Gv.Node.h (Gv.lk Sh.O9 zz6 zz7))]))])))) ?_ (by kernel_rfl)
      intro zz15 zz16 zz1 zz2 zz3 zz4 zz5 zz6 zz7 zz8 zz9 zz10 zz11 zz12 zz13 zz14; subst zz14 zz13 zz12 zz11 zz10 zz9 zz8 zz7 zz6 zz5 zz4 zz3 zz2 zz1 zz16 zz15
      rw [Gv.LinkD] at hd
      dsimp only [Gv.W] at hd
      have done : ∀ (i g : Int) (m' : Pl) (rest : Hp Rs), Gv.link Sh.O9 (k + 1) m ⟨ai, ag⟩ ⟨bi, bg⟩ ⟨ci, cg⟩ = (⟨i, g⟩, m') → G (.agg ⟨[.int .i64 i, .int .i64 g]⟩) ([some (.inl (59, [.pointer (some ⟨1, 0, none⟩), .int .i64 ti, .int .i64 tg])), some (.inr (.inr (.inr (.pool m'))))] ++ rest) := by
        intro i g m' rest e
        subst hG
        refine ⟨[0, 1], ?_, rfl, ⟨.inl rfl, ?_, trivial⟩, rfl, rfl, rfl, rfl⟩
        · simp only [e]; rfl
        · simp only [e]; rfl
      clear hG
      repeat' (first | apply And.intro | apply Vc.mk | apply fits.mk | intro h | apply Post.mk)
      all_goals (try simp only [decide_eq_true_eq, decide_eq_false_iff_not, Nat.zero_add, ge_iff_le, Int.not_le, Int.not_lt, Int.toNat_natCast, beq_iff_eq, beq_eq_false_iff_ne, bne_iff_ne, bne_eq_false_iff_eq, Bool.not_eq_true', Bool.not_eq_false'] at *)
      all_goals first | contradiction | omega | (apply congrArg Value.bool; assumption) | exact congrArg Value.bool (decide_eq_true (by assumption)) | exact congrArg Value.bool (decide_eq_false (Int.not_lt.mpr (by assumption))) | exact ⟨rfl, by omega⟩ | exact rfl | (simp [*, -List.getD_eq_getElem?_getD]; done) | skip
      all_goals first | assumption | (simp only [Gv.see_ok, Gv.put1_ok, Gv.setN_ok, Gv.tie_ok, Gv.turnL_ok, Gv.turnR_ok, Gv.level_ok, Gv.replace_ok, Gv.hang_ok, Gv.link_ok, Gv.pickF_ok, Gv.glue_ok, Gv.pick_ok, Gv.cutF_ok, Gv.gather_ok, Gv.between_ok, Gv.first_ok, Gv.last_ok]; assumption) | skip
      all_goals first | (rw [if_pos (by assumption)] at hd; exact hd) | (rw [if_neg (by omega), if_pos (by assumption)] at hd; exact hd) | skip
      all_goals (refine done _ _ _ _ ?_; rw [Gv.link]; (try dsimp only [Gv.W]); repeat' split)
      all_goals first | rfl | (exfalso; omega) | contradiction | exact Prod.ext (Eq.symm (by assumption)) rfl | (exfalso; simp_all; done)
    · cases hx
end Go.Proofs.Ytljdcboijegllaa.G9
