/- Yf: G7Link, G7Pick, G7Gather, G7Bet, G7FstA, G7Top, G7TopFA, G7Loops -/
import Derived.Test.YtclagkjjgmeifaaYe
import Derived.Test.YtclagkjjgmeifaaYd
/- grove: a pool of nodes of keys and numbers: its functions: link, pickFirst, glue. -/
namespace Go.Proofs.Ytclagkjjgmeifaa.G7
open Go.Proofs.Ytclagkjjgmeifaa.Rx
set_option linter.unusedVariables false
set_option linter.unusedSimpArgs false
set_option maxRecDepth 100000
def pickFP  (k : Nat) : Prim Rs := fun args hh => match args, hh with
  | [.pointer (some ⟨0, 0, none⟩), .agg ⟨[.int .i64 ri, .int .i64 rg]⟩], [some (.inl (76, [.pointer (some ⟨1, 0, none⟩), .int .i64 ti, .int .i64 tg])), some (.inr (.inr (.inr (.pool m))))] => some ⟨PP m ∧ Gv.PickFD O7 k m ⟨ri, rg⟩, .tuple #[.agg ⟨[.int .i64 (Gv.pickF O7 k m ⟨ri, rg⟩).1.i, .int .i64 (Gv.pickF O7 k m ⟨ri, rg⟩).1.g]⟩, .agg ⟨[.int .i64 (Gv.pickF O7 k m ⟨ri, rg⟩).2.1.i, .int .i64 (Gv.pickF O7 k m ⟨ri, rg⟩).2.1.g]⟩], none, [some (.inl (76, [.pointer (some ⟨1, 0, none⟩), .int .i64 ti, .int .i64 tg])), some (.inr (.inr (.inr (.pool (Gv.pickF O7 k m ⟨ri, rg⟩).2.2))))], [], [(0, 0)]⟩
  | _, _ => none
def TPickF (k : Nat) : Tab Rs := [(46, liftC zN 2 (con1 lookP)), (57, liftC zN 2 (con1 levelP)), (62, liftC zN 2 (con1 (pickFP k)))]
theorem pickF_ok : ∀ k : Nat, ConOk D Try.prog 62 (con1 (pickFP k))
  | 0 => by
    refine con1_ok (prim_at (fn := Try.f62) (root := codeOf Try.f62) (by kernel_rfl) (by kernel_rfl) (by kernel_rfl) fun args hh x hx => ?_)
    unfold pickFP at hx
    split at hx
    · rename_i ri rg ti tg m
      injection hx with hx
      subst hx
      refine ⟨by first | exact Nat.le_refl _ | exact Nat.zero_le _ | exact Nat.le_succ _, noLit rfl, (fun hw => by first | rfl | cases hw), fun _ hv => ?_⟩
      exact False.elim (And.right hv)
    · cases hx
  | k + 1 => by
    have ih := pickF_ok k
    refine con1_ok (prim_at (fn := Try.f62) (root := codeOf Try.f62) (by kernel_rfl) (by kernel_rfl) (by kernel_rfl) fun args hh x hx => ?_)
    unfold pickFP at hx
    split at hx
    · rename_i ri rg ti tg m
      injection hx with hx
      subst hx
      refine ⟨by first | exact Nat.le_refl _ | exact Nat.zero_le _ | exact Nat.le_succ _, noLit rfl, (fun hw => by first | rfl | cases hw), fun _ hv => ?_⟩
      obtain ⟨hp, hd⟩ := hv
      generalize hG : Rx.Ends (R := Rs) _ _ = G
      refine rx_ok (T := (TPickF k)) (show TabOk D Try.prog (TPickF k) from ⟨liftC_ok _ _ look_ok, liftC_ok _ _ level_ok, liftC_ok _ _ ih, trivial⟩) mixed 200 ?_
      refine as_text (q := let zz9 := Value.int IntKind.i64; let zz1 := (Gv.lk O7 m (Gv.Ref.mk ri rg)); let zz2 := (Gv.Node.l zz1); let zz3 := (if false = true then !(Gv.Ref.i zz2 == (0 : Int) && (Gv.Ref.g zz2 == (0 : Int) && true)) else Gv.Ref.i zz2 == (0 : Int) && (Gv.Ref.g zz2 == (0 : Int) && true)); let zz4 := (Gv.Ref.i (Gv.Node.r zz1)); let zz5 := (Gv.Ref.g (Gv.Node.r zz1)); let zz6 := (Gv.see m (Gv.Ref.mk ri rg)); let zz7 := (Prod.fst (Gv.pickF O7 k zz6 zz2)); let zz8 := (Gv.level O7 (Prod.snd (Prod.snd (Gv.pickF O7 k zz6 zz2))) (Gv.Ref.mk ri rg) (Gv.Node.mk (Gv.Node.e zz1) zz7 (Gv.Node.r zz1) (Gv.Node.all zz1) (Gv.Node.h zz1))); Vc (PP m) ∧ (zz3 = true → Post (G (Value.tuple (Array.mk [Value.agg (Array.mk [zz9 zz4, zz9 zz5]), Value.agg (Array.mk [zz9 ri, zz9 rg])])) [some (Sum.inl (76, [Value.pointer (some (Addr.mk 1 0 none)), zz9 ti, zz9 tg])), some (Sum.inr (Sum.inr (Sum.inr (Rs.pool zz6)))), some (Sum.inl (70, [zz9 ri, zz9 rg])), some (Sum.inl (70, [zz9 zz4, zz9 zz5])), some (Sum.inl (70, [zz9 ri, zz9 rg])), some (Sum.inl (74, [zz9 (El.k (Gv.Node.e zz1)), zz9 (El.w (Gv.Node.e zz1)), zz9 (Gv.Ref.i zz2), zz9 (Gv.Ref.g zz2), zz9 zz4, zz9 zz5, zz9 (Gv.Part.n (Gv.Node.all zz1)), zz9 (Ti.Td.n (Gv.Part.sum (Gv.Node.all zz1))), zz9 (Ti.Td.s (Gv.Part.sum (Gv.Node.all zz1))), zz9 (Ti.Td.l (Gv.Part.sum (Gv.Node.all zz1))), zz9 (Gv.Node.h zz1)]))])) ∧ (zz3 = false → Vc (PP zz6 ∧ Gv.PickFD O7 k zz6 zz2) ∧ Vc (PP (Prod.snd (Prod.snd (Gv.pickF O7 k zz6 zz2)))) ∧ Post (G (Value.tuple (Array.mk [Value.agg (Array.mk [zz9 (Gv.Ref.i (Prod.fst zz8)), zz9 (Gv.Ref.g (Prod.fst zz8))]), Value.agg (Array.mk [zz9 (Gv.Ref.i (Prod.fst (Prod.snd (Gv.pickF O7 k zz6 zz2)))), zz9 (Gv.Ref.g (Prod.fst (Prod.snd (Gv.pickF O7 k zz6 zz2))))])])) [some (Sum.inl (76, [Value.pointer (some (Addr.mk 1 0 none)), zz9 ti, zz9 tg])), some (Sum.inr (Sum.inr (Sum.inr (Rs.pool (Prod.snd zz8))))), some (Sum.inl (70, [zz9 ri, zz9 rg])), some (Sum.inl (70, [zz9 (Gv.Ref.i (Prod.fst zz8)), zz9 (Gv.Ref.g (Prod.fst zz8))])), some (Sum.inl (70, [zz9 (Gv.Ref.i (Prod.fst (Prod.snd (Gv.pickF O7 k zz6 zz2)))), zz9 (Gv.Ref.g (Prod.fst (Prod.snd (Gv.pickF O7 k zz6 zz2))))])), some (Sum.inl (74, [zz9 (El.k (Gv.Node.e zz1)), zz9 (El.w (Gv.Node.e zz1)), zz9 (Gv.Ref.i zz7), zz9 (Gv.Ref.g zz7), zz9 zz4, zz9 zz5, zz9 (Gv.Part.n (Gv.Node.all zz1)), zz9 (Ti.Td.n (Gv.Part.sum (Gv.Node.all zz1))), zz9 (Ti.Td.s (Gv.Part.sum (Gv.Node.all zz1))), zz9 (Ti.Td.l (Gv.Part.sum (Gv.Node.all zz1))), zz9 (Gv.Node.h zz1)]))]))) ?_ (by kernel_rfl)
      intro zz9 zz1 zz2 zz3 zz4 zz5 zz6 zz7 zz8; subst zz8 zz7 zz6 zz5 zz4 zz3 zz2 zz1 zz9
      simp only [Gv.PickFD] at hd
      have done : ∀ (i g i2 g2 : Int) (m' : Pl) (rest : Hp Rs), Gv.pickF O7 (k + 1) m ⟨ri, rg⟩ = (⟨i, g⟩, ⟨i2, g2⟩, m') → G (.tuple #[.agg ⟨[.int .i64 i, .int .i64 g]⟩, .agg ⟨[.int .i64 i2, .int .i64 g2]⟩]) ([some (.inl (76, [.pointer (some ⟨1, 0, none⟩), .int .i64 ti, .int .i64 tg])), some (.inr (.inr (.inr (.pool m'))))] ++ rest) := by
        intro i g i2 g2 m' rest e
        subst hG
        refine ⟨[0, 1], ?_, rfl, ⟨.inl rfl, ?_, trivial⟩, rfl, rfl, rfl, rfl⟩
        · simp only [e]; rfl
        · simp only [e]; rfl
      clear hG
      simp only [Gv.eq0, Gv.ref_eta]
      repeat' (first | apply And.intro | apply Vc.mk | apply fits.mk | intro h | apply Post.mk)
      all_goals (try simp only [decide_eq_true_eq, decide_eq_false_iff_not, Nat.zero_add, ge_iff_le, Int.not_le, Int.not_lt, Int.toNat_natCast, beq_iff_eq, beq_eq_false_iff_ne, bne_iff_ne, bne_eq_false_iff_eq, Bool.not_eq_true', Bool.not_eq_false'] at *)
      all_goals first | contradiction | omega | (apply congrArg Value.bool; assumption) | exact congrArg Value.bool (decide_eq_true (by assumption)) | exact congrArg Value.bool (decide_eq_false (Int.not_lt.mpr (by assumption))) | exact ⟨rfl, by omega⟩ | exact rfl | (simp [*, -List.getD_eq_getElem?_getD]; done) | skip
      all_goals first | assumption | (simp only [Gv.see_ok, Gv.put1_ok, Gv.setN_ok, Gv.tie_ok, Gv.turnL_ok, Gv.turnR_ok, Gv.level_ok, Gv.replace_ok, Gv.hang_ok, Gv.link_ok, Gv.pickF_ok, Gv.glue_ok, Gv.pick_ok, Gv.cutF_ok, Gv.gather_ok, Gv.between_ok, Gv.first_ok, Gv.last_ok]; assumption) | skip
      all_goals first | (rw [Gv.PickFD_see]; first | assumption | (rw [if_neg (by assumption), Gv.PickFD_see] at hd; exact hd)) | skip
      all_goals (refine done _ _ _ _ _ _ ?_; rw [Gv.pickF]; (try dsimp only [Gv.W]); repeat' split)
      all_goals first | rfl | (exfalso; omega) | contradiction | exact Prod.ext (Eq.symm (by assumption)) rfl | (exfalso; simp_all; done)
    · cases hx
def linkP  (k : Nat) : Prim Rs := fun args hh => match args, hh with
  | [.pointer (some ⟨0, 0, none⟩), .agg ⟨[.int .i64 ai, .int .i64 ag]⟩, .agg ⟨[.int .i64 bi, .int .i64 bg]⟩, .agg ⟨[.int .i64 ci, .int .i64 cg]⟩], [some (.inl (76, [.pointer (some ⟨1, 0, none⟩), .int .i64 ti, .int .i64 tg])), some (.inr (.inr (.inr (.pool m))))] => some ⟨PP m ∧ Gv.LinkD O7 k m ⟨ai, ag⟩ ⟨bi, bg⟩ ⟨ci, cg⟩, .agg ⟨[.int .i64 (Gv.link O7 k m ⟨ai, ag⟩ ⟨bi, bg⟩ ⟨ci, cg⟩).1.i, .int .i64 (Gv.link O7 k m ⟨ai, ag⟩ ⟨bi, bg⟩ ⟨ci, cg⟩).1.g]⟩, none, [some (.inl (76, [.pointer (some ⟨1, 0, none⟩), .int .i64 ti, .int .i64 tg])), some (.inr (.inr (.inr (.pool (Gv.link O7 k m ⟨ai, ag⟩ ⟨bi, bg⟩ ⟨ci, cg⟩).2))))], [], [(0, 0)]⟩
  | _, _ => none
def TLink (k : Nat) : Tab Rs := [(1000000000, wrapCon), (46, liftC zN 2 (con1 lookP)), (57, liftC zN 2 (con1 levelP)), (63, liftC zN 2 (con1 setNP)), (61, liftC zN 2 (con1 (linkP k)))]
theorem link_ok : ∀ k : Nat, ConOk D Try.prog 61 (con1 (linkP k))
  | 0 => by
    refine con1_ok (prim_at (fn := Try.f61) (root := codeOf Try.f61) (by kernel_rfl) (by kernel_rfl) (by kernel_rfl) fun args hh x hx => ?_)
    unfold linkP at hx
    split at hx
    · rename_i ai ag bi bg ci cg ti tg m
      injection hx with hx
      subst hx
      refine ⟨by first | exact Nat.le_refl _ | exact Nat.zero_le _ | exact Nat.le_succ _, noLit rfl, (fun hw => by first | rfl | cases hw), fun _ hv => ?_⟩
      exact False.elim (And.right hv)
    · cases hx
  | k + 1 => by
    have ih := link_ok k
    refine con1_ok (prim_at (fn := Try.f61) (root := codeOf Try.f61) (by kernel_rfl) (by kernel_rfl) (by kernel_rfl) fun args hh x hx => ?_)
    unfold linkP at hx
    split at hx
    · rename_i ai ag bi bg ci cg ti tg m
      injection hx with hx
      subst hx
      refine ⟨by first | exact Nat.le_refl _ | exact Nat.zero_le _ | exact Nat.le_succ _, noLit rfl, (fun hw => by first | rfl | cases hw), fun _ hv => ?_⟩
      obtain ⟨hp, hd⟩ := hv
      generalize hG : Rx.Ends (R := Rs) _ _ = G
      refine rx_ok (T := (TLink k)) (show TabOk D Try.prog (TLink k) from ⟨wrapCon_ok, liftC_ok _ _ look_ok, liftC_ok _ _ level_ok, liftC_ok _ _ setN_ok, liftC_ok _ _ ih, trivial⟩) mixed 200 ?_
      refine as_text (q := let zz14 := Value.pointer (some (Addr.mk 1 0 none)); let zz15 := Value.int IntKind.i64; let zz1 := (Gv.Ref.mk ai ag); let zz2 := (Gv.lk O7 m zz1); let zz3 := (Gv.Ref.mk ci cg); let zz4 := (Gv.lk O7 (Gv.see m zz1) zz3); let zz5 := (Gv.Node.h zz2 > IntKind.wrap IntKind.i64 (Gv.Node.h zz4 + (1 : Int))); let zz6 := (Gv.see (Gv.see m zz1) zz3); let zz7 := (Gv.Ref.mk bi bg); let zz8 := (Prod.fst (Gv.link O7 k zz6 (Gv.Node.r zz2) zz7 zz3)); let zz9 := (Gv.level O7 (Prod.snd (Gv.link O7 k zz6 (Gv.Node.r zz2) zz7 zz3)) zz1 (Gv.Node.mk (Gv.Node.e zz2) (Gv.Node.l zz2) zz8 (Gv.Node.all zz2) (Gv.Node.h zz2))); let zz10 := (Gv.Node.h zz4 > IntKind.wrap IntKind.i64 (Gv.Node.h zz2 + (1 : Int))); let zz11 := (Prod.fst (Gv.link O7 k zz6 zz1 zz7 (Gv.Node.l zz4))); let zz12 := (Gv.level O7 (Prod.snd (Gv.link O7 k zz6 zz1 zz7 (Gv.Node.l zz4))) zz3 (Gv.Node.mk (Gv.Node.e zz4) zz11 (Gv.Node.r zz4) (Gv.Node.all zz4) (Gv.Node.h zz4))); let zz13 := (Gv.Part.sum (Gv.Node.all (Gv.lk O7 zz6 zz7))); Vc (PP m) ∧ Vc (PP (Gv.see m zz1)) ∧ Vc True ∧ (decide zz5 = true → Vc (PP zz6 ∧ Gv.LinkD O7 k zz6 (Gv.Node.r zz2) zz7 zz3) ∧ Vc (PP (Prod.snd (Gv.link O7 k zz6 (Gv.Node.r zz2) zz7 zz3))) ∧ Post (G (Value.agg (Array.mk [zz15 (Gv.Ref.i (Prod.fst zz9)), zz15 (Gv.Ref.g (Prod.fst zz9))])) [some (Sum.inl (76, [zz14, zz15 ti, zz15 tg])), some (Sum.inr (Sum.inr (Sum.inr (Rs.pool (Prod.snd zz9))))), some (Sum.inl (70, [zz15 ai, zz15 ag])), some (Sum.inl (70, [zz15 bi, zz15 bg])), some (Sum.inl (70, [zz15 ci, zz15 cg])), some (Sum.inl (70, [zz15 (Gv.Ref.i (Prod.fst zz9)), zz15 (Gv.Ref.g (Prod.fst zz9))])), some (Sum.inl (74, [zz15 (El.k (Gv.Node.e zz2)), zz15 (El.w (Gv.Node.e zz2)), zz15 (Gv.Ref.i (Gv.Node.l zz2)), zz15 (Gv.Ref.g (Gv.Node.l zz2)), zz15 (Gv.Ref.i zz8), zz15 (Gv.Ref.g zz8), zz15 (Gv.Part.n (Gv.Node.all zz2)), zz15 (Ti.Td.n (Gv.Part.sum (Gv.Node.all zz2))), zz15 (Ti.Td.s (Gv.Part.sum (Gv.Node.all zz2))), zz15 (Ti.Td.l (Gv.Part.sum (Gv.Node.all zz2))), zz15 (Gv.Node.h zz2)])), some (Sum.inl (74, [zz15 (El.k (Gv.Node.e zz4)), zz15 (El.w (Gv.Node.e zz4)), zz15 (Gv.Ref.i (Gv.Node.l zz4)), zz15 (Gv.Ref.g (Gv.Node.l zz4)), zz15 (Gv.Ref.i (Gv.Node.r zz4)), zz15 (Gv.Ref.g (Gv.Node.r zz4)), zz15 (Gv.Part.n (Gv.Node.all zz4)), zz15 (Ti.Td.n (Gv.Part.sum (Gv.Node.all zz4))), zz15 (Ti.Td.s (Gv.Part.sum (Gv.Node.all zz4))), zz15 (Ti.Td.l (Gv.Part.sum (Gv.Node.all zz4))), zz15 (Gv.Node.h zz4)]))])) ∧ (decide zz5 = false → Vc True ∧ (decide zz10 = true → Vc (PP zz6 ∧ Gv.LinkD O7 k zz6 zz1 zz7 (Gv.Node.l zz4)) ∧ Vc (PP (Prod.snd (Gv.link O7 k zz6 zz1 zz7 (Gv.Node.l zz4)))) ∧ Post (G (Value.agg (Array.mk [zz15 (Gv.Ref.i (Prod.fst zz12)), zz15 (Gv.Ref.g (Prod.fst zz12))])) [some (Sum.inl (76, [zz14, zz15 ti, zz15 tg])), some (Sum.inr (Sum.inr (Sum.inr (Rs.pool (Prod.snd zz12))))), some (Sum.inl (70, [zz15 ai, zz15 ag])), some (Sum.inl (70, [zz15 bi, zz15 bg])), some (Sum.inl (70, [zz15 ci, zz15 cg])), some (Sum.inl (70, [zz15 (Gv.Ref.i (Prod.fst zz12)), zz15 (Gv.Ref.g (Prod.fst zz12))])), some (Sum.inl (74, [zz15 (El.k (Gv.Node.e zz2)), zz15 (El.w (Gv.Node.e zz2)), zz15 (Gv.Ref.i (Gv.Node.l zz2)), zz15 (Gv.Ref.g (Gv.Node.l zz2)), zz15 (Gv.Ref.i (Gv.Node.r zz2)), zz15 (Gv.Ref.g (Gv.Node.r zz2)), zz15 (Gv.Part.n (Gv.Node.all zz2)), zz15 (Ti.Td.n (Gv.Part.sum (Gv.Node.all zz2))), zz15 (Ti.Td.s (Gv.Part.sum (Gv.Node.all zz2))), zz15 (Ti.Td.l (Gv.Part.sum (Gv.Node.all zz2))), zz15 (Gv.Node.h zz2)])), some (Sum.inl (74, [zz15 (El.k (Gv.Node.e zz4)), zz15 (El.w (Gv.Node.e zz4)), zz15 (Gv.Ref.i zz11), zz15 (Gv.Ref.g zz11), zz15 (Gv.Ref.i (Gv.Node.r zz4)), zz15 (Gv.Ref.g (Gv.Node.r zz4)), zz15 (Gv.Part.n (Gv.Node.all zz4)), zz15 (Ti.Td.n (Gv.Part.sum (Gv.Node.all zz4))), zz15 (Ti.Td.s (Gv.Part.sum (Gv.Node.all zz4))), zz15 (Ti.Td.l (Gv.Part.sum (Gv.Node.all zz4))), zz15 (Gv.Node.h zz4)]))])) ∧ (decide zz10 = false → Vc (PP zz6) ∧ Vc (PP (Gv.see zz6 zz7)) ∧ Post (G (Value.agg (Array.mk [zz15 bi, zz15 bg])) [some (Sum.inl (76, [zz14, zz15 ti, zz15 tg])), some (Sum.inr (Sum.inr (Sum.inr (Rs.pool (Gv.setN O7 (Gv.see zz6 zz7) zz7 (Gv.Node.mk (Gv.Node.e (Gv.lk O7 zz6 zz7)) zz1 zz3 (Gv.Node.all (Gv.lk O7 zz6 zz7)) (Gv.Node.h (Gv.lk O7 zz6 zz7))) zz2 zz4))))), some (Sum.inl (70, [zz15 ai, zz15 ag])), some (Sum.inl (70, [zz15 bi, zz15 bg])), some (Sum.inl (70, [zz15 ci, zz15 cg])), some (Sum.inl (70, [zz15 bi, zz15 bg])), some (Sum.inl (74, [zz15 (El.k (Gv.Node.e zz2)), zz15 (El.w (Gv.Node.e zz2)), zz15 (Gv.Ref.i (Gv.Node.l zz2)), zz15 (Gv.Ref.g (Gv.Node.l zz2)), zz15 (Gv.Ref.i (Gv.Node.r zz2)), zz15 (Gv.Ref.g (Gv.Node.r zz2)), zz15 (Gv.Part.n (Gv.Node.all zz2)), zz15 (Ti.Td.n (Gv.Part.sum (Gv.Node.all zz2))), zz15 (Ti.Td.s (Gv.Part.sum (Gv.Node.all zz2))), zz15 (Ti.Td.l (Gv.Part.sum (Gv.Node.all zz2))), zz15 (Gv.Node.h zz2)])), some (Sum.inl (74, [zz15 (El.k (Gv.Node.e zz4)), zz15 (El.w (Gv.Node.e zz4)), zz15 (Gv.Ref.i (Gv.Node.l zz4)), zz15 (Gv.Ref.g (Gv.Node.l zz4)), zz15 (Gv.Ref.i (Gv.Node.r zz4)), zz15 (Gv.Ref.g (Gv.Node.r zz4)), zz15 (Gv.Part.n (Gv.Node.all zz4)), zz15 (Ti.Td.n (Gv.Part.sum (Gv.Node.all zz4))), zz15 (Ti.Td.s (Gv.Part.sum (Gv.Node.all zz4))), zz15 (Ti.Td.l (Gv.Part.sum (Gv.Node.all zz4))), zz15 (Gv.Node.h zz4)])), some (Sum.inl (74, [zz15 (El.k (Gv.Node.e (Gv.lk O7 zz6 zz7))), zz15 (El.w (Gv.Node.e (Gv.lk O7 zz6 zz7))), zz15 ai, zz15 ag, zz15 ci, zz15 cg, zz15 (Gv.Part.n (Gv.Node.all (Gv.lk O7 zz6 zz7))), zz15 (Ti.Td.n zz13), zz15 (Ti.Td.s zz13), zz15 (Ti.Td.l zz13), zz15 (Gv.Node.h (Gv.lk O7 zz6 zz7))]))])))) ?_ (by kernel_rfl)
      intro zz14 zz15 zz1 zz2 zz3 zz4 zz5 zz6 zz7 zz8 zz9 zz10 zz11 zz12 zz13; subst zz13 zz12 zz11 zz10 zz9 zz8 zz7 zz6 zz5 zz4 zz3 zz2 zz1 zz15 zz14
      rw [Gv.LinkD] at hd
      dsimp only [Gv.W] at hd
      have done : ∀ (i g : Int) (m' : Pl) (rest : Hp Rs), Gv.link O7 (k + 1) m ⟨ai, ag⟩ ⟨bi, bg⟩ ⟨ci, cg⟩ = (⟨i, g⟩, m') → G (.agg ⟨[.int .i64 i, .int .i64 g]⟩) ([some (.inl (76, [.pointer (some ⟨1, 0, none⟩), .int .i64 ti, .int .i64 tg])), some (.inr (.inr (.inr (.pool m'))))] ++ rest) := by
        intro i g m' rest e
        subst hG
        refine ⟨[0, 1], ?_, rfl, ⟨.inl rfl, ?_, trivial⟩, rfl, rfl, rfl, rfl⟩
        · simp only [e]; rfl
        · simp only [e]; rfl
      clear hG
      repeat' (first | apply And.intro | apply Vc.mk | apply fits.mk | intro h | apply Post.mk)
      all_goals (try simp only [decide_eq_true_eq, decide_eq_false_iff_not, Nat.zero_add, ge_iff_le, Int.not_le, Int.not_lt, Int.toNat_natCast, beq_iff_eq, beq_eq_false_iff_ne, bne_iff_ne, bne_eq_false_iff_eq, Bool.not_eq_true', Bool.not_eq_false'] at *)
      all_goals first | contradiction | omega | (apply congrArg Value.bool; assumption) | exact congrArg Value.bool (decide_eq_true (by assumption)) | exact congrArg Value.bool (decide_eq_false (Int.not_lt.mpr (by assumption))) | exact ⟨rfl, by omega⟩ | exact rfl | (simp [*, -List.getD_eq_getElem?_getD]; done) | skip
      all_goals first | assumption | (simp only [Gv.see_ok, Gv.put1_ok, Gv.setN_ok, Gv.tie_ok, Gv.turnL_ok, Gv.turnR_ok, Gv.level_ok, Gv.replace_ok, Gv.hang_ok, Gv.link_ok, Gv.pickF_ok, Gv.glue_ok, Gv.pick_ok, Gv.cutF_ok, Gv.gather_ok, Gv.between_ok, Gv.first_ok, Gv.last_ok]; assumption) | skip
      all_goals first | (rw [if_pos (by assumption)] at hd; exact hd) | (rw [if_neg (by omega), if_pos (by assumption)] at hd; exact hd) | skip
      all_goals (refine done _ _ _ _ ?_; rw [Gv.link]; (try dsimp only [Gv.W]); repeat' split)
      all_goals first | rfl | (exfalso; omega) | contradiction | exact Prod.ext (Eq.symm (by assumption)) rfl | (exfalso; simp_all; done)
    · cases hx
end Go.Proofs.Ytclagkjjgmeifaa.G7


/- grove: a pool of nodes of keys and numbers: its functions: glue, pick, cut. -/
namespace Go.Proofs.Ytclagkjjgmeifaa.G7
open Go.Proofs.Ytclagkjjgmeifaa.Rx
set_option linter.unusedVariables false
set_option linter.unusedSimpArgs false
set_option maxRecDepth 100000
def glueP (K : Nat) : Prim Rs := fun args hh => match args, hh with
  | [.pointer (some ⟨0, 0, none⟩), .agg ⟨[.int .i64 ai, .int .i64 ag]⟩, .agg ⟨[.int .i64 ci, .int .i64 cg]⟩], [some (.inl (76, [.pointer (some ⟨1, 0, none⟩), .int .i64 ti, .int .i64 tg])), some (.inr (.inr (.inr (.pool m))))] => some ⟨PP m ∧ Gv.GlueD O7 K m ⟨ai, ag⟩ ⟨ci, cg⟩, .agg ⟨[.int .i64 (Gv.glue O7 K m ⟨ai, ag⟩ ⟨ci, cg⟩).1.i, .int .i64 (Gv.glue O7 K m ⟨ai, ag⟩ ⟨ci, cg⟩).1.g]⟩, none, [some (.inl (76, [.pointer (some ⟨1, 0, none⟩), .int .i64 ti, .int .i64 tg])), some (.inr (.inr (.inr (.pool (Gv.glue O7 K m ⟨ai, ag⟩ ⟨ci, cg⟩).2))))], [], [(0, 0)]⟩
  | _, _ => none
def TGlue (K : Nat) : Tab Rs := [(62, liftC zN 2 (con1 (pickFP K))), (61, liftC zN 2 (con1 (linkP K)))]
theorem glue_ok (K : Nat) : ConOk D Try.prog 52 (con1 (glueP K)) := by
  refine con1_ok (prim_at (fn := Try.f52) (root := codeOf Try.f52) (by kernel_rfl) (by kernel_rfl) (by kernel_rfl) fun args hh x hx => ?_)
  unfold glueP at hx
  split at hx
  · rename_i ai ag ci cg ti tg m
    injection hx with hx
    subst hx
    refine ⟨by first | exact Nat.le_refl _ | exact Nat.zero_le _ | exact Nat.le_succ _, noLit rfl, (fun hw => by first | rfl | cases hw), fun _ hv => ?_⟩
    obtain ⟨hp, hd⟩ := hv
    generalize hG : Rx.Ends (R := Rs) _ _ = G
    refine rx_ok (T := (TGlue K)) (show TabOk D Try.prog (TGlue K) from ⟨liftC_ok _ _ (pickF_ok K), liftC_ok _ _ (link_ok K), trivial⟩) mixed 200 ?_
    refine as_text (q := let zz7 := Value.int IntKind.i64; let zz1 := (if false = true then !(ci == (0 : Int) && (cg == (0 : Int) && true)) else ci == (0 : Int) && (cg == (0 : Int) && true)); let zz2 := (Prod.snd (Prod.snd (Gv.pickF O7 K m (Gv.Ref.mk ci cg)))); let zz3 := (Prod.fst (Prod.snd (Gv.pickF O7 K m (Gv.Ref.mk ci cg)))); let zz4 := (Prod.fst (Gv.pickF O7 K m (Gv.Ref.mk ci cg))); let zz5 := (Gv.Ref.i (Prod.fst (Gv.link O7 K zz2 (Gv.Ref.mk ai ag) zz3 zz4))); let zz6 := (Gv.Ref.g (Prod.fst (Gv.link O7 K zz2 (Gv.Ref.mk ai ag) zz3 zz4))); (zz1 = true → Post (G (Value.agg (Array.mk [zz7 ai, zz7 ag])) [some (Sum.inl (76, [Value.pointer (some (Addr.mk 1 0 none)), zz7 ti, zz7 tg])), some (Sum.inr (Sum.inr (Sum.inr (Rs.pool m)))), some (Sum.inl (70, [zz7 ai, zz7 ag])), some (Sum.inl (70, [zz7 ci, zz7 cg])), some (Sum.inl (70, [zz7 ai, zz7 ag]))])) ∧ (zz1 = false → Vc (PP m ∧ Gv.PickFD O7 K m (Gv.Ref.mk ci cg)) ∧ Vc (PP zz2 ∧ Gv.LinkD O7 K zz2 (Gv.Ref.mk ai ag) zz3 zz4) ∧ Post (G (Value.agg (Array.mk [zz7 zz5, zz7 zz6])) [some (Sum.inl (76, [Value.pointer (some (Addr.mk 1 0 none)), zz7 ti, zz7 tg])), some (Sum.inr (Sum.inr (Sum.inr (Rs.pool (Prod.snd (Gv.link O7 K zz2 (Gv.Ref.mk ai ag) zz3 zz4)))))), some (Sum.inl (70, [zz7 ai, zz7 ag])), some (Sum.inl (70, [zz7 ci, zz7 cg])), some (Sum.inl (70, [zz7 zz5, zz7 zz6])), some (Sum.inl (70, [zz7 (Gv.Ref.i zz4), zz7 (Gv.Ref.g zz4)])), some (Sum.inl (70, [zz7 (Gv.Ref.i zz3), zz7 (Gv.Ref.g zz3)]))]))) ?_ (by kernel_rfl)
    intro zz7 zz1 zz2 zz3 zz4 zz5 zz6; subst zz6 zz5 zz4 zz3 zz2 zz1 zz7
    unfold Gv.GlueD at hd
    have done : ∀ (i g : Int) (m' : Pl) (rest : Hp Rs), Gv.glue O7 K m ⟨ai, ag⟩ ⟨ci, cg⟩ = (⟨i, g⟩, m') → G (.agg ⟨[.int .i64 i, .int .i64 g]⟩) ([some (.inl (76, [.pointer (some ⟨1, 0, none⟩), .int .i64 ti, .int .i64 tg])), some (.inr (.inr (.inr (.pool m'))))] ++ rest) := by
      intro i g m' rest e
      subst hG
      refine ⟨[0, 1], ?_, rfl, ⟨.inl rfl, ?_, trivial⟩, rfl, rfl, rfl, rfl⟩
      · simp only [e]; rfl
      · simp only [e]; rfl
    clear hG
    try simp only [Gv.eq0, Gv.ref_eta]
    repeat' (first | apply And.intro | apply Vc.mk | apply fits.mk | intro h | apply Post.mk)
    all_goals (try simp only [decide_eq_true_eq, decide_eq_false_iff_not, Nat.zero_add, ge_iff_le, Int.not_le, Int.not_lt, Int.toNat_natCast, beq_iff_eq, beq_eq_false_iff_ne, bne_iff_ne, bne_eq_false_iff_eq, Bool.not_eq_true', Bool.not_eq_false'] at *)
    all_goals first | contradiction | omega | (apply congrArg Value.bool; assumption) | exact congrArg Value.bool (decide_eq_true (by assumption)) | exact congrArg Value.bool (decide_eq_false (Int.not_lt.mpr (by assumption))) | exact ⟨rfl, by omega⟩ | exact rfl | (simp [*, -List.getD_eq_getElem?_getD]; done) | skip
    all_goals first | assumption | (simp only [Gv.see_ok, Gv.put1_ok, Gv.setN_ok, Gv.tie_ok, Gv.turnL_ok, Gv.turnR_ok, Gv.level_ok, Gv.replace_ok, Gv.hang_ok, Gv.link_ok, Gv.pickF_ok, Gv.glue_ok, Gv.pick_ok, Gv.cutF_ok, Gv.gather_ok, Gv.between_ok, Gv.first_ok, Gv.last_ok]; assumption) | skip
    all_goals first | (rw [if_neg (by assumption)] at hd; first | exact hd.1 | exact hd.2) | skip
    all_goals (refine done _ _ _ _ ?_; unfold Gv.glue; (try dsimp only [Gv.W]); repeat' split)
    all_goals first | rfl | (exfalso; omega) | contradiction | exact Prod.ext (Eq.symm (by assumption)) rfl | (exfalso; simp_all; done)
  · cases hx
def pickP (K : Nat) (k : Nat) : Prim Rs := fun args hh => match args, hh with
  | [.pointer (some ⟨0, 0, none⟩), .agg ⟨[.int .i64 ri, .int .i64 rg]⟩, .agg ⟨[.int .i64 k0, .int .i64 k1]⟩], [some (.inl (76, [.pointer (some ⟨1, 0, none⟩), .int .i64 ti, .int .i64 tg])), some (.inr (.inr (.inr (.pool m))))] => some ⟨PP m ∧ Gv.PickD O7 K k m ⟨ri, rg⟩ (⟨k0, k1⟩ : El), .tuple #[.agg ⟨[.int .i64 (Gv.pick O7 K k m ⟨ri, rg⟩ (⟨k0, k1⟩ : El)).1.i, .int .i64 (Gv.pick O7 K k m ⟨ri, rg⟩ (⟨k0, k1⟩ : El)).1.g]⟩, .agg ⟨[.int .i64 (Gv.pick O7 K k m ⟨ri, rg⟩ (⟨k0, k1⟩ : El)).2.1.i, .int .i64 (Gv.pick O7 K k m ⟨ri, rg⟩ (⟨k0, k1⟩ : El)).2.1.g]⟩], none, [some (.inl (76, [.pointer (some ⟨1, 0, none⟩), .int .i64 ti, .int .i64 tg])), some (.inr (.inr (.inr (.pool (Gv.pick O7 K k m ⟨ri, rg⟩ (⟨k0, k1⟩ : El)).2.2))))], [], [(0, 0)]⟩
  | _, _ => none
def TPick (K : Nat) (k : Nat) : Tab Rs := [(82, liftC zN 2 (con1 cmpP)), (46, liftC zN 2 (con1 lookP)), (57, liftC zN 2 (con1 levelP)), (52, liftC zN 2 (con1 (glueP K))), (44, liftC zN 2 (con1 (pickP K k)))]
theorem pick_ok (K : Nat) : ∀ k : Nat, ConOk D Try.prog 44 (con1 (pickP K k))
  | 0 => by
    refine con1_ok (prim_at (fn := Try.f44) (root := codeOf Try.f44) (by kernel_rfl) (by kernel_rfl) (by kernel_rfl) fun args hh x hx => ?_)
    unfold pickP at hx
    split at hx
    · rename_i ri rg k0 k1 ti tg m
      injection hx with hx
      subst hx
      refine ⟨by first | exact Nat.le_refl _ | exact Nat.zero_le _ | exact Nat.le_succ _, noLit rfl, (fun hw => by first | rfl | cases hw), fun _ hv => ?_⟩
      exact False.elim (And.right hv)
    · cases hx
  | k + 1 => by
    have ih := pick_ok K k
    refine con1_ok (prim_at (fn := Try.f44) (root := codeOf Try.f44) (by kernel_rfl) (by kernel_rfl) (by kernel_rfl) fun args hh x hx => ?_)
    unfold pickP at hx
    split at hx
    · rename_i ri rg k0 k1 ti tg m
      injection hx with hx
      subst hx
      refine ⟨by first | exact Nat.le_refl _ | exact Nat.zero_le _ | exact Nat.le_succ _, noLit rfl, (fun hw => by first | rfl | cases hw), fun _ hv => ?_⟩
      obtain ⟨hp, hd⟩ := hv
      generalize hG : Rx.Ends (R := Rs) _ _ = G
      refine rx_ok (T := (TPick K k)) (show TabOk D Try.prog (TPick K k) from ⟨liftC_ok _ _ cmp_ok, liftC_ok _ _ look_ok, liftC_ok _ _ level_ok, liftC_ok _ _ (glue_ok K), liftC_ok _ _ ih, trivial⟩) mixed 200 ?_
      refine as_text (q := let zz19 := Value.pointer (some (Addr.mk 1 0 none)); let zz20 := Value.int IntKind.i64; let zz1 := (Gv.lk O7 m (Gv.Ref.mk ri rg)); let zz2 := (Array.mk [zz20 ri, zz20 rg]); let zz3 := (Gv.see m (Gv.Ref.mk ri rg)); let zz4 := (Gv.Node.l zz1); let zz5 := (Gv.Node.r zz1); let zz6 := (Ti.Td.n (Gv.Part.sum (Gv.Node.all zz1))); let zz7 := (Ti.Td.s (Gv.Part.sum (Gv.Node.all zz1))); let zz8 := (Ti.Td.l (Gv.Part.sum (Gv.Node.all zz1))); let zz9 := (Prod.fst (Prod.snd (Gv.pick O7 K k zz3 zz4 (El.mk k0 k1)))); let zz10 := (if false = true then !(Gv.Ref.i zz9 == (0 : Int) && (Gv.Ref.g zz9 == (0 : Int) && true)) else Gv.Ref.i zz9 == (0 : Int) && (Gv.Ref.g zz9 == (0 : Int) && true)); let zz11 := (Prod.snd (Prod.snd (Gv.pick O7 K k zz3 zz4 (El.mk k0 k1)))); let zz12 := (Prod.fst (Gv.pick O7 K k zz3 zz4 (El.mk k0 k1))); let zz13 := (Gv.level O7 zz11 (Gv.Ref.mk ri rg) (Gv.Node.mk (Gv.Node.e zz1) zz12 zz5 (Gv.Node.all zz1) (Gv.Node.h zz1))); let zz14 := (Prod.fst (Prod.snd (Gv.pick O7 K k zz3 zz5 (El.mk k0 k1)))); let zz15 := (if false = true then !(Gv.Ref.i zz14 == (0 : Int) && (Gv.Ref.g zz14 == (0 : Int) && true)) else Gv.Ref.i zz14 == (0 : Int) && (Gv.Ref.g zz14 == (0 : Int) && true)); let zz16 := (Prod.snd (Prod.snd (Gv.pick O7 K k zz3 zz5 (El.mk k0 k1)))); let zz17 := (Prod.fst (Gv.pick O7 K k zz3 zz5 (El.mk k0 k1))); let zz18 := (Gv.level O7 zz16 (Gv.Ref.mk ri rg) (Gv.Node.mk (Gv.Node.e zz1) zz4 zz17 (Gv.Node.all zz1) (Gv.Node.h zz1))); Vc (PP m) ∧ ((Gv.Node.h zz1 == (0 : Int)) = true → Post (G (Value.tuple (Array.mk [Value.agg zz2, Value.agg (Array.mk [zz20 0, zz20 0])])) [some (Sum.inl (76, [zz19, zz20 ti, zz20 tg])), some (Sum.inr (Sum.inr (Sum.inr (Rs.pool zz3)))), some (Sum.inl (70, [zz20 ri, zz20 rg])), some (Sum.inl (28, [zz20 k0, zz20 k1])), some (Sum.inl (70, [zz20 ri, zz20 rg])), some (Sum.inl (70, [zz20 0, zz20 0])), some (Sum.inl (74, [zz20 (El.k (Gv.Node.e zz1)), zz20 (El.w (Gv.Node.e zz1)), zz20 (Gv.Ref.i zz4), zz20 (Gv.Ref.g zz4), zz20 (Gv.Ref.i zz5), zz20 (Gv.Ref.g zz5), zz20 (Gv.Part.n (Gv.Node.all zz1)), zz20 zz6, zz20 zz7, zz20 zz8, zz20 (Gv.Node.h zz1)]))])) ∧ ((Gv.Node.h zz1 == (0 : Int)) = false → Vc True ∧ Vc True ∧ (decide (Gv.Ops.cmp O7 (El.mk k0 k1) (Gv.Node.e zz1) < (0 : Int)) = true → Vc (PP zz3 ∧ Gv.PickD O7 K k zz3 zz4 (El.mk k0 k1)) ∧ (zz10 = true → Post (G (Value.tuple (Array.mk [Value.agg zz2, Value.agg (Array.mk [zz20 (Gv.Ref.i zz9), zz20 (Gv.Ref.g zz9)])])) [some (Sum.inl (76, [zz19, zz20 ti, zz20 tg])), some (Sum.inr (Sum.inr (Sum.inr (Rs.pool zz11)))), some (Sum.inl (70, [zz20 ri, zz20 rg])), some (Sum.inl (28, [zz20 k0, zz20 k1])), some (Sum.inl (70, [zz20 ri, zz20 rg])), some (Sum.inl (70, [zz20 (Gv.Ref.i zz9), zz20 (Gv.Ref.g zz9)])), some (Sum.inl (74, [zz20 (El.k (Gv.Node.e zz1)), zz20 (El.w (Gv.Node.e zz1)), zz20 (Gv.Ref.i zz12), zz20 (Gv.Ref.g zz12), zz20 (Gv.Ref.i zz5), zz20 (Gv.Ref.g zz5), zz20 (Gv.Part.n (Gv.Node.all zz1)), zz20 zz6, zz20 zz7, zz20 zz8, zz20 (Gv.Node.h zz1)]))])) ∧ (zz10 = false → Vc (PP zz11) ∧ Post (G (Value.tuple (Array.mk [Value.agg (Array.mk [zz20 (Gv.Ref.i (Prod.fst zz13)), zz20 (Gv.Ref.g (Prod.fst zz13))]), Value.agg (Array.mk [zz20 (Gv.Ref.i zz9), zz20 (Gv.Ref.g zz9)])])) [some (Sum.inl (76, [zz19, zz20 ti, zz20 tg])), some (Sum.inr (Sum.inr (Sum.inr (Rs.pool (Prod.snd zz13))))), some (Sum.inl (70, [zz20 ri, zz20 rg])), some (Sum.inl (28, [zz20 k0, zz20 k1])), some (Sum.inl (70, [zz20 (Gv.Ref.i (Prod.fst zz13)), zz20 (Gv.Ref.g (Prod.fst zz13))])), some (Sum.inl (70, [zz20 (Gv.Ref.i zz9), zz20 (Gv.Ref.g zz9)])), some (Sum.inl (74, [zz20 (El.k (Gv.Node.e zz1)), zz20 (El.w (Gv.Node.e zz1)), zz20 (Gv.Ref.i zz12), zz20 (Gv.Ref.g zz12), zz20 (Gv.Ref.i zz5), zz20 (Gv.Ref.g zz5), zz20 (Gv.Part.n (Gv.Node.all zz1)), zz20 zz6, zz20 zz7, zz20 zz8, zz20 (Gv.Node.h zz1)]))]))) ∧ (decide (Gv.Ops.cmp O7 (El.mk k0 k1) (Gv.Node.e zz1) < (0 : Int)) = false → (decide (Gv.Ops.cmp O7 (El.mk k0 k1) (Gv.Node.e zz1) > (0 : Int)) = true → Vc (PP zz3 ∧ Gv.PickD O7 K k zz3 zz5 (El.mk k0 k1)) ∧ (zz15 = true → Post (G (Value.tuple (Array.mk [Value.agg zz2, Value.agg (Array.mk [zz20 (Gv.Ref.i zz14), zz20 (Gv.Ref.g zz14)])])) [some (Sum.inl (76, [zz19, zz20 ti, zz20 tg])), some (Sum.inr (Sum.inr (Sum.inr (Rs.pool zz16)))), some (Sum.inl (70, [zz20 ri, zz20 rg])), some (Sum.inl (28, [zz20 k0, zz20 k1])), some (Sum.inl (70, [zz20 ri, zz20 rg])), some (Sum.inl (70, [zz20 (Gv.Ref.i zz14), zz20 (Gv.Ref.g zz14)])), some (Sum.inl (74, [zz20 (El.k (Gv.Node.e zz1)), zz20 (El.w (Gv.Node.e zz1)), zz20 (Gv.Ref.i zz4), zz20 (Gv.Ref.g zz4), zz20 (Gv.Ref.i zz17), zz20 (Gv.Ref.g zz17), zz20 (Gv.Part.n (Gv.Node.all zz1)), zz20 zz6, zz20 zz7, zz20 zz8, zz20 (Gv.Node.h zz1)]))])) ∧ (zz15 = false → Vc (PP zz16) ∧ Post (G (Value.tuple (Array.mk [Value.agg (Array.mk [zz20 (Gv.Ref.i (Prod.fst zz18)), zz20 (Gv.Ref.g (Prod.fst zz18))]), Value.agg (Array.mk [zz20 (Gv.Ref.i zz14), zz20 (Gv.Ref.g zz14)])])) [some (Sum.inl (76, [zz19, zz20 ti, zz20 tg])), some (Sum.inr (Sum.inr (Sum.inr (Rs.pool (Prod.snd zz18))))), some (Sum.inl (70, [zz20 ri, zz20 rg])), some (Sum.inl (28, [zz20 k0, zz20 k1])), some (Sum.inl (70, [zz20 (Gv.Ref.i (Prod.fst zz18)), zz20 (Gv.Ref.g (Prod.fst zz18))])), some (Sum.inl (70, [zz20 (Gv.Ref.i zz14), zz20 (Gv.Ref.g zz14)])), some (Sum.inl (74, [zz20 (El.k (Gv.Node.e zz1)), zz20 (El.w (Gv.Node.e zz1)), zz20 (Gv.Ref.i zz4), zz20 (Gv.Ref.g zz4), zz20 (Gv.Ref.i zz17), zz20 (Gv.Ref.g zz17), zz20 (Gv.Part.n (Gv.Node.all zz1)), zz20 zz6, zz20 zz7, zz20 zz8, zz20 (Gv.Node.h zz1)]))]))) ∧ (decide (Gv.Ops.cmp O7 (El.mk k0 k1) (Gv.Node.e zz1) > (0 : Int)) = false → Vc (PP zz3 ∧ Gv.GlueD O7 K zz3 zz4 zz5) ∧ Post (G (Value.tuple (Array.mk [Value.agg (Array.mk [zz20 (Gv.Ref.i (Prod.fst (Gv.glue O7 K zz3 zz4 zz5))), zz20 (Gv.Ref.g (Prod.fst (Gv.glue O7 K zz3 zz4 zz5)))]), Value.agg zz2])) [some (Sum.inl (76, [zz19, zz20 ti, zz20 tg])), some (Sum.inr (Sum.inr (Sum.inr (Rs.pool (Prod.snd (Gv.glue O7 K zz3 zz4 zz5)))))), some (Sum.inl (70, [zz20 ri, zz20 rg])), some (Sum.inl (28, [zz20 k0, zz20 k1])), some (Sum.inl (70, [zz20 (Gv.Ref.i (Prod.fst (Gv.glue O7 K zz3 zz4 zz5))), zz20 (Gv.Ref.g (Prod.fst (Gv.glue O7 K zz3 zz4 zz5)))])), some (Sum.inl (70, [zz20 ri, zz20 rg])), some (Sum.inl (74, [zz20 (El.k (Gv.Node.e zz1)), zz20 (El.w (Gv.Node.e zz1)), zz20 (Gv.Ref.i zz4), zz20 (Gv.Ref.g zz4), zz20 (Gv.Ref.i zz5), zz20 (Gv.Ref.g zz5), zz20 (Gv.Part.n (Gv.Node.all zz1)), zz20 zz6, zz20 zz7, zz20 zz8, zz20 (Gv.Node.h zz1)]))]))))) ?_ (by kernel_rfl)
      intro zz19 zz20 zz1 zz2 zz3 zz4 zz5 zz6 zz7 zz8 zz9 zz10 zz11 zz12 zz13 zz14 zz15 zz16 zz17 zz18; subst zz18 zz17 zz16 zz15 zz14 zz13 zz12 zz11 zz10 zz9 zz8 zz7 zz6 zz5 zz4 zz3 zz2 zz1 zz20 zz19
      rw [Gv.PickD] at hd
      have done : ∀ (i g i2 g2 : Int) (m' : Pl) (rest : Hp Rs), Gv.pick O7 K (k + 1) m ⟨ri, rg⟩ (⟨k0, k1⟩ : El) = (⟨i, g⟩, ⟨i2, g2⟩, m') → G (.tuple #[.agg ⟨[.int .i64 i, .int .i64 g]⟩, .agg ⟨[.int .i64 i2, .int .i64 g2]⟩]) ([some (.inl (76, [.pointer (some ⟨1, 0, none⟩), .int .i64 ti, .int .i64 tg])), some (.inr (.inr (.inr (.pool m'))))] ++ rest) := by
        intro i g i2 g2 m' rest e
        subst hG
        refine ⟨[0, 1], ?_, rfl, ⟨.inl rfl, ?_, trivial⟩, rfl, rfl, rfl, rfl⟩
        · simp only [e]; rfl
        · simp only [e]; rfl
      clear hG
      try simp only [Gv.eq0, Gv.ref_eta]
      repeat' (first | apply And.intro | apply Vc.mk | apply fits.mk | intro h | apply Post.mk)
      all_goals (try simp only [decide_eq_true_eq, decide_eq_false_iff_not, Nat.zero_add, ge_iff_le, Int.not_le, Int.not_lt, Int.toNat_natCast, beq_iff_eq, beq_eq_false_iff_ne, bne_iff_ne, bne_eq_false_iff_eq, Bool.not_eq_true', Bool.not_eq_false'] at *)
      all_goals first | contradiction | omega | (apply congrArg Value.bool; assumption) | exact congrArg Value.bool (decide_eq_true (by assumption)) | exact congrArg Value.bool (decide_eq_false (Int.not_lt.mpr (by assumption))) | exact ⟨rfl, by omega⟩ | exact rfl | (simp [*, -List.getD_eq_getElem?_getD]; done) | skip
      all_goals first | assumption | (simp only [Gv.see_ok, Gv.put1_ok, Gv.setN_ok, Gv.tie_ok, Gv.turnL_ok, Gv.turnR_ok, Gv.level_ok, Gv.replace_ok, Gv.hang_ok, Gv.link_ok, Gv.pickF_ok, Gv.glue_ok, Gv.pick_ok, Gv.cutF_ok, Gv.gather_ok, Gv.between_ok, Gv.first_ok, Gv.last_ok]; assumption) | skip
      all_goals first | (rw [if_neg (by assumption), if_pos (by assumption)] at hd; exact hd) | (rw [if_neg (by assumption), if_neg (by omega), if_pos (by assumption)] at hd; exact hd) | (rw [if_neg (by assumption), if_neg (by omega), if_neg (by omega)] at hd; exact hd) | skip
      all_goals (refine done _ _ _ _ _ _ ?_; rw [Gv.pick]; (try dsimp only [Gv.W]); repeat' split)
      all_goals first | rfl | (exfalso; omega) | contradiction | exact Prod.ext (Eq.symm (by assumption)) rfl | (exfalso; simp_all; done)
    · cases hx
def cutFP (K : Nat) (k : Nat) : Prim Rs := fun args hh => match args, hh with
  | [.pointer (some ⟨0, 0, none⟩), .agg ⟨[.int .i64 ri, .int .i64 rg]⟩, .agg ⟨[.int .i64 k0, .int .i64 k1]⟩], [some (.inl (76, [.pointer (some ⟨1, 0, none⟩), .int .i64 ti, .int .i64 tg])), some (.inr (.inr (.inr (.pool m))))] => some ⟨PP m ∧ Gv.CutD O7 K k m ⟨ri, rg⟩ (⟨k0, k1⟩ : El), .tuple #[.agg ⟨[.int .i64 (Gv.cutF O7 K k m ⟨ri, rg⟩ (⟨k0, k1⟩ : El)).1.i, .int .i64 (Gv.cutF O7 K k m ⟨ri, rg⟩ (⟨k0, k1⟩ : El)).1.g]⟩, .agg ⟨[.int .i64 (Gv.cutF O7 K k m ⟨ri, rg⟩ (⟨k0, k1⟩ : El)).2.1.i, .int .i64 (Gv.cutF O7 K k m ⟨ri, rg⟩ (⟨k0, k1⟩ : El)).2.1.g]⟩], none, [some (.inl (76, [.pointer (some ⟨1, 0, none⟩), .int .i64 ti, .int .i64 tg])), some (.inr (.inr (.inr (.pool (Gv.cutF O7 K k m ⟨ri, rg⟩ (⟨k0, k1⟩ : El)).2.2))))], [], [(0, 0)]⟩
  | _, _ => none
def TCutF (K : Nat) (k : Nat) : Tab Rs := [(82, liftC zN 2 (con1 cmpP)), (46, liftC zN 2 (con1 lookP)), (61, liftC zN 2 (con1 (linkP K))), (51, liftC zN 2 (con1 (cutFP K k)))]
theorem cutF_ok (K : Nat) : ∀ k : Nat, ConOk D Try.prog 51 (con1 (cutFP K k))
  | 0 => by
    refine con1_ok (prim_at (fn := Try.f51) (root := codeOf Try.f51) (by kernel_rfl) (by kernel_rfl) (by kernel_rfl) fun args hh x hx => ?_)
    unfold cutFP at hx
    split at hx
    · rename_i ri rg k0 k1 ti tg m
      injection hx with hx
      subst hx
      refine ⟨by first | exact Nat.le_refl _ | exact Nat.zero_le _ | exact Nat.le_succ _, noLit rfl, (fun hw => by first | rfl | cases hw), fun _ hv => ?_⟩
      exact False.elim (And.right hv)
    · cases hx
  | k + 1 => by
    have ih := cutF_ok K k
    refine con1_ok (prim_at (fn := Try.f51) (root := codeOf Try.f51) (by kernel_rfl) (by kernel_rfl) (by kernel_rfl) fun args hh x hx => ?_)
    unfold cutFP at hx
    split at hx
    · rename_i ri rg k0 k1 ti tg m
      injection hx with hx
      subst hx
      refine ⟨by first | exact Nat.le_refl _ | exact Nat.zero_le _ | exact Nat.le_succ _, noLit rfl, (fun hw => by first | rfl | cases hw), fun _ hv => ?_⟩
      obtain ⟨hp, hd⟩ := hv
      generalize hG : Rx.Ends (R := Rs) _ _ = G
      refine rx_ok (T := (TCutF K k)) (show TabOk D Try.prog (TCutF K k) from ⟨liftC_ok _ _ cmp_ok, liftC_ok _ _ look_ok, liftC_ok _ _ (link_ok K), liftC_ok _ _ ih, trivial⟩) mixed 200 ?_
      refine as_text (q := let zz8 := Value.pointer (some (Addr.mk 1 0 none)); let zz9 := Value.int IntKind.i64; let zz1 := (Gv.Ref.mk ri rg); let zz2 := (Gv.lk O7 m zz1); let zz3 := (Array.mk [zz9 0, zz9 0]); let zz4 := (Gv.cutF O7 K k (Gv.see m zz1) (Gv.Node.r zz2) (El.mk k0 k1)); let zz5 := (Gv.link O7 K (Prod.snd (Prod.snd zz4)) (Gv.Node.l zz2) zz1 (Prod.fst zz4)); let zz6 := (Gv.cutF O7 K k (Gv.see m zz1) (Gv.Node.l zz2) (El.mk k0 k1)); let zz7 := (Gv.link O7 K (Prod.snd (Prod.snd zz6)) (Prod.fst (Prod.snd zz6)) zz1 (Gv.Node.r zz2)); Vc (PP m) ∧ ((Gv.Node.h zz2 == (0 : Int)) = true → Post (G (Value.tuple (Array.mk [Value.agg zz3, Value.agg zz3])) [some (Sum.inl (76, [zz8, zz9 ti, zz9 tg])), some (Sum.inr (Sum.inr (Sum.inr (Rs.pool (Gv.see m zz1))))), some (Sum.inl (70, [zz9 ri, zz9 rg])), some (Sum.inl (28, [zz9 k0, zz9 k1])), some (Sum.inl (70, [zz9 0, zz9 0])), some (Sum.inl (70, [zz9 0, zz9 0])), some (Sum.inl (74, [zz9 (El.k (Gv.Node.e zz2)), zz9 (El.w (Gv.Node.e zz2)), zz9 (Gv.Ref.i (Gv.Node.l zz2)), zz9 (Gv.Ref.g (Gv.Node.l zz2)), zz9 (Gv.Ref.i (Gv.Node.r zz2)), zz9 (Gv.Ref.g (Gv.Node.r zz2)), zz9 (Gv.Part.n (Gv.Node.all zz2)), zz9 (Ti.Td.n (Gv.Part.sum (Gv.Node.all zz2))), zz9 (Ti.Td.s (Gv.Part.sum (Gv.Node.all zz2))), zz9 (Ti.Td.l (Gv.Part.sum (Gv.Node.all zz2))), zz9 (Gv.Node.h zz2)]))])) ∧ ((Gv.Node.h zz2 == (0 : Int)) = false → Vc True ∧ Vc True ∧ (decide (Gv.Ops.cmp O7 (Gv.Node.e zz2) (El.mk k0 k1) < (0 : Int)) = true → Vc (PP (Gv.see m zz1) ∧ Gv.CutD O7 K k (Gv.see m zz1) (Gv.Node.r zz2) (El.mk k0 k1)) ∧ Vc (PP (Prod.snd (Prod.snd zz4)) ∧ Gv.LinkD O7 K (Prod.snd (Prod.snd zz4)) (Gv.Node.l zz2) zz1 (Prod.fst zz4)) ∧ Post (G (Value.tuple (Array.mk [Value.agg (Array.mk [zz9 (Gv.Ref.i (Prod.fst zz5)), zz9 (Gv.Ref.g (Prod.fst zz5))]), Value.agg (Array.mk [zz9 (Gv.Ref.i (Prod.fst (Prod.snd zz4))), zz9 (Gv.Ref.g (Prod.fst (Prod.snd zz4)))])])) [some (Sum.inl (76, [zz8, zz9 ti, zz9 tg])), some (Sum.inr (Sum.inr (Sum.inr (Rs.pool (Prod.snd zz5))))), some (Sum.inl (70, [zz9 ri, zz9 rg])), some (Sum.inl (28, [zz9 k0, zz9 k1])), some (Sum.inl (70, [zz9 (Gv.Ref.i (Prod.fst zz5)), zz9 (Gv.Ref.g (Prod.fst zz5))])), some (Sum.inl (70, [zz9 (Gv.Ref.i (Prod.fst (Prod.snd zz4))), zz9 (Gv.Ref.g (Prod.fst (Prod.snd zz4)))])), some (Sum.inl (74, [zz9 (El.k (Gv.Node.e zz2)), zz9 (El.w (Gv.Node.e zz2)), zz9 (Gv.Ref.i (Gv.Node.l zz2)), zz9 (Gv.Ref.g (Gv.Node.l zz2)), zz9 (Gv.Ref.i (Gv.Node.r zz2)), zz9 (Gv.Ref.g (Gv.Node.r zz2)), zz9 (Gv.Part.n (Gv.Node.all zz2)), zz9 (Ti.Td.n (Gv.Part.sum (Gv.Node.all zz2))), zz9 (Ti.Td.s (Gv.Part.sum (Gv.Node.all zz2))), zz9 (Ti.Td.l (Gv.Part.sum (Gv.Node.all zz2))), zz9 (Gv.Node.h zz2)]))])) ∧ (decide (Gv.Ops.cmp O7 (Gv.Node.e zz2) (El.mk k0 k1) < (0 : Int)) = false → Vc (PP (Gv.see m zz1) ∧ Gv.CutD O7 K k (Gv.see m zz1) (Gv.Node.l zz2) (El.mk k0 k1)) ∧ Vc (PP (Prod.snd (Prod.snd zz6)) ∧ Gv.LinkD O7 K (Prod.snd (Prod.snd zz6)) (Prod.fst (Prod.snd zz6)) zz1 (Gv.Node.r zz2)) ∧ Post (G (Value.tuple (Array.mk [Value.agg (Array.mk [zz9 (Gv.Ref.i (Prod.fst zz6)), zz9 (Gv.Ref.g (Prod.fst zz6))]), Value.agg (Array.mk [zz9 (Gv.Ref.i (Prod.fst zz7)), zz9 (Gv.Ref.g (Prod.fst zz7))])])) [some (Sum.inl (76, [zz8, zz9 ti, zz9 tg])), some (Sum.inr (Sum.inr (Sum.inr (Rs.pool (Prod.snd zz7))))), some (Sum.inl (70, [zz9 ri, zz9 rg])), some (Sum.inl (28, [zz9 k0, zz9 k1])), some (Sum.inl (70, [zz9 (Gv.Ref.i (Prod.fst zz6)), zz9 (Gv.Ref.g (Prod.fst zz6))])), some (Sum.inl (70, [zz9 (Gv.Ref.i (Prod.fst zz7)), zz9 (Gv.Ref.g (Prod.fst zz7))])), some (Sum.inl (74, [zz9 (El.k (Gv.Node.e zz2)), zz9 (El.w (Gv.Node.e zz2)), zz9 (Gv.Ref.i (Gv.Node.l zz2)), zz9 (Gv.Ref.g (Gv.Node.l zz2)), zz9 (Gv.Ref.i (Gv.Node.r zz2)), zz9 (Gv.Ref.g (Gv.Node.r zz2)), zz9 (Gv.Part.n (Gv.Node.all zz2)), zz9 (Ti.Td.n (Gv.Part.sum (Gv.Node.all zz2))), zz9 (Ti.Td.s (Gv.Part.sum (Gv.Node.all zz2))), zz9 (Ti.Td.l (Gv.Part.sum (Gv.Node.all zz2))), zz9 (Gv.Node.h zz2)]))])))) ?_ (by kernel_rfl)
      intro zz8 zz9 zz1 zz2 zz3 zz4 zz5 zz6 zz7; subst zz7 zz6 zz5 zz4 zz3 zz2 zz1 zz9 zz8
      rw [Gv.CutD] at hd
      have done : ∀ (i g i2 g2 : Int) (m' : Pl) (rest : Hp Rs), Gv.cutF O7 K (k + 1) m ⟨ri, rg⟩ (⟨k0, k1⟩ : El) = (⟨i, g⟩, ⟨i2, g2⟩, m') → G (.tuple #[.agg ⟨[.int .i64 i, .int .i64 g]⟩, .agg ⟨[.int .i64 i2, .int .i64 g2]⟩]) ([some (.inl (76, [.pointer (some ⟨1, 0, none⟩), .int .i64 ti, .int .i64 tg])), some (.inr (.inr (.inr (.pool m'))))] ++ rest) := by
        intro i g i2 g2 m' rest e
        subst hG
        refine ⟨[0, 1], ?_, rfl, ⟨.inl rfl, ?_, trivial⟩, rfl, rfl, rfl, rfl⟩
        · simp only [e]; rfl
        · simp only [e]; rfl
      clear hG
      try simp only [Gv.eq0, Gv.ref_eta]
      repeat' (first | apply And.intro | apply Vc.mk | apply fits.mk | intro h | apply Post.mk)
      all_goals (try simp only [decide_eq_true_eq, decide_eq_false_iff_not, Nat.zero_add, ge_iff_le, Int.not_le, Int.not_lt, Int.toNat_natCast, beq_iff_eq, beq_eq_false_iff_ne, bne_iff_ne, bne_eq_false_iff_eq, Bool.not_eq_true', Bool.not_eq_false'] at *)
      all_goals first | contradiction | omega | (apply congrArg Value.bool; assumption) | exact congrArg Value.bool (decide_eq_true (by assumption)) | exact congrArg Value.bool (decide_eq_false (Int.not_lt.mpr (by assumption))) | exact ⟨rfl, by omega⟩ | exact rfl | (simp [*, -List.getD_eq_getElem?_getD]; done) | skip
      all_goals first | assumption | (simp only [Gv.see_ok, Gv.put1_ok, Gv.setN_ok, Gv.tie_ok, Gv.turnL_ok, Gv.turnR_ok, Gv.level_ok, Gv.replace_ok, Gv.hang_ok, Gv.link_ok, Gv.pickF_ok, Gv.glue_ok, Gv.pick_ok, Gv.cutF_ok, Gv.gather_ok, Gv.between_ok, Gv.first_ok, Gv.last_ok]; assumption) | skip
      all_goals first | (rw [if_neg (by assumption), if_pos (by assumption)] at hd; first | exact hd.1 | exact hd.2) | (rw [if_neg (by assumption), if_neg (by omega)] at hd; first | exact hd.1 | exact hd.2) | skip
      all_goals (refine done _ _ _ _ _ _ ?_; rw [Gv.cutF]; (try dsimp only [Gv.W]); repeat' split)
      all_goals first | rfl | (exfalso; omega) | contradiction | exact Prod.ext (Eq.symm (by assumption)) rfl | (exfalso; simp_all; done)
    · cases hx
end Go.Proofs.Ytclagkjjgmeifaa.G7


/- grove: a pool of nodes of keys and numbers: its functions: gather. -/
namespace Go.Proofs.Ytclagkjjgmeifaa.G7
open Go.Proofs.Ytclagkjjgmeifaa.Rx
set_option linter.unusedVariables false
set_option linter.unusedSimpArgs false
set_option maxRecDepth 100000
def gatherP  (k : Nat) : Prim Rs := fun args hh => match args, hh with
  | [.pointer (some ⟨0, 0, none⟩), .slice (some ⟨1, 0, some 2000⟩) n cp, .agg ⟨[.int .i64 ri, .int .i64 rg]⟩], [some (.inl (76, [.pointer (some ⟨2, 0, none⟩), .int .i64 ti, .int .i64 tg])), some (.inr (.inl (28, ⟨[.int .i64 0, .int .i64 0], n2, [⟨a0, [], []⟩, ⟨a1, [], []⟩]⟩))), some (.inr (.inr (.inr (.pool m))))] => some ⟨(PP m ∧ n2 = n ∧ a0.length = n ∧ a1.length = n ∧ n + (Gv.gather O7 k m ⟨ri, rg⟩).1.length < 900000) ∧ Gv.Deep O7 k m ⟨ri, rg⟩, .slice (some ⟨3, 0, some 2000⟩) (n + (Gv.gather O7 k m ⟨ri, rg⟩).1.length) (if (Gv.gather O7 k m ⟨ri, rg⟩).1.length = 0 then cp else 0), none, [some (.inl (76, [.pointer (some ⟨2, 0, none⟩), .int .i64 ti, .int .i64 tg])), none, some (.inr (.inr (.inr (.pool (Gv.gather O7 k m ⟨ri, rg⟩).2)))), some (.inr (.inl (28, ⟨[.int .i64 0, .int .i64 0], (n + (Gv.gather O7 k m ⟨ri, rg⟩).1.length), [⟨(a0 ++ (Gv.gather O7 k m ⟨ri, rg⟩).1.map fun e => e.k), [], []⟩, ⟨(a1 ++ (Gv.gather O7 k m ⟨ri, rg⟩).1.map fun e => e.w), [], []⟩]⟩)))], [], [(0, 0)]⟩
  | _, _ => none
def TGather (k : Nat) : Tab Rs := [(46, liftC zN 2 (con1 lookP)), (54, liftC zN 2 (con1 (gatherP k)))]
theorem gather_ok : ∀ k : Nat, ConOk D Try.prog 54 (con1 (gatherP k))
  | 0 => by
    refine con1_ok (prim_at (fn := Try.f54) (root := codeOf Try.f54) (by kernel_rfl) (by kernel_rfl) (by kernel_rfl) fun args hh x hx => ?_)
    unfold gatherP at hx
    split at hx
    · rename_i n cp ri rg ti tg n2 a0 a1 m
      injection hx with hx
      subst hx
      refine ⟨by first | exact Nat.le_refl _ | exact Nat.zero_le _ | exact Nat.le_succ _, noLit rfl, (fun hw => by first | rfl | cases hw), fun _ hv => ?_⟩
      exact False.elim (And.right hv)
    · cases hx
  | k + 1 => by
    have ih := gather_ok k
    refine con1_ok (prim_at (fn := Try.f54) (root := codeOf Try.f54) (by kernel_rfl) (by kernel_rfl) (by kernel_rfl) fun args hh x hx => ?_)
    unfold gatherP at hx
    split at hx
    · rename_i n cp ri rg ti tg n2 a0 a1 m
      injection hx with hx
      subst hx
      refine ⟨by first | exact Nat.le_refl _ | exact Nat.zero_le _ | exact Nat.le_succ _, noLit rfl, (fun hw => by first | rfl | cases hw), fun _ hv => ?_⟩
      obtain ⟨⟨hp, rfl, ha0, ha1, hb⟩, hd⟩ := hv
      generalize hG : Rx.Ends (R := Rs) _ _ = G
      refine rx_ok (T := (TGather k)) (show TabOk D Try.prog (TGather k) from ⟨liftC_ok _ _ look_ok, liftC_ok _ _ ih, trivial⟩) mixed 200 ?_
      refine as_text (q := let zz8 := Value.int IntKind.i64; let zz1 := (Gv.lk O7 m (Gv.Ref.mk ri rg)); let zz2 := (Gv.see m (Gv.Ref.mk ri rg)); let zz3 := (Gv.Node.e zz1); let zz4 := (Prod.fst (Gv.gather O7 k zz2 (Gv.Node.l zz1))); let zz5 := (n2 + List.length zz4); let zz6 := (Prod.snd (Gv.gather O7 k zz2 (Gv.Node.l zz1))); let zz7 := (Prod.fst (Gv.gather O7 k zz6 (Gv.Node.r zz1))); Vc (PP m) ∧ ((Gv.Node.h zz1 == (0 : Int)) = true → Post (G (Value.slice (some (Addr.mk 1 0 (some 2000))) n2 cp) [some (Sum.inl (76, [Value.pointer (some (Addr.mk 2 0 none)), zz8 ti, zz8 tg])), some (Sum.inr (Sum.inl (28, Row.mk [zz8 0, zz8 0] n2 [Col.mk a0 [] [], Col.mk a1 [] []]))), some (Sum.inr (Sum.inr (Sum.inr (Rs.pool zz2)))), some (Sum.inl (70, [zz8 ri, zz8 rg])), some (Sum.inr (Sum.inl (28, Row.mk [zz8 0, zz8 0] 0 [Col.mk [] [] [], Col.mk [] [] []]))), some (Sum.inl (74, [zz8 (El.k zz3), zz8 (El.w zz3), zz8 (Gv.Ref.i (Gv.Node.l zz1)), zz8 (Gv.Ref.g (Gv.Node.l zz1)), zz8 (Gv.Ref.i (Gv.Node.r zz1)), zz8 (Gv.Ref.g (Gv.Node.r zz1)), zz8 (Gv.Part.n (Gv.Node.all zz1)), zz8 (Ti.Td.n (Gv.Part.sum (Gv.Node.all zz1))), zz8 (Ti.Td.s (Gv.Part.sum (Gv.Node.all zz1))), zz8 (Ti.Td.l (Gv.Part.sum (Gv.Node.all zz1))), zz8 (Gv.Node.h zz1)]))])) ∧ ((Gv.Node.h zz1 == (0 : Int)) = false → Vc ((PP zz2 ∧ n2 = n2 ∧ List.length a0 = n2 ∧ List.length a1 = n2 ∧ n2 + List.length zz4 < 900000) ∧ Gv.Deep O7 k zz2 (Gv.Node.l zz1)) ∧ Vc (0 + zz5 ≤ n2 + List.length zz4 ∧ 1 ≤ 1 ∧ (n2 + List.length zz4 + 1) * 16 ≤ 140737488355328 ∧ n2 + List.length zz4 + 1 ≤ 140737488355328) ∧ Vc ((PP zz6 ∧ n2 + List.length zz4 + 1 = n2 + List.length zz4 + 1 ∧ List.length (cut (a0 ++ List.map (fun e => El.k e) zz4) 0 zz5 ++ cut [El.k zz3] 0 1) = n2 + List.length zz4 + 1 ∧ List.length (cut (a1 ++ List.map (fun e => El.w e) zz4) 0 zz5 ++ cut [El.w zz3] 0 1) = n2 + List.length zz4 + 1 ∧ n2 + List.length zz4 + 1 + List.length zz7 < 900000) ∧ Gv.Deep O7 k zz6 (Gv.Node.r zz1)) ∧ Post (G (Value.slice (some (Addr.mk 9 0 (some 2000))) (n2 + List.length zz4 + 1 + List.length zz7) (if List.length zz7 = 0 then 0 else 0)) [some (Sum.inl (76, [Value.pointer (some (Addr.mk 2 0 none)), zz8 ti, zz8 tg])), none, some (Sum.inr (Sum.inr (Sum.inr (Rs.pool (Prod.snd (Gv.gather O7 k zz6 (Gv.Node.r zz1))))))), some (Sum.inl (70, [zz8 ri, zz8 rg])), some (Sum.inr (Sum.inl (28, Row.mk [zz8 0, zz8 0] 0 [Col.mk [] [] [], Col.mk [] [] []]))), some (Sum.inl (74, [zz8 (El.k zz3), zz8 (El.w zz3), zz8 (Gv.Ref.i (Gv.Node.l zz1)), zz8 (Gv.Ref.g (Gv.Node.l zz1)), zz8 (Gv.Ref.i (Gv.Node.r zz1)), zz8 (Gv.Ref.g (Gv.Node.r zz1)), zz8 (Gv.Part.n (Gv.Node.all zz1)), zz8 (Ti.Td.n (Gv.Part.sum (Gv.Node.all zz1))), zz8 (Ti.Td.s (Gv.Part.sum (Gv.Node.all zz1))), zz8 (Ti.Td.l (Gv.Part.sum (Gv.Node.all zz1))), zz8 (Gv.Node.h zz1)])), none, some (Sum.inr (Sum.inl (28, Row.mk [zz8 0, zz8 0] 1 [Col.mk [El.k zz3] [] [], Col.mk [El.w zz3] [] []]))), none, some (Sum.inr (Sum.inl (28, Row.mk [zz8 0, zz8 0] (n2 + List.length zz4 + 1 + List.length zz7) [Col.mk (cut (a0 ++ List.map (fun e => El.k e) zz4) 0 zz5 ++ cut [El.k zz3] 0 1 ++ List.map (fun e => El.k e) zz7) [] [], Col.mk (cut (a1 ++ List.map (fun e => El.w e) zz4) 0 zz5 ++ cut [El.w zz3] 0 1 ++ List.map (fun e => El.w e) zz7) [] []])))]))) ?_ (by kernel_rfl)
      intro zz8 zz1 zz2 zz3 zz4 zz5 zz6 zz7; subst zz7 zz6 zz5 zz4 zz3 zz2 zz1 zz8
      simp only [Gv.Deep] at hd
      subst hG
      have c1 : ∀ x : Int, cut [x] 0 1 = [x] := fun x => rfl
      have c2 : ∀ x : Bool, cut [x] 0 1 = [x] := fun x => rfl
      have e0 : (Gv.lk O7 m (⟨ri, rg⟩ : Gv.Ref)).h = 0 → Gv.gather O7 (k + 1) m (⟨ri, rg⟩ : Gv.Ref) = ([], Gv.see m (⟨ri, rg⟩ : Gv.Ref)) := fun h => by rw [Gv.gather, if_pos h]
      have e1 : (Gv.lk O7 m (⟨ri, rg⟩ : Gv.Ref)).h ≠ 0 → Gv.gather O7 (k + 1) m (⟨ri, rg⟩ : Gv.Ref) = ((Gv.gather O7 k (Gv.see m (⟨ri, rg⟩ : Gv.Ref)) (Gv.lk O7 m (⟨ri, rg⟩ : Gv.Ref)).l).1 ++ (Gv.lk O7 m (⟨ri, rg⟩ : Gv.Ref)).e :: (Gv.gather O7 k (Gv.gather O7 k (Gv.see m (⟨ri, rg⟩ : Gv.Ref)) (Gv.lk O7 m (⟨ri, rg⟩ : Gv.Ref)).l).2 (Gv.lk O7 m (⟨ri, rg⟩ : Gv.Ref)).r).1, (Gv.gather O7 k (Gv.gather O7 k (Gv.see m (⟨ri, rg⟩ : Gv.Ref)) (Gv.lk O7 m (⟨ri, rg⟩ : Gv.Ref)).l).2 (Gv.lk O7 m (⟨ri, rg⟩ : Gv.Ref)).r).2) := fun h => by rw [Gv.gather, if_neg h]
      have hb2 : (Gv.lk O7 m (⟨ri, rg⟩ : Gv.Ref)).h ≠ 0 → n2 + ((Gv.gather O7 k (Gv.see m (⟨ri, rg⟩ : Gv.Ref)) (Gv.lk O7 m (⟨ri, rg⟩ : Gv.Ref)).l).1.length + ((Gv.gather O7 k (Gv.gather O7 k (Gv.see m (⟨ri, rg⟩ : Gv.Ref)) (Gv.lk O7 m (⟨ri, rg⟩ : Gv.Ref)).l).2 (Gv.lk O7 m (⟨ri, rg⟩ : Gv.Ref)).r).1.length + 1)) < 900000 := fun h => by rw [e1 h] at hb; simpa using hb
      generalize hx : Gv.gather O7 k (Gv.see m (⟨ri, rg⟩ : Gv.Ref)) (Gv.lk O7 m (⟨ri, rg⟩ : Gv.Ref)).l = x at *
      generalize hy : Gv.gather O7 k x.2 (Gv.lk O7 m (⟨ri, rg⟩ : Gv.Ref)).r = y at *
      have hxp : PP x.2 := by rw [← hx]; exact Gv.gather_ok.2 (Gv.see_ok.2 hp)
      have hd2 : ∀ q, Gv.Deep O7 k x.2 q ↔ Gv.Deep O7 k m q := fun q => by rw [← hx, Gv.Deep_gather, Gv.Deep_see]
      simp only [cut_eq (show (a0 ++ x.1.map fun e => e.k).length = n2 + x.1.length by simp [ha0]), cut_eq (show (a1 ++ x.1.map fun e => e.w).length = n2 + x.1.length by simp [ha1]), c1, c2, Gv.Deep_see, hd2]
      repeat' (first | apply And.intro | apply Vc.mk | apply fits.mk | intro h | apply Post.mk)
      all_goals (try simp only [decide_eq_true_eq, decide_eq_false_iff_not, Nat.zero_add, ge_iff_le, Int.not_le, Int.not_lt, Int.toNat_natCast, beq_iff_eq, beq_eq_false_iff_ne, bne_iff_ne, bne_eq_false_iff_eq, Bool.not_eq_true', Bool.not_eq_false'] at *)
      all_goals first | contradiction | omega | (apply congrArg Value.bool; assumption) | exact congrArg Value.bool (decide_eq_true (by assumption)) | exact congrArg Value.bool (decide_eq_false (Int.not_lt.mpr (by assumption))) | exact ⟨rfl, by omega⟩ | exact rfl | (simp [*, -List.getD_eq_getElem?_getD]; done) | skip
      all_goals first | omega | assumption | exact Gv.see_ok.2 hp | (rcases hd with hd | hd; exfalso; omega; first | exact hd.1 | exact hd.2) | (have := hb2 (by assumption); omega) | (simp; omega) | skip
      · have h0 : (Gv.lk O7 m (⟨ri, rg⟩ : Gv.Ref)).h = 0 := by assumption
        rw [e0 h0]
        simp only [List.length_nil, if_true]
        refine ⟨[0, 1, 2, 1], ?_, rfl, ?_, rfl, rfl, rfl, (by kernel_rfl)⟩
        · rfl
        · simp [Pulls, pullB, nth, at2, dnL, dnV, mvL, mvV, mvA, mvQ_lt, blt_true, blt_false, RowLe, colI, colB]
      · have h0 : (Gv.lk O7 m (⟨ri, rg⟩ : Gv.Ref)).h ≠ 0 := by assumption
        rw [e1 h0]
        have e2 : n2 + (x.1 ++ (Gv.lk O7 m (⟨ri, rg⟩ : Gv.Ref)).e :: y.1).length = n2 + x.1.length + 1 + y.1.length := by simp; omega
        have e3 : (x.1 ++ (Gv.lk O7 m (⟨ri, rg⟩ : Gv.Ref)).e :: y.1).length ≠ 0 := by simp
        simp only [e2, if_neg e3, ite_self]
        refine ⟨[0, 1, 2, 9], ?_, rfl, ?_, rfl, rfl, rfl, (by kernel_rfl)⟩
        · rfl
        · simp [Pulls, pullB, nth, at2, dnL, dnV, mvL, mvV, mvA, mvQ_lt, blt_true, blt_false, RowLe, colI, colB]
          all_goals first | rfl | omega | skip
    · cases hx
end Go.Proofs.Ytclagkjjgmeifaa.G7


/- grove: a pool of nodes of keys and numbers: its functions: between. -/
namespace Go.Proofs.Ytclagkjjgmeifaa.G7
open Go.Proofs.Ytclagkjjgmeifaa.Rx
set_option linter.unusedVariables false
set_option linter.unusedSimpArgs false
set_option maxRecDepth 100000
set_option maxHeartbeats 16000000
def betP  (k : Nat) : Prim Rs := fun args hh => match args, hh with
  | [.pointer (some ⟨0, 0, none⟩), .agg ⟨[.int .i64 x0, .int .i64 x1, .int .i64 x2, .int .i64 x3, .int .i64 x4, .int .i64 x5, .int .i64 x6, .int .i64 x7, .int .i64 x8, .int .i64 x9, .int .i64 x10]⟩, .int .i64 x_, .int .i64 y_], [some (.inl (76, [.pointer (some ⟨1, 0, none⟩), .int .i64 ti, .int .i64 tg])), some (.inr (.inr (.inr (.pool m))))] => some ⟨PP m ∧ Gv.BetE O7 k m (⟨⟨x0, x1⟩, ⟨x2, x3⟩, ⟨x4, x5⟩, ⟨x6, ⟨x7, x8, x9⟩⟩, x10⟩ : Nd) x_ y_, .agg ⟨[.int .i64 (Gv.between O7 k m (⟨⟨x0, x1⟩, ⟨x2, x3⟩, ⟨x4, x5⟩, ⟨x6, ⟨x7, x8, x9⟩⟩, x10⟩ : Nd) x_ y_).1.n, .int .i64 (Gv.between O7 k m (⟨⟨x0, x1⟩, ⟨x2, x3⟩, ⟨x4, x5⟩, ⟨x6, ⟨x7, x8, x9⟩⟩, x10⟩ : Nd) x_ y_).1.sum.n, .int .i64 (Gv.between O7 k m (⟨⟨x0, x1⟩, ⟨x2, x3⟩, ⟨x4, x5⟩, ⟨x6, ⟨x7, x8, x9⟩⟩, x10⟩ : Nd) x_ y_).1.sum.s, .int .i64 (Gv.between O7 k m (⟨⟨x0, x1⟩, ⟨x2, x3⟩, ⟨x4, x5⟩, ⟨x6, ⟨x7, x8, x9⟩⟩, x10⟩ : Nd) x_ y_).1.sum.l]⟩, none, [some (.inl (76, [.pointer (some ⟨1, 0, none⟩), .int .i64 ti, .int .i64 tg])), some (.inr (.inr (.inr (.pool (Gv.between O7 k m (⟨⟨x0, x1⟩, ⟨x2, x3⟩, ⟨x4, x5⟩, ⟨x6, ⟨x7, x8, x9⟩⟩, x10⟩ : Nd) x_ y_).2))))], [], [(0, 0)]⟩
  | _, _ => none
def TBet (k : Nat) : Tab Rs := [(1000000000, wrapCon), (46, liftC zN 2 (con1 lookP)), (42, liftC zN 2 (con1 oneP)), (60, liftC zN 2 (con1 plusP)), (48, liftC zN 2 (con1 (betP k)))]
theorem bet_ok : ∀ k : Nat, ConOk D Try.prog 48 (con1 (betP k))
  | 0 => by
    refine con1_ok (prim_at (fn := Try.f48) (root := codeOf Try.f48) (by kernel_rfl) (by kernel_rfl) (by kernel_rfl) fun args hh x hx => ?_)
    unfold betP at hx
    split at hx
    · rename_i x0 x1 x2 x3 x4 x5 x6 x7 x8 x9 x10 x_ y_ ti tg m
      injection hx with hx
      subst hx
      refine ⟨by first | exact Nat.le_refl _ | exact Nat.zero_le _ | exact Nat.le_succ _, noLit rfl, (fun hw => by first | rfl | cases hw), fun _ hv => ?_⟩
      exact False.elim (And.right hv)
    · cases hx
  | k + 1 => by
    have ih := bet_ok k
    refine con1_ok (prim_at (fn := Try.f48) (root := codeOf Try.f48) (by kernel_rfl) (by kernel_rfl) (by kernel_rfl) fun args hh x hx => ?_)
    unfold betP at hx
    split at hx
    · rename_i x0 x1 x2 x3 x4 x5 x6 x7 x8 x9 x10 x_ y_ ti tg m
      injection hx with hx
      subst hx
      refine ⟨by first | exact Nat.le_refl _ | exact Nat.zero_le _ | exact Nat.le_succ _, noLit rfl, (fun hw => by first | rfl | cases hw), fun _ hv => ?_⟩
      obtain ⟨hp, hd⟩ := hv
      generalize hG : Rx.Ends (R := Rs) _ _ = G
      refine rx_ok (T := (TBet k)) (show TabOk D Try.prog (TBet k) from ⟨wrapCon_ok, liftC_ok _ _ look_ok, liftC_ok _ _ one_ok, liftC_ok _ _ plus_ok, liftC_ok _ _ ih, trivial⟩) mixed 200 ?_
      refine as_text (q := let zz13 := Value.pointer (some (Addr.mk 1 0 none)); let zz14 := Value.int IntKind.i64; let zz1 := (if (0 : Int) > x_ then (0 : Int) else x_); let zz2 := (if x6 < y_ then x6 else y_); let zz3 := (Gv.lk O7 m (Gv.Ref.mk x2 x3)); let zz4 := (Gv.Node.all zz3); let zz5 := (Prod.fst (Gv.between O7 k (Gv.see m (Gv.Ref.mk x2 x3)) zz3 zz1 zz2)); let zz6 := (Gv.plusP O7 zz5 (Gv.one O7 (El.mk x0 x1))); let zz7 := (Prod.snd (Gv.between O7 k (Gv.see m (Gv.Ref.mk x2 x3)) zz3 zz1 zz2)); let zz8 := (IntKind.wrap IntKind.i64 (IntKind.wrap IntKind.i64 (zz1 - Gv.Part.n zz4) - (1 : Int))); let zz9 := (IntKind.wrap IntKind.i64 (IntKind.wrap IntKind.i64 (zz2 - Gv.Part.n zz4) - (1 : Int))); let zz10 := (Gv.between O7 k (Gv.see zz7 (Gv.Ref.mk x4 x5)) (Gv.lk O7 zz7 (Gv.Ref.mk x4 x5)) zz8 zz9); let zz11 := (Gv.Part.sum (Gv.plusP O7 zz6 (Prod.fst zz10))); let zz12 := (Gv.Part.sum (Gv.plusP O7 zz5 (Prod.fst zz10))); (decide (zz1 ≥ if x6 < y_ then x6 else y_) = true → Post (G (Value.agg (Array.mk [zz14 0, zz14 0, zz14 0, zz14 0])) [some (Sum.inl (76, [zz13, zz14 ti, zz14 tg])), some (Sum.inr (Sum.inr (Sum.inr (Rs.pool m)))), some (Sum.inl (74, [zz14 x0, zz14 x1, zz14 x2, zz14 x3, zz14 x4, zz14 x5, zz14 x6, zz14 x7, zz14 x8, zz14 x9, zz14 x10])), some (Sum.inl (72, [zz14 0, zz14 0, zz14 0, zz14 0]))])) ∧ (decide (zz1 ≥ if x6 < y_ then x6 else y_) = false → ((zz1 == (0 : Int)) = true → ((zz2 == x6) = true → Post (G (Value.agg (Array.mk [zz14 x6, zz14 x7, zz14 x8, zz14 x9])) [some (Sum.inl (76, [zz13, zz14 ti, zz14 tg])), some (Sum.inr (Sum.inr (Sum.inr (Rs.pool m)))), some (Sum.inl (74, [zz14 x0, zz14 x1, zz14 x2, zz14 x3, zz14 x4, zz14 x5, zz14 x6, zz14 x7, zz14 x8, zz14 x9, zz14 x10])), some (Sum.inl (72, [zz14 x6, zz14 x7, zz14 x8, zz14 x9]))])) ∧ ((zz2 == x6) = false → Vc (PP m) ∧ Vc (PP (Gv.see m (Gv.Ref.mk x2 x3)) ∧ Gv.BetE O7 k (Gv.see m (Gv.Ref.mk x2 x3)) zz3 zz1 zz2) ∧ (decide (zz1 ≤ Gv.Part.n zz4) = true → (decide (Gv.Part.n zz4 < if x6 < y_ then x6 else y_) = true → Vc True ∧ Vc True ∧ Vc True ∧ (decide (zz2 ≤ IntKind.wrap IntKind.i64 (Gv.Part.n zz4 + (1 : Int))) = true → Post (G (Value.agg (Array.mk [zz14 (Gv.Part.n zz6), zz14 (Ti.Td.n (Gv.Part.sum zz6)), zz14 (Ti.Td.s (Gv.Part.sum zz6)), zz14 (Ti.Td.l (Gv.Part.sum zz6))])) [some (Sum.inl (76, [zz13, zz14 ti, zz14 tg])), some (Sum.inr (Sum.inr (Sum.inr (Rs.pool zz7)))), some (Sum.inl (74, [zz14 x0, zz14 x1, zz14 x2, zz14 x3, zz14 x4, zz14 x5, zz14 x6, zz14 x7, zz14 x8, zz14 x9, zz14 x10])), some (Sum.inl (72, [zz14 (Gv.Part.n zz6), zz14 (Ti.Td.n (Gv.Part.sum zz6)), zz14 (Ti.Td.s (Gv.Part.sum zz6)), zz14 (Ti.Td.l (Gv.Part.sum zz6))])), some (Sum.inl (74, [zz14 (El.k (Gv.Node.e zz3)), zz14 (El.w (Gv.Node.e zz3)), zz14 (Gv.Ref.i (Gv.Node.l zz3)), zz14 (Gv.Ref.g (Gv.Node.l zz3)), zz14 (Gv.Ref.i (Gv.Node.r zz3)), zz14 (Gv.Ref.g (Gv.Node.r zz3)), zz14 (Gv.Part.n zz4), zz14 (Ti.Td.n (Gv.Part.sum zz4)), zz14 (Ti.Td.s (Gv.Part.sum zz4)), zz14 (Ti.Td.l (Gv.Part.sum zz4)), zz14 (Gv.Node.h zz3)])), some (Sum.inl (72, [zz14 (Gv.Part.n zz6), zz14 (Ti.Td.n (Gv.Part.sum zz6)), zz14 (Ti.Td.s (Gv.Part.sum zz6)), zz14 (Ti.Td.l (Gv.Part.sum zz6))]))])) ∧ (decide (zz2 ≤ IntKind.wrap IntKind.i64 (Gv.Part.n zz4 + (1 : Int))) = false → Vc (PP zz7) ∧ Vc True ∧ Vc True ∧ Vc True ∧ Vc True ∧ Vc (PP (Gv.see zz7 (Gv.Ref.mk x4 x5)) ∧ Gv.BetE O7 k (Gv.see zz7 (Gv.Ref.mk x4 x5)) (Gv.lk O7 zz7 (Gv.Ref.mk x4 x5)) zz8 zz9) ∧ Vc True ∧ Post (G (Value.agg (Array.mk [zz14 (Gv.Part.n (Gv.plusP O7 zz6 (Prod.fst zz10))), zz14 (Ti.Td.n zz11), zz14 (Ti.Td.s zz11), zz14 (Ti.Td.l zz11)])) [some (Sum.inl (76, [zz13, zz14 ti, zz14 tg])), some (Sum.inr (Sum.inr (Sum.inr (Rs.pool (Prod.snd zz10))))), some (Sum.inl (74, [zz14 x0, zz14 x1, zz14 x2, zz14 x3, zz14 x4, zz14 x5, zz14 x6, zz14 x7, zz14 x8, zz14 x9, zz14 x10])), some (Sum.inl (72, [zz14 (Gv.Part.n (Gv.plusP O7 zz6 (Prod.fst zz10))), zz14 (Ti.Td.n zz11), zz14 (Ti.Td.s zz11), zz14 (Ti.Td.l zz11)])), some (Sum.inl (74, [zz14 (El.k (Gv.Node.e zz3)), zz14 (El.w (Gv.Node.e zz3)), zz14 (Gv.Ref.i (Gv.Node.l zz3)), zz14 (Gv.Ref.g (Gv.Node.l zz3)), zz14 (Gv.Ref.i (Gv.Node.r zz3)), zz14 (Gv.Ref.g (Gv.Node.r zz3)), zz14 (Gv.Part.n zz4), zz14 (Ti.Td.n (Gv.Part.sum zz4)), zz14 (Ti.Td.s (Gv.Part.sum zz4)), zz14 (Ti.Td.l (Gv.Part.sum zz4)), zz14 (Gv.Node.h zz3)])), some (Sum.inl (72, [zz14 (Gv.Part.n zz6), zz14 (Ti.Td.n (Gv.Part.sum zz6)), zz14 (Ti.Td.s (Gv.Part.sum zz6)), zz14 (Ti.Td.l (Gv.Part.sum zz6))]))]))) ∧ (decide (Gv.Part.n zz4 < if x6 < y_ then x6 else y_) = false → Vc True ∧ (decide (zz2 ≤ IntKind.wrap IntKind.i64 (Gv.Part.n zz4 + (1 : Int))) = true → Post (G (Value.agg (Array.mk [zz14 (Gv.Part.n zz5), zz14 (Ti.Td.n (Gv.Part.sum zz5)), zz14 (Ti.Td.s (Gv.Part.sum zz5)), zz14 (Ti.Td.l (Gv.Part.sum zz5))])) [some (Sum.inl (76, [zz13, zz14 ti, zz14 tg])), some (Sum.inr (Sum.inr (Sum.inr (Rs.pool zz7)))), some (Sum.inl (74, [zz14 x0, zz14 x1, zz14 x2, zz14 x3, zz14 x4, zz14 x5, zz14 x6, zz14 x7, zz14 x8, zz14 x9, zz14 x10])), some (Sum.inl (72, [zz14 (Gv.Part.n zz5), zz14 (Ti.Td.n (Gv.Part.sum zz5)), zz14 (Ti.Td.s (Gv.Part.sum zz5)), zz14 (Ti.Td.l (Gv.Part.sum zz5))])), some (Sum.inl (74, [zz14 (El.k (Gv.Node.e zz3)), zz14 (El.w (Gv.Node.e zz3)), zz14 (Gv.Ref.i (Gv.Node.l zz3)), zz14 (Gv.Ref.g (Gv.Node.l zz3)), zz14 (Gv.Ref.i (Gv.Node.r zz3)), zz14 (Gv.Ref.g (Gv.Node.r zz3)), zz14 (Gv.Part.n zz4), zz14 (Ti.Td.n (Gv.Part.sum zz4)), zz14 (Ti.Td.s (Gv.Part.sum zz4)), zz14 (Ti.Td.l (Gv.Part.sum zz4)), zz14 (Gv.Node.h zz3)])), some (Sum.inl (72, [zz14 (Gv.Part.n zz5), zz14 (Ti.Td.n (Gv.Part.sum zz5)), zz14 (Ti.Td.s (Gv.Part.sum zz5)), zz14 (Ti.Td.l (Gv.Part.sum zz5))]))])) ∧ (decide (zz2 ≤ IntKind.wrap IntKind.i64 (Gv.Part.n zz4 + (1 : Int))) = false → Vc (PP zz7) ∧ Vc True ∧ Vc True ∧ Vc True ∧ Vc True ∧ Vc (PP (Gv.see zz7 (Gv.Ref.mk x4 x5)) ∧ Gv.BetE O7 k (Gv.see zz7 (Gv.Ref.mk x4 x5)) (Gv.lk O7 zz7 (Gv.Ref.mk x4 x5)) zz8 zz9) ∧ Vc True ∧ Post (G (Value.agg (Array.mk [zz14 (Gv.Part.n (Gv.plusP O7 zz5 (Prod.fst zz10))), zz14 (Ti.Td.n zz12), zz14 (Ti.Td.s zz12), zz14 (Ti.Td.l zz12)])) [some (Sum.inl (76, [zz13, zz14 ti, zz14 tg])), some (Sum.inr (Sum.inr (Sum.inr (Rs.pool (Prod.snd zz10))))), some (Sum.inl (74, [zz14 x0, zz14 x1, zz14 x2, zz14 x3, zz14 x4, zz14 x5, zz14 x6, zz14 x7, zz14 x8, zz14 x9, zz14 x10])), some (Sum.inl (72, [zz14 (Gv.Part.n (Gv.plusP O7 zz5 (Prod.fst zz10))), zz14 (Ti.Td.n zz12), zz14 (Ti.Td.s zz12), zz14 (Ti.Td.l zz12)])), some (Sum.inl (74, [zz14 (El.k (Gv.Node.e zz3)), zz14 (El.w (Gv.Node.e zz3)), zz14 (Gv.Ref.i (Gv.Node.l zz3)), zz14 (Gv.Ref.g (Gv.Node.l zz3)), zz14 (Gv.Ref.i (Gv.Node.r zz3)), zz14 (Gv.Ref.g (Gv.Node.r zz3)), zz14 (Gv.Part.n zz4), zz14 (Ti.Td.n (Gv.Part.sum zz4)), zz14 (Ti.Td.s (Gv.Part.sum zz4)), zz14 (Ti.Td.l (Gv.Part.sum zz4)), zz14 (Gv.Node.h zz3)])), some (Sum.inl (72, [zz14 (Gv.Part.n zz5), zz14 (Ti.Td.n (Gv.Part.sum zz5)), zz14 (Ti.Td.s (Gv.Part.sum zz5)), zz14 (Ti.Td.l (Gv.Part.sum zz5))]))])))) ∧ (decide (zz1 ≤ Gv.Part.n zz4) = false → Vc True ∧ (decide (zz2 ≤ IntKind.wrap IntKind.i64 (Gv.Part.n zz4 + (1 : Int))) = true → Post (G (Value.agg (Array.mk [zz14 (Gv.Part.n zz5), zz14 (Ti.Td.n (Gv.Part.sum zz5)), zz14 (Ti.Td.s (Gv.Part.sum zz5)), zz14 (Ti.Td.l (Gv.Part.sum zz5))])) [some (Sum.inl (76, [zz13, zz14 ti, zz14 tg])), some (Sum.inr (Sum.inr (Sum.inr (Rs.pool zz7)))), some (Sum.inl (74, [zz14 x0, zz14 x1, zz14 x2, zz14 x3, zz14 x4, zz14 x5, zz14 x6, zz14 x7, zz14 x8, zz14 x9, zz14 x10])), some (Sum.inl (72, [zz14 (Gv.Part.n zz5), zz14 (Ti.Td.n (Gv.Part.sum zz5)), zz14 (Ti.Td.s (Gv.Part.sum zz5)), zz14 (Ti.Td.l (Gv.Part.sum zz5))])), some (Sum.inl (74, [zz14 (El.k (Gv.Node.e zz3)), zz14 (El.w (Gv.Node.e zz3)), zz14 (Gv.Ref.i (Gv.Node.l zz3)), zz14 (Gv.Ref.g (Gv.Node.l zz3)), zz14 (Gv.Ref.i (Gv.Node.r zz3)), zz14 (Gv.Ref.g (Gv.Node.r zz3)), zz14 (Gv.Part.n zz4), zz14 (Ti.Td.n (Gv.Part.sum zz4)), zz14 (Ti.Td.s (Gv.Part.sum zz4)), zz14 (Ti.Td.l (Gv.Part.sum zz4)), zz14 (Gv.Node.h zz3)])), some (Sum.inl (72, [zz14 (Gv.Part.n zz5), zz14 (Ti.Td.n (Gv.Part.sum zz5)), zz14 (Ti.Td.s (Gv.Part.sum zz5)), zz14 (Ti.Td.l (Gv.Part.sum zz5))]))])) ∧ (decide (zz2 ≤ IntKind.wrap IntKind.i64 (Gv.Part.n zz4 + (1 : Int))) = false → Vc (PP zz7) ∧ Vc True ∧ Vc True ∧ Vc True ∧ Vc True ∧ Vc (PP (Gv.see zz7 (Gv.Ref.mk x4 x5)) ∧ Gv.BetE O7 k (Gv.see zz7 (Gv.Ref.mk x4 x5)) (Gv.lk O7 zz7 (Gv.Ref.mk x4 x5)) zz8 zz9) ∧ Vc True ∧ Post (G (Value.agg (Array.mk [zz14 (Gv.Part.n (Gv.plusP O7 zz5 (Prod.fst zz10))), zz14 (Ti.Td.n zz12), zz14 (Ti.Td.s zz12), zz14 (Ti.Td.l zz12)])) [some (Sum.inl (76, [zz13, zz14 ti, zz14 tg])), some (Sum.inr (Sum.inr (Sum.inr (Rs.pool (Prod.snd zz10))))), some (Sum.inl (74, [zz14 x0, zz14 x1, zz14 x2, zz14 x3, zz14 x4, zz14 x5, zz14 x6, zz14 x7, zz14 x8, zz14 x9, zz14 x10])), some (Sum.inl (72, [zz14 (Gv.Part.n (Gv.plusP O7 zz5 (Prod.fst zz10))), zz14 (Ti.Td.n zz12), zz14 (Ti.Td.s zz12), zz14 (Ti.Td.l zz12)])), some (Sum.inl (74, [zz14 (El.k (Gv.Node.e zz3)), zz14 (El.w (Gv.Node.e zz3)), zz14 (Gv.Ref.i (Gv.Node.l zz3)), zz14 (Gv.Ref.g (Gv.Node.l zz3)), zz14 (Gv.Ref.i (Gv.Node.r zz3)), zz14 (Gv.Ref.g (Gv.Node.r zz3)), zz14 (Gv.Part.n zz4), zz14 (Ti.Td.n (Gv.Part.sum zz4)), zz14 (Ti.Td.s (Gv.Part.sum zz4)), zz14 (Ti.Td.l (Gv.Part.sum zz4)), zz14 (Gv.Node.h zz3)])), some (Sum.inl (72, [zz14 (Gv.Part.n zz5), zz14 (Ti.Td.n (Gv.Part.sum zz5)), zz14 (Ti.Td.s (Gv.Part.sum zz5)), zz14 (Ti.Td.l (Gv.Part.sum zz5))]))]))))) ∧ ((zz1 == (0 : Int)) = false → Vc (PP m) ∧ Vc (PP (Gv.see m (Gv.Ref.mk x2 x3)) ∧ Gv.BetE O7 k (Gv.see m (Gv.Ref.mk x2 x3)) zz3 zz1 zz2) ∧ (decide (zz1 ≤ Gv.Part.n zz4) = true → (decide (Gv.Part.n zz4 < if x6 < y_ then x6 else y_) = true → Vc True ∧ Vc True ∧ Vc True ∧ (decide (zz2 ≤ IntKind.wrap IntKind.i64 (Gv.Part.n zz4 + (1 : Int))) = true → Post (G (Value.agg (Array.mk [zz14 (Gv.Part.n zz6), zz14 (Ti.Td.n (Gv.Part.sum zz6)), zz14 (Ti.Td.s (Gv.Part.sum zz6)), zz14 (Ti.Td.l (Gv.Part.sum zz6))])) [some (Sum.inl (76, [zz13, zz14 ti, zz14 tg])), some (Sum.inr (Sum.inr (Sum.inr (Rs.pool zz7)))), some (Sum.inl (74, [zz14 x0, zz14 x1, zz14 x2, zz14 x3, zz14 x4, zz14 x5, zz14 x6, zz14 x7, zz14 x8, zz14 x9, zz14 x10])), some (Sum.inl (72, [zz14 (Gv.Part.n zz6), zz14 (Ti.Td.n (Gv.Part.sum zz6)), zz14 (Ti.Td.s (Gv.Part.sum zz6)), zz14 (Ti.Td.l (Gv.Part.sum zz6))])), some (Sum.inl (74, [zz14 (El.k (Gv.Node.e zz3)), zz14 (El.w (Gv.Node.e zz3)), zz14 (Gv.Ref.i (Gv.Node.l zz3)), zz14 (Gv.Ref.g (Gv.Node.l zz3)), zz14 (Gv.Ref.i (Gv.Node.r zz3)), zz14 (Gv.Ref.g (Gv.Node.r zz3)), zz14 (Gv.Part.n zz4), zz14 (Ti.Td.n (Gv.Part.sum zz4)), zz14 (Ti.Td.s (Gv.Part.sum zz4)), zz14 (Ti.Td.l (Gv.Part.sum zz4)), zz14 (Gv.Node.h zz3)])), some (Sum.inl (72, [zz14 (Gv.Part.n zz6), zz14 (Ti.Td.n (Gv.Part.sum zz6)), zz14 (Ti.Td.s (Gv.Part.sum zz6)), zz14 (Ti.Td.l (Gv.Part.sum zz6))]))])) ∧ (decide (zz2 ≤ IntKind.wrap IntKind.i64 (Gv.Part.n zz4 + (1 : Int))) = false → Vc (PP zz7) ∧ Vc True ∧ Vc True ∧ Vc True ∧ Vc True ∧ Vc (PP (Gv.see zz7 (Gv.Ref.mk x4 x5)) ∧ Gv.BetE O7 k (Gv.see zz7 (Gv.Ref.mk x4 x5)) (Gv.lk O7 zz7 (Gv.Ref.mk x4 x5)) zz8 zz9) ∧ Vc True ∧ Post (G (Value.agg (Array.mk [zz14 (Gv.Part.n (Gv.plusP O7 zz6 (Prod.fst zz10))), zz14 (Ti.Td.n zz11), zz14 (Ti.Td.s zz11), zz14 (Ti.Td.l zz11)])) [some (Sum.inl (76, [zz13, zz14 ti, zz14 tg])), some (Sum.inr (Sum.inr (Sum.inr (Rs.pool (Prod.snd zz10))))), some (Sum.inl (74, [zz14 x0, zz14 x1, zz14 x2, zz14 x3, zz14 x4, zz14 x5, zz14 x6, zz14 x7, zz14 x8, zz14 x9, zz14 x10])), some (Sum.inl (72, [zz14 (Gv.Part.n (Gv.plusP O7 zz6 (Prod.fst zz10))), zz14 (Ti.Td.n zz11), zz14 (Ti.Td.s zz11), zz14 (Ti.Td.l zz11)])), some (Sum.inl (74, [zz14 (El.k (Gv.Node.e zz3)), zz14 (El.w (Gv.Node.e zz3)), zz14 (Gv.Ref.i (Gv.Node.l zz3)), zz14 (Gv.Ref.g (Gv.Node.l zz3)), zz14 (Gv.Ref.i (Gv.Node.r zz3)), zz14 (Gv.Ref.g (Gv.Node.r zz3)), zz14 (Gv.Part.n zz4), zz14 (Ti.Td.n (Gv.Part.sum zz4)), zz14 (Ti.Td.s (Gv.Part.sum zz4)), zz14 (Ti.Td.l (Gv.Part.sum zz4)), zz14 (Gv.Node.h zz3)])), some (Sum.inl (72, [zz14 (Gv.Part.n zz6), zz14 (Ti.Td.n (Gv.Part.sum zz6)), zz14 (Ti.Td.s (Gv.Part.sum zz6)), zz14 (Ti.Td.l (Gv.Part.sum zz6))]))]))) ∧ (decide (Gv.Part.n zz4 < if x6 < y_ then x6 else y_) = false → Vc True ∧ (decide (zz2 ≤ IntKind.wrap IntKind.i64 (Gv.Part.n zz4 + (1 : Int))) = true → Post (G (Value.agg (Array.mk [zz14 (Gv.Part.n zz5), zz14 (Ti.Td.n (Gv.Part.sum zz5)), zz14 (Ti.Td.s (Gv.Part.sum zz5)), zz14 (Ti.Td.l (Gv.Part.sum zz5))])) [some (Sum.inl (76, [zz13, zz14 ti, zz14 tg])), some (Sum.inr (Sum.inr (Sum.inr (Rs.pool zz7)))), some (Sum.inl (74, [zz14 x0, zz14 x1, zz14 x2, zz14 x3, zz14 x4, zz14 x5, zz14 x6, zz14 x7, zz14 x8, zz14 x9, zz14 x10])), some (Sum.inl (72, [zz14 (Gv.Part.n zz5), zz14 (Ti.Td.n (Gv.Part.sum zz5)), zz14 (Ti.Td.s (Gv.Part.sum zz5)), zz14 (Ti.Td.l (Gv.Part.sum zz5))])), some (Sum.inl (74, [zz14 (El.k (Gv.Node.e zz3)), zz14 (El.w (Gv.Node.e zz3)), zz14 (Gv.Ref.i (Gv.Node.l zz3)), zz14 (Gv.Ref.g (Gv.Node.l zz3)), zz14 (Gv.Ref.i (Gv.Node.r zz3)), zz14 (Gv.Ref.g (Gv.Node.r zz3)), zz14 (Gv.Part.n zz4), zz14 (Ti.Td.n (Gv.Part.sum zz4)), zz14 (Ti.Td.s (Gv.Part.sum zz4)), zz14 (Ti.Td.l (Gv.Part.sum zz4)), zz14 (Gv.Node.h zz3)])), some (Sum.inl (72, [zz14 (Gv.Part.n zz5), zz14 (Ti.Td.n (Gv.Part.sum zz5)), zz14 (Ti.Td.s (Gv.Part.sum zz5)), zz14 (Ti.Td.l (Gv.Part.sum zz5))]))])) ∧ (decide (zz2 ≤ IntKind.wrap IntKind.i64 (Gv.Part.n zz4 + (1 : Int))) = false → Vc (PP zz7) ∧ Vc True ∧ Vc True ∧ Vc True ∧ Vc True ∧ Vc (PP (Gv.see zz7 (Gv.Ref.mk x4 x5)) ∧ Gv.BetE O7 k (Gv.see zz7 (Gv.Ref.mk x4 x5)) (Gv.lk O7 zz7 (Gv.Ref.mk x4 x5)) zz8 zz9) ∧ Vc True ∧ Post (G (Value.agg (Array.mk [zz14 (Gv.Part.n (Gv.plusP O7 zz5 (Prod.fst zz10))), zz14 (Ti.Td.n zz12), zz14 (Ti.Td.s zz12), zz14 (Ti.Td.l zz12)])) [some (Sum.inl (76, [zz13, zz14 ti, zz14 tg])), some (Sum.inr (Sum.inr (Sum.inr (Rs.pool (Prod.snd zz10))))), some (Sum.inl (74, [zz14 x0, zz14 x1, zz14 x2, zz14 x3, zz14 x4, zz14 x5, zz14 x6, zz14 x7, zz14 x8, zz14 x9, zz14 x10])), some (Sum.inl (72, [zz14 (Gv.Part.n (Gv.plusP O7 zz5 (Prod.fst zz10))), zz14 (Ti.Td.n zz12), zz14 (Ti.Td.s zz12), zz14 (Ti.Td.l zz12)])), some (Sum.inl (74, [zz14 (El.k (Gv.Node.e zz3)), zz14 (El.w (Gv.Node.e zz3)), zz14 (Gv.Ref.i (Gv.Node.l zz3)), zz14 (Gv.Ref.g (Gv.Node.l zz3)), zz14 (Gv.Ref.i (Gv.Node.r zz3)), zz14 (Gv.Ref.g (Gv.Node.r zz3)), zz14 (Gv.Part.n zz4), zz14 (Ti.Td.n (Gv.Part.sum zz4)), zz14 (Ti.Td.s (Gv.Part.sum zz4)), zz14 (Ti.Td.l (Gv.Part.sum zz4)), zz14 (Gv.Node.h zz3)])), some (Sum.inl (72, [zz14 (Gv.Part.n zz5), zz14 (Ti.Td.n (Gv.Part.sum zz5)), zz14 (Ti.Td.s (Gv.Part.sum zz5)), zz14 (Ti.Td.l (Gv.Part.sum zz5))]))])))) ∧ (decide (zz1 ≤ Gv.Part.n zz4) = false → Vc True ∧ (decide (zz2 ≤ IntKind.wrap IntKind.i64 (Gv.Part.n zz4 + (1 : Int))) = true → Post (G (Value.agg (Array.mk [zz14 (Gv.Part.n zz5), zz14 (Ti.Td.n (Gv.Part.sum zz5)), zz14 (Ti.Td.s (Gv.Part.sum zz5)), zz14 (Ti.Td.l (Gv.Part.sum zz5))])) [some (Sum.inl (76, [zz13, zz14 ti, zz14 tg])), some (Sum.inr (Sum.inr (Sum.inr (Rs.pool zz7)))), some (Sum.inl (74, [zz14 x0, zz14 x1, zz14 x2, zz14 x3, zz14 x4, zz14 x5, zz14 x6, zz14 x7, zz14 x8, zz14 x9, zz14 x10])), some (Sum.inl (72, [zz14 (Gv.Part.n zz5), zz14 (Ti.Td.n (Gv.Part.sum zz5)), zz14 (Ti.Td.s (Gv.Part.sum zz5)), zz14 (Ti.Td.l (Gv.Part.sum zz5))])), some (Sum.inl (74, [zz14 (El.k (Gv.Node.e zz3)), zz14 (El.w (Gv.Node.e zz3)), zz14 (Gv.Ref.i (Gv.Node.l zz3)), zz14 (Gv.Ref.g (Gv.Node.l zz3)), zz14 (Gv.Ref.i (Gv.Node.r zz3)), zz14 (Gv.Ref.g (Gv.Node.r zz3)), zz14 (Gv.Part.n zz4), zz14 (Ti.Td.n (Gv.Part.sum zz4)), zz14 (Ti.Td.s (Gv.Part.sum zz4)), zz14 (Ti.Td.l (Gv.Part.sum zz4)), zz14 (Gv.Node.h zz3)])), some (Sum.inl (72, [zz14 (Gv.Part.n zz5), zz14 (Ti.Td.n (Gv.Part.sum zz5)), zz14 (Ti.Td.s (Gv.Part.sum zz5)), zz14 (Ti.Td.l (Gv.Part.sum zz5))]))])) ∧ (decide (zz2 ≤ IntKind.wrap IntKind.i64 (Gv.Part.n zz4 + (1 : Int))) = false → Vc (PP zz7) ∧ Vc True ∧ Vc True ∧ Vc True ∧ Vc True ∧ Vc (PP (Gv.see zz7 (Gv.Ref.mk x4 x5)) ∧ Gv.BetE O7 k (Gv.see zz7 (Gv.Ref.mk x4 x5)) (Gv.lk O7 zz7 (Gv.Ref.mk x4 x5)) zz8 zz9) ∧ Vc True ∧ Post (G (Value.agg (Array.mk [zz14 (Gv.Part.n (Gv.plusP O7 zz5 (Prod.fst zz10))), zz14 (Ti.Td.n zz12), zz14 (Ti.Td.s zz12), zz14 (Ti.Td.l zz12)])) [some (Sum.inl (76, [zz13, zz14 ti, zz14 tg])), some (Sum.inr (Sum.inr (Sum.inr (Rs.pool (Prod.snd zz10))))), some (Sum.inl (74, [zz14 x0, zz14 x1, zz14 x2, zz14 x3, zz14 x4, zz14 x5, zz14 x6, zz14 x7, zz14 x8, zz14 x9, zz14 x10])), some (Sum.inl (72, [zz14 (Gv.Part.n (Gv.plusP O7 zz5 (Prod.fst zz10))), zz14 (Ti.Td.n zz12), zz14 (Ti.Td.s zz12), zz14 (Ti.Td.l zz12)])), some (Sum.inl (74, [zz14 (El.k (Gv.Node.e zz3)), zz14 (El.w (Gv.Node.e zz3)), zz14 (Gv.Ref.i (Gv.Node.l zz3)), zz14 (Gv.Ref.g (Gv.Node.l zz3)), zz14 (Gv.Ref.i (Gv.Node.r zz3)), zz14 (Gv.Ref.g (Gv.Node.r zz3)), zz14 (Gv.Part.n zz4), zz14 (Ti.Td.n (Gv.Part.sum zz4)), zz14 (Ti.Td.s (Gv.Part.sum zz4)), zz14 (Ti.Td.l (Gv.Part.sum zz4)), zz14 (Gv.Node.h zz3)])), some (Sum.inl (72, [zz14 (Gv.Part.n zz5), zz14 (Ti.Td.n (Gv.Part.sum zz5)), zz14 (Ti.Td.s (Gv.Part.sum zz5)), zz14 (Ti.Td.l (Gv.Part.sum zz5))]))])))))) ?_ (by kernel_rfl)
      intro zz13 zz14 zz1 zz2 zz3 zz4 zz5 zz6 zz7 zz8 zz9 zz10 zz11 zz12; subst zz12 zz11 zz10 zz9 zz8 zz7 zz6 zz5 zz4 zz3 zz2 zz1 zz14 zz13
      rw [Gv.BetE] at hd
      dsimp only [Gv.W, Gv.mx, Gv.mn] at hd
      have done : ∀ (o0 : Int) (o1 : Int) (o2 : Int) (o3 : Int) (m' : Pl) (rest : Hp Rs), Gv.between O7 (k + 1) m (⟨⟨x0, x1⟩, ⟨x2, x3⟩, ⟨x4, x5⟩, ⟨x6, ⟨x7, x8, x9⟩⟩, x10⟩ : Nd) x_ y_ = ((⟨o0, ⟨o1, o2, o3⟩⟩ : Gv.Part Ti.Td), m') → G (.agg ⟨[.int .i64 o0, .int .i64 o1, .int .i64 o2, .int .i64 o3]⟩) ([some (.inl (76, [.pointer (some ⟨1, 0, none⟩), .int .i64 ti, .int .i64 tg])), some (.inr (.inr (.inr (.pool m'))))] ++ rest) := by
        intro o0 o1 o2 o3 m' rest e
        subst hG
        refine ⟨[0, 1], ?_, rfl, ⟨.inl rfl, ?_, trivial⟩, rfl, rfl, rfl, rfl⟩
        · simp only [e]; rfl
        · simp only [e]; rfl
      clear hG
      rw [Gv.between] at done
      dsimp only [Gv.W, Gv.mx, Gv.mn] at done
      repeat' (first | apply And.intro | apply Vc.mk | apply fits.mk | intro h | apply Post.mk)
      all_goals (try simp only [decide_eq_true_eq, decide_eq_false_iff_not, Nat.zero_add, ge_iff_le, Int.not_le, Int.not_lt, Int.toNat_natCast, beq_iff_eq, beq_eq_false_iff_ne, bne_iff_ne, bne_eq_false_iff_eq, Bool.not_eq_true', Bool.not_eq_false'] at *)
      all_goals first | contradiction | omega | (apply congrArg Value.bool; assumption) | exact congrArg Value.bool (decide_eq_true (by assumption)) | exact congrArg Value.bool (decide_eq_false (Int.not_lt.mpr (by assumption))) | exact ⟨rfl, by omega⟩ | exact rfl | (simp [*, -List.getD_eq_getElem?_getD]; done) | skip
      all_goals first | assumption | (simp only [Gv.see_ok, Gv.put1_ok, Gv.setN_ok, Gv.tie_ok, Gv.turnL_ok, Gv.turnR_ok, Gv.level_ok, Gv.replace_ok, Gv.hang_ok, Gv.link_ok, Gv.pickF_ok, Gv.glue_ok, Gv.pick_ok, Gv.cutF_ok, Gv.gather_ok, Gv.between_ok, Gv.first_ok, Gv.last_ok]; assumption) | skip
      all_goals first | exact (hd (by omega) (by omega)).1 | exact (hd (by omega) (by omega)).2 (by omega) | skip
      all_goals (refine done _ _ _ _ _ _ ?_; repeat' split)
      all_goals first | rfl | (exfalso; omega)
    · cases hx
end Go.Proofs.Ytclagkjjgmeifaa.G7


/- grove: a pool of nodes of keys and numbers: its functions: first, last, with A. -/
namespace Go.Proofs.Ytclagkjjgmeifaa.G7
open Go.Proofs.Ytclagkjjgmeifaa.Rx
set_option linter.unusedVariables false
set_option linter.unusedSimpArgs false
set_option maxRecDepth 100000
set_option maxHeartbeats 16000000
def firstAP  (k : Nat) : Prim Rs := fun args hh => match args, hh with
  | [.pointer (some ⟨0, 0, none⟩), .agg ⟨[.int .i64 x0, .int .i64 x1, .int .i64 x2, .int .i64 x3, .int .i64 x4, .int .i64 x5, .int .i64 x6, .int .i64 x7, .int .i64 x8, .int .i64 x9, .int .i64 x10]⟩, .agg ⟨[.int .i64 p0, .int .i64 p1, .int .i64 p2, .int .i64 p3]⟩, .int .i64 f_, .func (.func 38) ⟨[]⟩ ⟨[]⟩], [some (.inl (76, [.pointer (some ⟨1, 0, none⟩), .int .i64 ti, .int .i64 tg])), some (.inr (.inr (.inr (.pool m))))] => some ⟨PP m ∧ Gv.DeepN O7 k m (⟨⟨x0, x1⟩, ⟨x2, x3⟩, ⟨x4, x5⟩, ⟨x6, ⟨x7, x8, x9⟩⟩, x10⟩ : Nd), .int .i64 (Gv.first O7 mayA k m (⟨⟨x0, x1⟩, ⟨x2, x3⟩, ⟨x4, x5⟩, ⟨x6, ⟨x7, x8, x9⟩⟩, x10⟩ : Nd) (⟨p0, ⟨p1, p2, p3⟩⟩ : Gv.Part Ti.Td) f_).1, none, [some (.inl (76, [.pointer (some ⟨1, 0, none⟩), .int .i64 ti, .int .i64 tg])), some (.inr (.inr (.inr (.pool (Gv.first O7 mayA k m (⟨⟨x0, x1⟩, ⟨x2, x3⟩, ⟨x4, x5⟩, ⟨x6, ⟨x7, x8, x9⟩⟩, x10⟩ : Nd) (⟨p0, ⟨p1, p2, p3⟩⟩ : Gv.Part Ti.Td) f_).2))))], [], [(0, 0)]⟩
  | _, _ => none
def TFirstA (k : Nat) : Tab Rs := [(1000000000, wrapCon), (38, liftC zN 2 (con1 mayAP)), (46, liftC zN 2 (con1 lookP)), (42, liftC zN 2 (con1 oneP)), (60, liftC zN 2 (con1 plusP)), (49, liftC zN 2 (con1 (firstAP k)))]
theorem firstA_ok : ∀ k : Nat, ConOk D Try.prog 49 (con1 (firstAP k))
  | 0 => by
    refine con1_ok (prim_at (fn := Try.f49) (root := codeOf Try.f49) (by kernel_rfl) (by kernel_rfl) (by kernel_rfl) fun args hh x hx => ?_)
    unfold firstAP at hx
    split at hx
    · rename_i x0 x1 x2 x3 x4 x5 x6 x7 x8 x9 x10 p0 p1 p2 p3 f_ ti tg  m
      injection hx with hx
      subst hx
      refine ⟨by first | exact Nat.le_refl _ | exact Nat.zero_le _ | exact Nat.le_succ _, noLit rfl, (fun hw => by first | rfl | cases hw), fun _ hv => ?_⟩
      exact False.elim (And.right hv)
    · cases hx
  | k + 1 => by
    have ih := firstA_ok k
    refine con1_ok (prim_at (fn := Try.f49) (root := codeOf Try.f49) (by kernel_rfl) (by kernel_rfl) (by kernel_rfl) fun args hh x hx => ?_)
    unfold firstAP at hx
    split at hx
    · rename_i x0 x1 x2 x3 x4 x5 x6 x7 x8 x9 x10 p0 p1 p2 p3 f_ ti tg  m
      injection hx with hx
      subst hx
      refine ⟨by first | exact Nat.le_refl _ | exact Nat.zero_le _ | exact Nat.le_succ _, noLit rfl, (fun hw => by first | rfl | cases hw), fun _ hv => ?_⟩
      obtain ⟨hp, hd⟩ := hv
      generalize hG : Rx.Ends (R := Rs) _ _ = G
      refine rx_ok (T := (TFirstA k)) (show TabOk D Try.prog (TFirstA k) from ⟨wrapCon_ok, liftC_ok _ _ mayA_ok, liftC_ok _ _ look_ok, liftC_ok _ _ one_ok, liftC_ok _ _ plus_ok, liftC_ok _ _ ih, trivial⟩) mixed 200 ?_
      refine as_text (q := let zz7 := Value.pointer (some (Addr.mk 1 0 none)); let zz8 := Value.int IntKind.i64; let zz1 := (Gv.lk O7 m (Gv.Ref.mk x2 x3)); let zz2 := (Gv.first O7 mayA k (Gv.see m (Gv.Ref.mk x2 x3)) zz1 (Gv.Part.mk p0 (Ti.Td.mk p1 p2 p3)) f_); let zz3 := (Gv.plusP O7 (Gv.Part.mk p0 (Ti.Td.mk p1 p2 p3)) (Gv.Node.all zz1)); let zz4 := (Gv.Part.sum (Gv.one O7 (El.mk x0 x1))); let zz5 := (Gv.see (Prod.snd zz2) (Gv.Ref.mk x4 x5)); let zz6 := (Gv.first O7 mayA k zz5 (Gv.lk O7 (Prod.snd zz2) (Gv.Ref.mk x4 x5)) (Gv.plusP O7 zz3 (Gv.one O7 (El.mk x0 x1))) f_); ((x10 == (0 : Int)) = false → Vc True ∧ (decide (IntKind.wrap IntKind.i64 (p0 + x6) ≤ f_) = true → Post (G (zz8 (-1 : Int)) [some (Sum.inl (76, [zz7, zz8 ti, zz8 tg])), some (Sum.inr (Sum.inr (Sum.inr (Rs.pool m)))), some (Sum.inl (74, [zz8 x0, zz8 x1, zz8 x2, zz8 x3, zz8 x4, zz8 x5, zz8 x6, zz8 x7, zz8 x8, zz8 x9, zz8 x10])), some (Sum.inl (72, [zz8 p0, zz8 p1, zz8 p2, zz8 p3]))])) ∧ (decide (IntKind.wrap IntKind.i64 (p0 + x6) ≤ f_) = false → (decide (p0 ≥ f_) = true → Vc True ∧ ((!mayA (Ti.Td.mk p1 p2 p3) (Ti.Td.mk x7 x8 x9)) = true → Post (G (zz8 (-1 : Int)) [some (Sum.inl (76, [zz7, zz8 ti, zz8 tg])), some (Sum.inr (Sum.inr (Sum.inr (Rs.pool m)))), some (Sum.inl (74, [zz8 x0, zz8 x1, zz8 x2, zz8 x3, zz8 x4, zz8 x5, zz8 x6, zz8 x7, zz8 x8, zz8 x9, zz8 x10])), some (Sum.inl (72, [zz8 p0, zz8 p1, zz8 p2, zz8 p3]))])) ∧ ((!mayA (Ti.Td.mk p1 p2 p3) (Ti.Td.mk x7 x8 x9)) = false → Vc (PP m) ∧ Vc (PP (Gv.see m (Gv.Ref.mk x2 x3)) ∧ Gv.DeepN O7 k (Gv.see m (Gv.Ref.mk x2 x3)) zz1) ∧ (decide (Prod.fst zz2 ≥ (0 : Int)) = true → Post (G (zz8 (Prod.fst zz2)) [some (Sum.inl (76, [zz7, zz8 ti, zz8 tg])), some (Sum.inr (Sum.inr (Sum.inr (Rs.pool (Prod.snd zz2))))), some (Sum.inl (74, [zz8 x0, zz8 x1, zz8 x2, zz8 x3, zz8 x4, zz8 x5, zz8 x6, zz8 x7, zz8 x8, zz8 x9, zz8 x10])), some (Sum.inl (72, [zz8 p0, zz8 p1, zz8 p2, zz8 p3])), some (Sum.inl (74, [zz8 (El.k (Gv.Node.e zz1)), zz8 (El.w (Gv.Node.e zz1)), zz8 (Gv.Ref.i (Gv.Node.l zz1)), zz8 (Gv.Ref.g (Gv.Node.l zz1)), zz8 (Gv.Ref.i (Gv.Node.r zz1)), zz8 (Gv.Ref.g (Gv.Node.r zz1)), zz8 (Gv.Part.n (Gv.Node.all zz1)), zz8 (Ti.Td.n (Gv.Part.sum (Gv.Node.all zz1))), zz8 (Ti.Td.s (Gv.Part.sum (Gv.Node.all zz1))), zz8 (Ti.Td.l (Gv.Part.sum (Gv.Node.all zz1))), zz8 (Gv.Node.h zz1)]))])) ∧ (decide (Prod.fst zz2 ≥ (0 : Int)) = false → Vc True ∧ Vc True ∧ (decide (Gv.Part.n zz3 ≥ f_) = true → Vc True ∧ (mayA (Gv.Part.sum zz3) zz4 = true → Post (G (zz8 (Gv.Part.n zz3)) [some (Sum.inl (76, [zz7, zz8 ti, zz8 tg])), some (Sum.inr (Sum.inr (Sum.inr (Rs.pool (Prod.snd zz2))))), some (Sum.inl (74, [zz8 x0, zz8 x1, zz8 x2, zz8 x3, zz8 x4, zz8 x5, zz8 x6, zz8 x7, zz8 x8, zz8 x9, zz8 x10])), some (Sum.inl (72, [zz8 (Gv.Part.n zz3), zz8 (Ti.Td.n (Gv.Part.sum zz3)), zz8 (Ti.Td.s (Gv.Part.sum zz3)), zz8 (Ti.Td.l (Gv.Part.sum zz3))])), some (Sum.inl (74, [zz8 (El.k (Gv.Node.e zz1)), zz8 (El.w (Gv.Node.e zz1)), zz8 (Gv.Ref.i (Gv.Node.l zz1)), zz8 (Gv.Ref.g (Gv.Node.l zz1)), zz8 (Gv.Ref.i (Gv.Node.r zz1)), zz8 (Gv.Ref.g (Gv.Node.r zz1)), zz8 (Gv.Part.n (Gv.Node.all zz1)), zz8 (Ti.Td.n (Gv.Part.sum (Gv.Node.all zz1))), zz8 (Ti.Td.s (Gv.Part.sum (Gv.Node.all zz1))), zz8 (Ti.Td.l (Gv.Part.sum (Gv.Node.all zz1))), zz8 (Gv.Node.h zz1)])), some (Sum.inl (72, [zz8 (Gv.Part.n (Gv.one O7 (El.mk x0 x1))), zz8 (Ti.Td.n zz4), zz8 (Ti.Td.s zz4), zz8 (Ti.Td.l zz4)]))])) ∧ (mayA (Gv.Part.sum zz3) zz4 = false → Vc (PP (Prod.snd zz2)) ∧ Vc True ∧ Vc (PP zz5 ∧ Gv.DeepN O7 k zz5 (Gv.lk O7 (Prod.snd zz2) (Gv.Ref.mk x4 x5))) ∧ Post (G (zz8 (Prod.fst zz6)) [some (Sum.inl (76, [zz7, zz8 ti, zz8 tg])), some (Sum.inr (Sum.inr (Sum.inr (Rs.pool (Prod.snd zz6))))), some (Sum.inl (74, [zz8 x0, zz8 x1, zz8 x2, zz8 x3, zz8 x4, zz8 x5, zz8 x6, zz8 x7, zz8 x8, zz8 x9, zz8 x10])), some (Sum.inl (72, [zz8 (Gv.Part.n zz3), zz8 (Ti.Td.n (Gv.Part.sum zz3)), zz8 (Ti.Td.s (Gv.Part.sum zz3)), zz8 (Ti.Td.l (Gv.Part.sum zz3))])), some (Sum.inl (74, [zz8 (El.k (Gv.Node.e zz1)), zz8 (El.w (Gv.Node.e zz1)), zz8 (Gv.Ref.i (Gv.Node.l zz1)), zz8 (Gv.Ref.g (Gv.Node.l zz1)), zz8 (Gv.Ref.i (Gv.Node.r zz1)), zz8 (Gv.Ref.g (Gv.Node.r zz1)), zz8 (Gv.Part.n (Gv.Node.all zz1)), zz8 (Ti.Td.n (Gv.Part.sum (Gv.Node.all zz1))), zz8 (Ti.Td.s (Gv.Part.sum (Gv.Node.all zz1))), zz8 (Ti.Td.l (Gv.Part.sum (Gv.Node.all zz1))), zz8 (Gv.Node.h zz1)])), some (Sum.inl (72, [zz8 (Gv.Part.n (Gv.one O7 (El.mk x0 x1))), zz8 (Ti.Td.n zz4), zz8 (Ti.Td.s zz4), zz8 (Ti.Td.l zz4)]))]))) ∧ (decide (Gv.Part.n zz3 ≥ f_) = false → Vc (PP (Prod.snd zz2)) ∧ Vc True ∧ Vc (PP zz5 ∧ Gv.DeepN O7 k zz5 (Gv.lk O7 (Prod.snd zz2) (Gv.Ref.mk x4 x5))) ∧ Post (G (zz8 (Prod.fst zz6)) [some (Sum.inl (76, [zz7, zz8 ti, zz8 tg])), some (Sum.inr (Sum.inr (Sum.inr (Rs.pool (Prod.snd zz6))))), some (Sum.inl (74, [zz8 x0, zz8 x1, zz8 x2, zz8 x3, zz8 x4, zz8 x5, zz8 x6, zz8 x7, zz8 x8, zz8 x9, zz8 x10])), some (Sum.inl (72, [zz8 (Gv.Part.n zz3), zz8 (Ti.Td.n (Gv.Part.sum zz3)), zz8 (Ti.Td.s (Gv.Part.sum zz3)), zz8 (Ti.Td.l (Gv.Part.sum zz3))])), some (Sum.inl (74, [zz8 (El.k (Gv.Node.e zz1)), zz8 (El.w (Gv.Node.e zz1)), zz8 (Gv.Ref.i (Gv.Node.l zz1)), zz8 (Gv.Ref.g (Gv.Node.l zz1)), zz8 (Gv.Ref.i (Gv.Node.r zz1)), zz8 (Gv.Ref.g (Gv.Node.r zz1)), zz8 (Gv.Part.n (Gv.Node.all zz1)), zz8 (Ti.Td.n (Gv.Part.sum (Gv.Node.all zz1))), zz8 (Ti.Td.s (Gv.Part.sum (Gv.Node.all zz1))), zz8 (Ti.Td.l (Gv.Part.sum (Gv.Node.all zz1))), zz8 (Gv.Node.h zz1)])), some (Sum.inl (72, [zz8 (Gv.Part.n (Gv.one O7 (El.mk x0 x1))), zz8 (Ti.Td.n zz4), zz8 (Ti.Td.s zz4), zz8 (Ti.Td.l zz4)]))]))))) ∧ (decide (p0 ≥ f_) = false → Vc (PP m) ∧ Vc (PP (Gv.see m (Gv.Ref.mk x2 x3)) ∧ Gv.DeepN O7 k (Gv.see m (Gv.Ref.mk x2 x3)) zz1) ∧ (decide (Prod.fst zz2 ≥ (0 : Int)) = true → Post (G (zz8 (Prod.fst zz2)) [some (Sum.inl (76, [zz7, zz8 ti, zz8 tg])), some (Sum.inr (Sum.inr (Sum.inr (Rs.pool (Prod.snd zz2))))), some (Sum.inl (74, [zz8 x0, zz8 x1, zz8 x2, zz8 x3, zz8 x4, zz8 x5, zz8 x6, zz8 x7, zz8 x8, zz8 x9, zz8 x10])), some (Sum.inl (72, [zz8 p0, zz8 p1, zz8 p2, zz8 p3])), some (Sum.inl (74, [zz8 (El.k (Gv.Node.e zz1)), zz8 (El.w (Gv.Node.e zz1)), zz8 (Gv.Ref.i (Gv.Node.l zz1)), zz8 (Gv.Ref.g (Gv.Node.l zz1)), zz8 (Gv.Ref.i (Gv.Node.r zz1)), zz8 (Gv.Ref.g (Gv.Node.r zz1)), zz8 (Gv.Part.n (Gv.Node.all zz1)), zz8 (Ti.Td.n (Gv.Part.sum (Gv.Node.all zz1))), zz8 (Ti.Td.s (Gv.Part.sum (Gv.Node.all zz1))), zz8 (Ti.Td.l (Gv.Part.sum (Gv.Node.all zz1))), zz8 (Gv.Node.h zz1)]))])) ∧ (decide (Prod.fst zz2 ≥ (0 : Int)) = false → Vc True ∧ Vc True ∧ (decide (Gv.Part.n zz3 ≥ f_) = true → Vc True ∧ (mayA (Gv.Part.sum zz3) zz4 = true → Post (G (zz8 (Gv.Part.n zz3)) [some (Sum.inl (76, [zz7, zz8 ti, zz8 tg])), some (Sum.inr (Sum.inr (Sum.inr (Rs.pool (Prod.snd zz2))))), some (Sum.inl (74, [zz8 x0, zz8 x1, zz8 x2, zz8 x3, zz8 x4, zz8 x5, zz8 x6, zz8 x7, zz8 x8, zz8 x9, zz8 x10])), some (Sum.inl (72, [zz8 (Gv.Part.n zz3), zz8 (Ti.Td.n (Gv.Part.sum zz3)), zz8 (Ti.Td.s (Gv.Part.sum zz3)), zz8 (Ti.Td.l (Gv.Part.sum zz3))])), some (Sum.inl (74, [zz8 (El.k (Gv.Node.e zz1)), zz8 (El.w (Gv.Node.e zz1)), zz8 (Gv.Ref.i (Gv.Node.l zz1)), zz8 (Gv.Ref.g (Gv.Node.l zz1)), zz8 (Gv.Ref.i (Gv.Node.r zz1)), zz8 (Gv.Ref.g (Gv.Node.r zz1)), zz8 (Gv.Part.n (Gv.Node.all zz1)), zz8 (Ti.Td.n (Gv.Part.sum (Gv.Node.all zz1))), zz8 (Ti.Td.s (Gv.Part.sum (Gv.Node.all zz1))), zz8 (Ti.Td.l (Gv.Part.sum (Gv.Node.all zz1))), zz8 (Gv.Node.h zz1)])), some (Sum.inl (72, [zz8 (Gv.Part.n (Gv.one O7 (El.mk x0 x1))), zz8 (Ti.Td.n zz4), zz8 (Ti.Td.s zz4), zz8 (Ti.Td.l zz4)]))])) ∧ (mayA (Gv.Part.sum zz3) zz4 = false → Vc (PP (Prod.snd zz2)) ∧ Vc True ∧ Vc (PP zz5 ∧ Gv.DeepN O7 k zz5 (Gv.lk O7 (Prod.snd zz2) (Gv.Ref.mk x4 x5))) ∧ Post (G (zz8 (Prod.fst zz6)) [some (Sum.inl (76, [zz7, zz8 ti, zz8 tg])), some (Sum.inr (Sum.inr (Sum.inr (Rs.pool (Prod.snd zz6))))), some (Sum.inl (74, [zz8 x0, zz8 x1, zz8 x2, zz8 x3, zz8 x4, zz8 x5, zz8 x6, zz8 x7, zz8 x8, zz8 x9, zz8 x10])), some (Sum.inl (72, [zz8 (Gv.Part.n zz3), zz8 (Ti.Td.n (Gv.Part.sum zz3)), zz8 (Ti.Td.s (Gv.Part.sum zz3)), zz8 (Ti.Td.l (Gv.Part.sum zz3))])), some (Sum.inl (74, [zz8 (El.k (Gv.Node.e zz1)), zz8 (El.w (Gv.Node.e zz1)), zz8 (Gv.Ref.i (Gv.Node.l zz1)), zz8 (Gv.Ref.g (Gv.Node.l zz1)), zz8 (Gv.Ref.i (Gv.Node.r zz1)), zz8 (Gv.Ref.g (Gv.Node.r zz1)), zz8 (Gv.Part.n (Gv.Node.all zz1)), zz8 (Ti.Td.n (Gv.Part.sum (Gv.Node.all zz1))), zz8 (Ti.Td.s (Gv.Part.sum (Gv.Node.all zz1))), zz8 (Ti.Td.l (Gv.Part.sum (Gv.Node.all zz1))), zz8 (Gv.Node.h zz1)])), some (Sum.inl (72, [zz8 (Gv.Part.n (Gv.one O7 (El.mk x0 x1))), zz8 (Ti.Td.n zz4), zz8 (Ti.Td.s zz4), zz8 (Ti.Td.l zz4)]))]))) ∧ (decide (Gv.Part.n zz3 ≥ f_) = false → Vc (PP (Prod.snd zz2)) ∧ Vc True ∧ Vc (PP zz5 ∧ Gv.DeepN O7 k zz5 (Gv.lk O7 (Prod.snd zz2) (Gv.Ref.mk x4 x5))) ∧ Post (G (zz8 (Prod.fst zz6)) [some (Sum.inl (76, [zz7, zz8 ti, zz8 tg])), some (Sum.inr (Sum.inr (Sum.inr (Rs.pool (Prod.snd zz6))))), some (Sum.inl (74, [zz8 x0, zz8 x1, zz8 x2, zz8 x3, zz8 x4, zz8 x5, zz8 x6, zz8 x7, zz8 x8, zz8 x9, zz8 x10])), some (Sum.inl (72, [zz8 (Gv.Part.n zz3), zz8 (Ti.Td.n (Gv.Part.sum zz3)), zz8 (Ti.Td.s (Gv.Part.sum zz3)), zz8 (Ti.Td.l (Gv.Part.sum zz3))])), some (Sum.inl (74, [zz8 (El.k (Gv.Node.e zz1)), zz8 (El.w (Gv.Node.e zz1)), zz8 (Gv.Ref.i (Gv.Node.l zz1)), zz8 (Gv.Ref.g (Gv.Node.l zz1)), zz8 (Gv.Ref.i (Gv.Node.r zz1)), zz8 (Gv.Ref.g (Gv.Node.r zz1)), zz8 (Gv.Part.n (Gv.Node.all zz1)), zz8 (Ti.Td.n (Gv.Part.sum (Gv.Node.all zz1))), zz8 (Ti.Td.s (Gv.Part.sum (Gv.Node.all zz1))), zz8 (Ti.Td.l (Gv.Part.sum (Gv.Node.all zz1))), zz8 (Gv.Node.h zz1)])), some (Sum.inl (72, [zz8 (Gv.Part.n (Gv.one O7 (El.mk x0 x1))), zz8 (Ti.Td.n zz4), zz8 (Ti.Td.s zz4), zz8 (Ti.Td.l zz4)]))])))))) ∧ ((x10 == (0 : Int)) = true → Post (G (zz8 (-1 : Int)) [some (Sum.inl (76, [zz7, zz8 ti, zz8 tg])), some (Sum.inr (Sum.inr (Sum.inr (Rs.pool m)))), some (Sum.inl (74, [zz8 x0, zz8 x1, zz8 x2, zz8 x3, zz8 x4, zz8 x5, zz8 x6, zz8 x7, zz8 x8, zz8 x9, zz8 x10])), some (Sum.inl (72, [zz8 p0, zz8 p1, zz8 p2, zz8 p3]))]))) ?_ (by kernel_rfl)
      intro zz7 zz8 zz1 zz2 zz3 zz4 zz5 zz6; subst zz6 zz5 zz4 zz3 zz2 zz1 zz8 zz7
      simp only [Gv.DeepN] at hd
      have e1 : ∀ e, (Gv.one O7 e).sum = O7.sum e := fun _ => rfl
      have done : ∀ (i : Int) (m' : Pl) (rest : Hp Rs), Gv.first O7 mayA (k + 1) m (⟨⟨x0, x1⟩, ⟨x2, x3⟩, ⟨x4, x5⟩, ⟨x6, ⟨x7, x8, x9⟩⟩, x10⟩ : Nd) (⟨p0, ⟨p1, p2, p3⟩⟩ : Gv.Part Ti.Td) f_ = (i, m') → G (.int .i64 i) ([some (.inl (76, [.pointer (some ⟨1, 0, none⟩), .int .i64 ti, .int .i64 tg])), some (.inr (.inr (.inr (.pool m'))))] ++ rest) := by
        intro i m' rest e
        subst hG
        refine ⟨[0, 1], ?_, rfl, ⟨.inl rfl, ?_, trivial⟩, rfl, rfl, rfl, rfl⟩
        · simp only [e]; rfl
        · simp only [e]; rfl
      clear hG
      rw [Gv.first] at done
      dsimp only [Gv.W] at done
      simp only [e1]
      repeat' (first | apply And.intro | apply Vc.mk | apply fits.mk | intro h | apply Post.mk)
      all_goals (try simp only [decide_eq_true_eq, decide_eq_false_iff_not, Nat.zero_add, ge_iff_le, Int.not_le, Int.not_lt, Int.toNat_natCast, beq_iff_eq, beq_eq_false_iff_ne, bne_iff_ne, bne_eq_false_iff_eq, Bool.not_eq_true', Bool.not_eq_false'] at *)
      all_goals first | contradiction | omega | (apply congrArg Value.bool; assumption) | exact congrArg Value.bool (decide_eq_true (by assumption)) | exact congrArg Value.bool (decide_eq_false (Int.not_lt.mpr (by assumption))) | exact ⟨rfl, by omega⟩ | exact rfl | (simp [*, -List.getD_eq_getElem?_getD]; done) | skip
      all_goals first | assumption | (simp only [Gv.see_ok, Gv.put1_ok, Gv.setN_ok, Gv.tie_ok, Gv.turnL_ok, Gv.turnR_ok, Gv.level_ok, Gv.replace_ok, Gv.hang_ok, Gv.link_ok, Gv.pickF_ok, Gv.glue_ok, Gv.pick_ok, Gv.cutF_ok, Gv.gather_ok, Gv.between_ok, Gv.first_ok, Gv.last_ok]; assumption) | skip
      all_goals first | exact Gv.DeepN_of (hd.resolve_left (by omega)).1 (fun s => by simp only [Gv.lk_see, Gv.lk_first, Gv.lk_last]) | (simp only [Gv.lk_first, Gv.lk_last, Gv.lk_see]; first | exact Gv.DeepN_of (hd.resolve_left (by omega)).2 (fun s => by simp only [Gv.lk_see, Gv.lk_first, Gv.lk_last]) | exact Gv.DeepN_of (hd.resolve_left (by omega)).1 (fun s => by simp only [Gv.lk_see, Gv.lk_first, Gv.lk_last])) | skip
      all_goals (refine done _ _ _ ?_; repeat' split)
      all_goals first | rfl | (exfalso; omega) | (exfalso; simp_all; done) | (exfalso; simp_all; omega)
    · cases hx
end Go.Proofs.Ytclagkjjgmeifaa.G7


/- grove: a pool of nodes of keys and numbers: its calls, first part. -/
namespace Go.Proofs.Ytclagkjjgmeifaa.G7
open Go.Proofs.Ytclagkjjgmeifaa.Rx
set_option linter.unusedVariables false
set_option linter.unusedSimpArgs false
set_option maxRecDepth 100000
set_option maxHeartbeats 16000000
def TNew : Tab Rs := [(39, liftC zN 2 (con1 newP))]
theorem TNew_ok : TabOk D Try.prog TNew := ⟨liftC_ok _ _ new_ok, trivial⟩
def gnewP : Prim Rs := fun args hh => match args, hh with
  | [.int .i64 c], [] => some ⟨True, .pointer (some ⟨0, 0, none⟩), none, [some (.inl (76, [.pointer (some ⟨1, 0, none⟩), .int .i64 Gv.r0.i, .int .i64 Gv.r0.g])), some (.inr (.inr (.inr (.pool ⟨[], [], [], [], 0, min (max c 0) 16777216, 0⟩))))], [], [(0, 0)]⟩
  | _, _ => none
theorem gnew_ok : ConOk D Try.prog 11 (con1 gnewP) := by
  refine con1_ok (prim_at (fn := Try.f11) (root := codeOf Try.f11) (by kernel_rfl) (by kernel_rfl) (by kernel_rfl) fun args hh x hx => ?_)
  unfold gnewP at hx
  split at hx
  · rename_i c
    injection hx with hx
    subst hx
    refine ⟨by first | exact Nat.le_refl _ | exact Nat.zero_le _ | exact Nat.le_succ _, noLit rfl, (fun hw => by first | rfl | cases hw), fun _ hv => ?_⟩
    generalize hG : Rx.Ends (R := Rs) _ _ = G
    refine rx_ok (T := TNew) TNew_ok mixed 200 ?_
    refine as_text (q := Vc True ∧ Post (G (Value.pointer (some (Addr.mk 1 0 none))) [some (Sum.inr (Sum.inr (Sum.inr (Rs.pool (Gv.PM.mk [] [] [] [] (0 : Int) (min (max c (0 : Int)) (16777216 : Int)) (0 : Int)))))), some (Sum.inl (76, [Value.pointer (some (Addr.mk 0 0 none)), Value.int IntKind.i64 0, Value.int IntKind.i64 0]))])) ?_ (by kernel_rfl)
    subst hG
    repeat' (first | apply And.intro | apply Vc.mk | apply fits.mk | intro h | apply Post.mk)
    all_goals (try simp only [decide_eq_true_eq, decide_eq_false_iff_not, Nat.zero_add, ge_iff_le, Int.not_le, Int.not_lt, Int.toNat_natCast, beq_iff_eq, beq_eq_false_iff_ne, bne_iff_ne, bne_eq_false_iff_eq, Bool.not_eq_true', Bool.not_eq_false'] at *)
    all_goals first | contradiction | omega | (apply congrArg Value.bool; assumption) | exact congrArg Value.bool (decide_eq_true (by assumption)) | exact congrArg Value.bool (decide_eq_false (Int.not_lt.mpr (by assumption))) | exact ⟨rfl, by omega⟩ | exact rfl | (simp [*, -List.getD_eq_getElem?_getD]; done) | skip
    exact ⟨[1, 0], rfl, rfl, ⟨.inl rfl, rfl, trivial⟩, rfl, rfl, rfl, rfl⟩
  · cases hx
def TLook1 : Tab Rs := [(46, liftC zN 2 (con1 lookP))]
theorem TLook1_ok : TabOk D Try.prog TLook1 := ⟨liftC_ok _ _ look_ok, trivial⟩
def lenP : Prim Rs := fun args hh => match args, hh with
  | [.pointer (some ⟨0, 0, none⟩)], [some (.inl (76, [.pointer (some ⟨1, 0, none⟩), .int .i64 ti, .int .i64 tg])), some (.inr (.inr (.inr (.pool m))))] => some ⟨PP m, .int .i64 (Gv.lk O7 m (⟨ti, tg⟩ : Gv.Ref)).all.n, none, [some (.inl (76, [.pointer (some ⟨1, 0, none⟩), .int .i64 ti, .int .i64 tg])), some (.inr (.inr (.inr (.pool (Gv.see m (⟨ti, tg⟩ : Gv.Ref))))))], [], [(0, 0)]⟩
  | _, _ => none
theorem len_ok : ConOk D Try.prog 33 (con1 lenP) := by
  refine con1_ok (prim_at (fn := Try.f33) (root := codeOf Try.f33) (by kernel_rfl) (by kernel_rfl) (by kernel_rfl) fun args hh x hx => ?_)
  unfold lenP at hx
  split at hx
  · rename_i ti tg m
    injection hx with hx
    subst hx
    refine ⟨by first | exact Nat.le_refl _ | exact Nat.zero_le _ | exact Nat.le_succ _, noLit rfl, (fun hw => by first | rfl | cases hw), fun _ hv => ?_⟩
    generalize hG : Rx.Ends (R := Rs) _ _ = G
    refine rx_ok (T := TLook1) TLook1_ok mixed 200 ?_
    refine as_text (q := Vc (PP m) ∧ Post (G (Value.int IntKind.i64 (Gv.Part.n (Gv.Node.all (Gv.lk O7 m (Gv.Ref.mk ti tg))))) [some (Sum.inl (76, [Value.pointer (some (Addr.mk 1 0 none)), Value.int IntKind.i64 ti, Value.int IntKind.i64 tg])), some (Sum.inr (Sum.inr (Sum.inr (Rs.pool (Gv.see m (Gv.Ref.mk ti tg))))))])) ?_ (by kernel_rfl)
    subst hG
    repeat' (first | apply And.intro | apply Vc.mk | apply fits.mk | intro h | apply Post.mk)
    all_goals (try simp only [decide_eq_true_eq, decide_eq_false_iff_not, Nat.zero_add, ge_iff_le, Int.not_le, Int.not_lt, Int.toNat_natCast, beq_iff_eq, beq_eq_false_iff_ne, bne_iff_ne, bne_eq_false_iff_eq, Bool.not_eq_true', Bool.not_eq_false'] at *)
    all_goals first | contradiction | omega | (apply congrArg Value.bool; assumption) | exact congrArg Value.bool (decide_eq_true (by assumption)) | exact congrArg Value.bool (decide_eq_false (Int.not_lt.mpr (by assumption))) | exact ⟨rfl, by omega⟩ | exact rfl | (simp [*, -List.getD_eq_getElem?_getD]; done) | skip
    all_goals first | assumption | (simp only [Gv.see_ok, Gv.put1_ok, Gv.setN_ok, Gv.tie_ok, Gv.turnL_ok, Gv.turnR_ok, Gv.level_ok, Gv.replace_ok, Gv.hang_ok, Gv.link_ok, Gv.pickF_ok, Gv.glue_ok, Gv.pick_ok, Gv.cutF_ok, Gv.gather_ok, Gv.between_ok, Gv.first_ok, Gv.last_ok]; assumption) | skip
    exact ⟨[0, 1], rfl, rfl, ⟨.inl rfl, rfl, trivial⟩, rfl, rfl, rfl, rfl⟩
  · cases hx
def gputP (K : Nat) : Prim Rs := fun args hh => match args, hh with
  | [.pointer (some ⟨0, 0, none⟩), .agg ⟨[.int .i64 k0, .int .i64 k1]⟩], [some (.inl (76, [.pointer (some ⟨1, 0, none⟩), .int .i64 ti, .int .i64 tg])), some (.inr (.inr (.inr (.pool m))))] => some ⟨PP m ∧ Gv.PutD O7 K m (⟨ti, tg⟩ : Gv.Ref) (⟨k0, k1⟩ : El), .bool (Gv.putF O7 K m (⟨ti, tg⟩ : Gv.Ref) (⟨k0, k1⟩ : El)).1, none, [some (.inl (76, [.pointer (some ⟨1, 0, none⟩), .int .i64 (Gv.putF O7 K m (⟨ti, tg⟩ : Gv.Ref) (⟨k0, k1⟩ : El)).2.1.i, .int .i64 (Gv.putF O7 K m (⟨ti, tg⟩ : Gv.Ref) (⟨k0, k1⟩ : El)).2.1.g])), some (.inr (.inr (.inr (.pool (Gv.putF O7 K m (⟨ti, tg⟩ : Gv.Ref) (⟨k0, k1⟩ : El)).2.2))))], [], [(0, 0)]⟩
  | _, _ => none
def TGPut (K : Nat) : Tab Rs := [(40, liftC zN 2 (con1 (replaceP K))), (42, liftC zN 2 (con1 oneP)), (41, liftC zN 2 (con1 putP)), (43, liftC zN 2 (con1 (hangP K)))]
theorem gput_ok (K : Nat) : ConOk D Try.prog 13 (con1 (gputP K)) := by
  refine con1_ok (prim_at (fn := Try.f13) (root := codeOf Try.f13) (by kernel_rfl) (by kernel_rfl) (by kernel_rfl) fun args hh x hx => ?_)
  unfold gputP at hx
  split at hx
  · rename_i k0 k1 ti tg m
    injection hx with hx
    subst hx
    refine ⟨by first | exact Nat.le_refl _ | exact Nat.zero_le _ | exact Nat.le_succ _, noLit rfl, (fun hw => by first | rfl | cases hw), fun _ hv => ?_⟩
    obtain ⟨hp, hd⟩ := hv
    generalize hG : Rx.Ends (R := Rs) _ _ = G
    refine rx_ok (T := (TGPut K)) (show TabOk D Try.prog (TGPut K) from ⟨liftC_ok _ _ (replace_ok K), liftC_ok _ _ one_ok, liftC_ok _ _ put_ok, liftC_ok _ _ (hang_ok K), trivial⟩) mixed 200 ?_
    refine as_text (q := let zz5 := Value.pointer (some (Addr.mk 1 0 none)); let zz6 := Value.int IntKind.i64; let zz1 := (Gv.replace O7 K m (Gv.Ref.mk ti tg) (El.mk k0 k1)); let zz2 := (Gv.put zd (Prod.snd zz1) (Gv.Node.mk (El.mk k0 k1) (Gv.Ref.mk (0 : Int) (0 : Int)) (Gv.Ref.mk (0 : Int) (0 : Int)) (Gv.one O7 (El.mk k0 k1)) (1 : Int))); let zz3 := (Value.bool !decide (Gv.PM.held (Prod.snd zz1) = Gv.PM.cap (Prod.snd zz1))); let zz4 := (Gv.hang O7 K zz2 (Gv.Ref.mk ti tg) (Gv.putR zd (Prod.snd zz1)) (El.mk k0 k1)); Vc (PP m ∧ Gv.Deep O7 K m (Gv.Ref.mk ti tg)) ∧ (Prod.fst zz1 = true → Post (G (Value.bool true) [some (Sum.inl (76, [zz5, zz6 ti, zz6 tg])), some (Sum.inr (Sum.inr (Sum.inr (Rs.pool (Prod.snd zz1))))), some (Sum.inl (28, [zz6 k0, zz6 k1]))])) ∧ (Prod.fst zz1 = false → Vc True ∧ Vc (PP (Prod.snd zz1)) ∧ ((!decide (Gv.PM.held (Prod.snd zz1) = Gv.PM.cap (Prod.snd zz1))) = true → Vc (PP zz2 ∧ Gv.Deep O7 K zz2 (Gv.Ref.mk ti tg)) ∧ Post (G zz3 [some (Sum.inl (76, [zz5, zz6 (Gv.Ref.i (Prod.fst zz4)), zz6 (Gv.Ref.g (Prod.fst zz4))])), some (Sum.inr (Sum.inr (Sum.inr (Rs.pool (Prod.snd zz4))))), some (Sum.inl (28, [zz6 k0, zz6 k1])), some (Sum.inl (70, [zz6 (Gv.Ref.i (Gv.putR zd (Prod.snd zz1))), zz6 (Gv.Ref.g (Gv.putR zd (Prod.snd zz1)))]))])) ∧ ((!decide (Gv.PM.held (Prod.snd zz1) = Gv.PM.cap (Prod.snd zz1))) = false → Post (G zz3 [some (Sum.inl (76, [zz5, zz6 ti, zz6 tg])), some (Sum.inr (Sum.inr (Sum.inr (Rs.pool zz2)))), some (Sum.inl (28, [zz6 k0, zz6 k1])), some (Sum.inl (70, [zz6 (Gv.Ref.i (Gv.putR zd (Prod.snd zz1))), zz6 (Gv.Ref.g (Gv.putR zd (Prod.snd zz1)))]))])))) ?_ (by kernel_rfl)
    intro zz5 zz6 zz1 zz2 zz3 zz4; subst zz4 zz3 zz2 zz1 zz6 zz5
    obtain ⟨hd1, hd2⟩ := hd
    have done : ∀ (b : Bool) (i g : Int) (m' : Pl) (rest : Hp Rs), Gv.putF O7 K m (⟨ti, tg⟩ : Gv.Ref) (⟨k0, k1⟩ : El) = (b, ⟨i, g⟩, m') → G (.bool b) ([some (.inl (76, [.pointer (some ⟨1, 0, none⟩), .int .i64 (⟨i, g⟩ : Gv.Ref).i, .int .i64 (⟨i, g⟩ : Gv.Ref).g])), some (.inr (.inr (.inr (.pool m'))))] ++ rest) := by
      intro b i g m' rest e
      subst hG
      refine ⟨[0, 1], ?_, rfl, ⟨.inl ?_, ?_, trivial⟩, rfl, rfl, rfl, rfl⟩
      · simp only [e]; rfl
      · simp only [e]; rfl
      · simp only [e]; rfl
    clear hG
    repeat' (first | apply And.intro | apply Vc.mk | apply fits.mk | intro h | apply Post.mk)
    all_goals (try simp only [decide_eq_true_eq, decide_eq_false_iff_not, Nat.zero_add, ge_iff_le, Int.not_le, Int.not_lt, Int.toNat_natCast, beq_iff_eq, beq_eq_false_iff_ne, bne_iff_ne, bne_eq_false_iff_eq, Bool.not_eq_true', Bool.not_eq_false'] at *)
    all_goals first | contradiction | omega | (apply congrArg Value.bool; assumption) | exact congrArg Value.bool (decide_eq_true (by assumption)) | exact congrArg Value.bool (decide_eq_false (Int.not_lt.mpr (by assumption))) | exact ⟨rfl, by omega⟩ | exact rfl | (simp [*, -List.getD_eq_getElem?_getD]; done) | skip
    all_goals first | assumption | (simp only [Gv.see_ok, Gv.put1_ok, Gv.setN_ok, Gv.tie_ok, Gv.turnL_ok, Gv.turnR_ok, Gv.level_ok, Gv.replace_ok, Gv.hang_ok, Gv.link_ok, Gv.pickF_ok, Gv.glue_ok, Gv.pick_ok, Gv.cutF_ok, Gv.gather_ok, Gv.between_ok, Gv.first_ok, Gv.last_ok]; assumption) | skip
    all_goals first | exact (hd2 (by assumption)).1 | exact (hd2 (by assumption)).2 | skip
    all_goals (refine done _ _ _ _ _ ?_; unfold Gv.putF; repeat' split)
    all_goals first | rfl | (exfalso; simp_all; done) | (refine Prod.ext ?_ rfl; simp [*]; done)
  · cases hx
def gdropP (K : Nat) : Prim Rs := fun args hh => match args, hh with
  | [.pointer (some ⟨0, 0, none⟩), .agg ⟨[.int .i64 k0, .int .i64 k1]⟩], [some (.inl (76, [.pointer (some ⟨1, 0, none⟩), .int .i64 ti, .int .i64 tg])), some (.inr (.inr (.inr (.pool m))))] => some ⟨PP m ∧ Gv.PickD O7 K K m (⟨ti, tg⟩ : Gv.Ref) (⟨k0, k1⟩ : El), .tuple #[.agg ⟨[.int .i64 (Gv.dropF O7 K m (⟨ti, tg⟩ : Gv.Ref) (⟨k0, k1⟩ : El)).1.k, .int .i64 (Gv.dropF O7 K m (⟨ti, tg⟩ : Gv.Ref) (⟨k0, k1⟩ : El)).1.w]⟩, .bool (Gv.dropF O7 K m (⟨ti, tg⟩ : Gv.Ref) (⟨k0, k1⟩ : El)).2.1], none, [some (.inl (76, [.pointer (some ⟨1, 0, none⟩), .int .i64 (Gv.dropF O7 K m (⟨ti, tg⟩ : Gv.Ref) (⟨k0, k1⟩ : El)).2.2.1.i, .int .i64 (Gv.dropF O7 K m (⟨ti, tg⟩ : Gv.Ref) (⟨k0, k1⟩ : El)).2.2.1.g])), some (.inr (.inr (.inr (.pool (Gv.dropF O7 K m (⟨ti, tg⟩ : Gv.Ref) (⟨k0, k1⟩ : El)).2.2.2))))], [], [(0, 0)]⟩
  | _, _ => none
def TGDrop (K : Nat) : Tab Rs := [(44, liftC zN 2 (con1 (pickP K K))), (45, liftC zN 2 (con1 dropP))]
theorem gdrop_ok (K : Nat) : ConOk D Try.prog 15 (con1 (gdropP K)) := by
  refine con1_ok (prim_at (fn := Try.f15) (root := codeOf Try.f15) (by kernel_rfl) (by kernel_rfl) (by kernel_rfl) fun args hh x hx => ?_)
  unfold gdropP at hx
  split at hx
  · rename_i k0 k1 ti tg m
    injection hx with hx
    subst hx
    refine ⟨by first | exact Nat.le_refl _ | exact Nat.zero_le _ | exact Nat.le_succ _, noLit rfl, (fun hw => by first | rfl | cases hw), fun _ hv => ?_⟩
    obtain ⟨hp, hd⟩ := hv
    generalize hG : Rx.Ends (R := Rs) _ _ = G
    refine rx_ok (T := (TGDrop K)) (show TabOk D Try.prog (TGDrop K) from ⟨liftC_ok _ _ (pick_ok K K), liftC_ok _ _ drop_ok, trivial⟩) mixed 200 ?_
    refine as_text (q := let zz4 := Value.int IntKind.i64; let zz1 := (Prod.snd (Gv.pick O7 K K m (Gv.Ref.mk ti tg) (El.mk k0 k1))); let zz2 := (Gv.look zd (Prod.snd zz1) (Prod.fst zz1)); let zz3 := (Prod.fst (Gv.pick O7 K K m (Gv.Ref.mk ti tg) (El.mk k0 k1))); Vc (PP m ∧ Gv.PickD O7 K K m (Gv.Ref.mk ti tg) (El.mk k0 k1)) ∧ Vc (PP (Prod.snd zz1)) ∧ Post (G (Value.tuple (Array.mk [Value.agg (Array.mk [zz4 (El.k (Gv.Node.e zz2)), zz4 (El.w (Gv.Node.e zz2))]), Value.bool (Gv.has (Prod.snd zz1) (Prod.fst zz1))])) [some (Sum.inl (76, [Value.pointer (some (Addr.mk 1 0 none)), zz4 (Gv.Ref.i zz3), zz4 (Gv.Ref.g zz3)])), some (Sum.inr (Sum.inr (Sum.inr (Rs.pool (Gv.drop zd (Prod.snd zz1) (Prod.fst zz1)))))), some (Sum.inl (28, [zz4 k0, zz4 k1])), some (Sum.inl (28, [zz4 (El.k (Gv.Node.e zz2)), zz4 (El.w (Gv.Node.e zz2))])), some (Sum.inl (70, [zz4 (Gv.Ref.i zz3), zz4 (Gv.Ref.g zz3)])), some (Sum.inl (70, [zz4 (Gv.Ref.i (Prod.fst zz1)), zz4 (Gv.Ref.g (Prod.fst zz1))])), some (Sum.inl (74, [zz4 (El.k (Gv.Node.e zz2)), zz4 (El.w (Gv.Node.e zz2)), zz4 (Gv.Ref.i (Gv.Node.l zz2)), zz4 (Gv.Ref.g (Gv.Node.l zz2)), zz4 (Gv.Ref.i (Gv.Node.r zz2)), zz4 (Gv.Ref.g (Gv.Node.r zz2)), zz4 (Gv.Part.n (Gv.Node.all zz2)), zz4 (Ti.Td.n (Gv.Part.sum (Gv.Node.all zz2))), zz4 (Ti.Td.s (Gv.Part.sum (Gv.Node.all zz2))), zz4 (Ti.Td.l (Gv.Part.sum (Gv.Node.all zz2))), zz4 (Gv.Node.h zz2)]))])) ?_ (by kernel_rfl)
    intro zz4 zz1 zz2 zz3; subst zz3 zz2 zz1 zz4
    subst hG
    repeat' (first | apply And.intro | apply Vc.mk | apply fits.mk | intro h | apply Post.mk)
    all_goals (try simp only [decide_eq_true_eq, decide_eq_false_iff_not, Nat.zero_add, ge_iff_le, Int.not_le, Int.not_lt, Int.toNat_natCast, beq_iff_eq, beq_eq_false_iff_ne, bne_iff_ne, bne_eq_false_iff_eq, Bool.not_eq_true', Bool.not_eq_false'] at *)
    all_goals first | contradiction | omega | (apply congrArg Value.bool; assumption) | exact congrArg Value.bool (decide_eq_true (by assumption)) | exact congrArg Value.bool (decide_eq_false (Int.not_lt.mpr (by assumption))) | exact ⟨rfl, by omega⟩ | exact rfl | (simp [*, -List.getD_eq_getElem?_getD]; done) | skip
    all_goals first | assumption | (simp only [Gv.see_ok, Gv.put1_ok, Gv.setN_ok, Gv.tie_ok, Gv.turnL_ok, Gv.turnR_ok, Gv.level_ok, Gv.replace_ok, Gv.hang_ok, Gv.link_ok, Gv.pickF_ok, Gv.glue_ok, Gv.pick_ok, Gv.cutF_ok, Gv.gather_ok, Gv.between_ok, Gv.first_ok, Gv.last_ok]; assumption) | skip
    exact ⟨[0, 1], rfl, rfl, ⟨.inl rfl, rfl, trivial⟩, rfl, rfl, rfl, rfl⟩
  · cases hx
def gbetP (K : Nat) : Prim Rs := fun args hh => match args, hh with
  | [.pointer (some ⟨0, 0, none⟩), .int .i64 x_, .int .i64 y_], [some (.inl (76, [.pointer (some ⟨1, 0, none⟩), .int .i64 ti, .int .i64 tg])), some (.inr (.inr (.inr (.pool m))))] => some ⟨PP m ∧ Gv.BetE O7 K (Gv.see m (⟨ti, tg⟩ : Gv.Ref)) (Gv.lk O7 m (⟨ti, tg⟩ : Gv.Ref)) x_ y_, .agg ⟨[.int .i64 (Gv.between O7 K (Gv.see m (⟨ti, tg⟩ : Gv.Ref)) (Gv.lk O7 m (⟨ti, tg⟩ : Gv.Ref)) x_ y_).1.sum.n, .int .i64 (Gv.between O7 K (Gv.see m (⟨ti, tg⟩ : Gv.Ref)) (Gv.lk O7 m (⟨ti, tg⟩ : Gv.Ref)) x_ y_).1.sum.s, .int .i64 (Gv.between O7 K (Gv.see m (⟨ti, tg⟩ : Gv.Ref)) (Gv.lk O7 m (⟨ti, tg⟩ : Gv.Ref)) x_ y_).1.sum.l]⟩, none, [some (.inl (76, [.pointer (some ⟨1, 0, none⟩), .int .i64 ti, .int .i64 tg])), some (.inr (.inr (.inr (.pool (Gv.between O7 K (Gv.see m (⟨ti, tg⟩ : Gv.Ref)) (Gv.lk O7 m (⟨ti, tg⟩ : Gv.Ref)) x_ y_).2))))], [], [(0, 0)]⟩
  | _, _ => none
def TGBet (K : Nat) : Tab Rs := [(46, liftC zN 2 (con1 lookP)), (48, liftC zN 2 (con1 (betP K)))]
theorem gbet_ok (K : Nat) : ConOk D Try.prog 24 (con1 (gbetP K)) := by
  refine con1_ok (prim_at (fn := Try.f24) (root := codeOf Try.f24) (by kernel_rfl) (by kernel_rfl) (by kernel_rfl) fun args hh x hx => ?_)
  unfold gbetP at hx
  split at hx
  · rename_i x_ y_ ti tg m
    injection hx with hx
    subst hx
    refine ⟨by first | exact Nat.le_refl _ | exact Nat.zero_le _ | exact Nat.le_succ _, noLit rfl, (fun hw => by first | rfl | cases hw), fun _ hv => ?_⟩
    obtain ⟨hp, hd⟩ := hv
    generalize hG : Rx.Ends (R := Rs) _ _ = G
    refine rx_ok (T := (TGBet K)) (show TabOk D Try.prog (TGBet K) from ⟨liftC_ok _ _ look_ok, liftC_ok _ _ (bet_ok K), trivial⟩) mixed 200 ?_
    refine as_text (q := let zz2 := Value.int IntKind.i64; let zz1 := (Gv.between O7 K (Gv.see m (Gv.Ref.mk ti tg)) (Gv.lk O7 m (Gv.Ref.mk ti tg)) x_ y_); Vc (PP m) ∧ Vc (PP (Gv.see m (Gv.Ref.mk ti tg)) ∧ Gv.BetE O7 K (Gv.see m (Gv.Ref.mk ti tg)) (Gv.lk O7 m (Gv.Ref.mk ti tg)) x_ y_) ∧ Post (G (Value.agg (Array.mk [zz2 (Ti.Td.n (Gv.Part.sum (Prod.fst zz1))), zz2 (Ti.Td.s (Gv.Part.sum (Prod.fst zz1))), zz2 (Ti.Td.l (Gv.Part.sum (Prod.fst zz1)))])) [some (Sum.inl (76, [Value.pointer (some (Addr.mk 1 0 none)), zz2 ti, zz2 tg])), some (Sum.inr (Sum.inr (Sum.inr (Rs.pool (Prod.snd zz1))))), some (Sum.inl (30, [zz2 (Ti.Td.n (Gv.Part.sum (Prod.fst zz1))), zz2 (Ti.Td.s (Gv.Part.sum (Prod.fst zz1))), zz2 (Ti.Td.l (Gv.Part.sum (Prod.fst zz1)))]))])) ?_ (by kernel_rfl)
    intro zz2 zz1; subst zz1 zz2
    subst hG
    repeat' (first | apply And.intro | apply Vc.mk | apply fits.mk | intro h | apply Post.mk)
    all_goals (try simp only [decide_eq_true_eq, decide_eq_false_iff_not, Nat.zero_add, ge_iff_le, Int.not_le, Int.not_lt, Int.toNat_natCast, beq_iff_eq, beq_eq_false_iff_ne, bne_iff_ne, bne_eq_false_iff_eq, Bool.not_eq_true', Bool.not_eq_false'] at *)
    all_goals first | contradiction | omega | (apply congrArg Value.bool; assumption) | exact congrArg Value.bool (decide_eq_true (by assumption)) | exact congrArg Value.bool (decide_eq_false (Int.not_lt.mpr (by assumption))) | exact ⟨rfl, by omega⟩ | exact rfl | (simp [*, -List.getD_eq_getElem?_getD]; done) | skip
    all_goals first | assumption | (simp only [Gv.see_ok, Gv.put1_ok, Gv.setN_ok, Gv.tie_ok, Gv.turnL_ok, Gv.turnR_ok, Gv.level_ok, Gv.replace_ok, Gv.hang_ok, Gv.link_ok, Gv.pickF_ok, Gv.glue_ok, Gv.pick_ok, Gv.cutF_ok, Gv.gather_ok, Gv.between_ok, Gv.first_ok, Gv.last_ok]; assumption) | skip
    exact ⟨[0, 1], rfl, rfl, ⟨.inl rfl, rfl, trivial⟩, rfl, rfl, rfl, rfl⟩
  · cases hx
theorem len_keep : KeepC [0] (con1 lenP) := by
  intro b args h x hx i hi hl
  cases b with
  | false => cases hx
  | true =>
    simp only [con1, Con.go, lenP] at hx
    split at hx
    · injection hx with hx
      subst hx
      simp only [List.mem_singleton] at hi
      subst hi
      rfl
    · cases hx
def gallP (K : Nat) : Prim Rs := fun args hh => match args, hh with
  | [.pointer (some ⟨0, 0, none⟩)], [some (.inl (76, [.pointer (some ⟨1, 0, none⟩), .int .i64 ti, .int .i64 tg])), some (.inr (.inr (.inr (.pool m))))] => some ⟨PP m ∧ Gv.Deep O7 K m (⟨ti, tg⟩ : Gv.Ref) ∧ (Gv.lk O7 m (⟨ti, tg⟩ : Gv.Ref)).all.n = (Gv.gather O7 K (Gv.see m (⟨ti, tg⟩ : Gv.Ref)) (⟨ti, tg⟩ : Gv.Ref)).1.length ∧ (Gv.gather O7 K (Gv.see m (⟨ti, tg⟩ : Gv.Ref)) (⟨ti, tg⟩ : Gv.Ref)).1.length < 900000, .slice (some ⟨2, 0, some 2000⟩) (Gv.gather O7 K (Gv.see m (⟨ti, tg⟩ : Gv.Ref)) (⟨ti, tg⟩ : Gv.Ref)).1.length 0, none, [some (.inl (76, [.pointer (some ⟨1, 0, none⟩), .int .i64 ti, .int .i64 tg])), some (.inr (.inr (.inr (.pool (Gv.gather O7 K (Gv.see m (⟨ti, tg⟩ : Gv.Ref)) (⟨ti, tg⟩ : Gv.Ref)).2)))), some (.inr (.inl (28, ⟨[.int .i64 0, .int .i64 0], (Gv.gather O7 K (Gv.see m (⟨ti, tg⟩ : Gv.Ref)) (⟨ti, tg⟩ : Gv.Ref)).1.length, [⟨((Gv.gather O7 K (Gv.see m (⟨ti, tg⟩ : Gv.Ref)) (⟨ti, tg⟩ : Gv.Ref)).1.map fun e => e.k), [], []⟩, ⟨((Gv.gather O7 K (Gv.see m (⟨ti, tg⟩ : Gv.Ref)) (⟨ti, tg⟩ : Gv.Ref)).1.map fun e => e.w), [], []⟩]⟩)))], [], [(0, 0)]⟩
  | _, _ => none
def TGAll (K : Nat) : Tab Rs := [(33, liftKC [0] 2 (con1 lenP)), (54, liftC zN 2 (con1 (gatherP K)))]
theorem gall_ok (K : Nat) : ConOk D Try.prog 37 (con1 (gallP K)) := by
  refine con1_ok (prim_at (fn := Try.f37) (root := codeOf Try.f37) (by kernel_rfl) (by kernel_rfl) (by kernel_rfl) fun args hh x hx => ?_)
  unfold gallP at hx
  split at hx
  · rename_i ti tg m
    injection hx with hx
    subst hx
    refine ⟨by first | exact Nat.le_refl _ | exact Nat.zero_le _ | exact Nat.le_succ _, noLit rfl, (fun hw => by first | rfl | cases hw), fun _ hv => ?_⟩
    obtain ⟨hp, hd⟩ := hv
    generalize hG : Rx.Ends (R := Rs) _ _ = G
    refine rx_ok (T := (TGAll K)) (show TabOk D Try.prog (TGAll K) from ⟨liftKC_ok _ _ len_ok len_keep, liftC_ok _ _ (gather_ok K), trivial⟩) mixed 200 ?_
    refine as_text (q := let zz3 := Value.int IntKind.i64; let zz1 := (Gv.Node.all (Gv.lk O7 m (Gv.Ref.mk ti tg))); let zz2 := (Gv.gather O7 K (Gv.see m (Gv.Ref.mk ti tg)) (Gv.Ref.mk ti tg)); Vc (PP m) ∧ Vc ((0 : Int) ≤ (0 : Int) ∧ (0 : Int) ≤ Gv.Part.n zz1 ∧ Gv.Part.n zz1 * (16 : Int) ≤ (140737488355328 : Int) ∧ Gv.Part.n zz1 ≤ (140737488355328 : Int)) ∧ Vc ((PP (Gv.see m (Gv.Ref.mk ti tg)) ∧ 0 = 0 ∧ 0 = 0 ∧ 0 = 0 ∧ 0 + List.length (Prod.fst zz2) < 900000) ∧ Gv.Deep O7 K (Gv.see m (Gv.Ref.mk ti tg)) (Gv.Ref.mk ti tg)) ∧ Post (G (Value.slice (some (Addr.mk 4 0 (some 2000))) (0 + List.length (Prod.fst zz2)) (if List.length (Prod.fst zz2) = 0 then Int.toNat (Gv.Part.n zz1) else 0)) [some (Sum.inl (76, [Value.pointer (some (Addr.mk 1 0 none)), zz3 ti, zz3 tg])), some (Sum.inr (Sum.inr (Sum.inr (Rs.pool (Prod.snd zz2))))), some (Sum.inr (Sum.inl (28, Row.mk [zz3 0, zz3 0] 0 [Col.mk [] [] [], Col.mk [] [] []]))), none, some (Sum.inr (Sum.inl (28, Row.mk [zz3 0, zz3 0] (0 + List.length (Prod.fst zz2)) [Col.mk ([] ++ List.map (fun e => El.k e) (Prod.fst zz2)) [] [], Col.mk ([] ++ List.map (fun e => El.w e) (Prod.fst zz2)) [] []])))])) ?_ (by kernel_rfl)
    intro zz3 zz1 zz2; subst zz2 zz1 zz3
    subst hG
    obtain ⟨hd1, hd2, hd4⟩ := hd
    have hd5 := (Gv.Deep_see (s := (⟨ti, tg⟩ : Gv.Ref))).2 hd1
    have e2 : (if (Gv.gather O7 K (Gv.see m (⟨ti, tg⟩ : Gv.Ref)) (⟨ti, tg⟩ : Gv.Ref)).1.length = 0 then (Gv.lk O7 m (⟨ti, tg⟩ : Gv.Ref)).all.n.toNat else 0) = 0 := by rw [hd2]; split <;> omega
    simp only [e2, Nat.zero_add, List.nil_append]
    repeat' (first | apply And.intro | apply Vc.mk | apply fits.mk | intro h | apply Post.mk)
    all_goals (try simp only [decide_eq_true_eq, decide_eq_false_iff_not, Nat.zero_add, ge_iff_le, Int.not_le, Int.not_lt, Int.toNat_natCast, beq_iff_eq, beq_eq_false_iff_ne, bne_iff_ne, bne_eq_false_iff_eq, Bool.not_eq_true', Bool.not_eq_false'] at *)
    all_goals first | contradiction | omega | (apply congrArg Value.bool; assumption) | exact congrArg Value.bool (decide_eq_true (by assumption)) | exact congrArg Value.bool (decide_eq_false (Int.not_lt.mpr (by assumption))) | exact ⟨rfl, by omega⟩ | exact rfl | (simp [*, -List.getD_eq_getElem?_getD]; done) | skip
    all_goals first | omega | assumption | exact Gv.see_ok.2 hp | (simp; done) | skip
    refine ⟨[0, 1, 4], ?_, rfl, ?_, rfl, rfl, rfl, rfl⟩
    · rfl
    · simp [Pulls, pullB, nth, at2, dnL, dnV, mvL, mvV, mvA, mvQ_lt, blt_true, blt_false, RowLe, colI, colB]
      all_goals first | rfl | skip
  · cases hx
def gsplitP (K : Nat) : Prim Rs := fun args hh => match args, hh with
  | [.pointer (some ⟨0, 0, none⟩), .agg ⟨[.int .i64 k0, .int .i64 k1]⟩], [some (.inl (76, [.pointer (some ⟨1, 0, none⟩), .int .i64 ti, .int .i64 tg])), some (.inr (.inr (.inr (.pool m))))] => some ⟨PP m ∧ Gv.CutD O7 K K m (⟨ti, tg⟩ : Gv.Ref) (⟨k0, k1⟩ : El), .pointer (some ⟨2, 0, none⟩), none, [some (.inl (76, [.pointer (some ⟨1, 0, none⟩), .int .i64 (Gv.cutF O7 K K m (⟨ti, tg⟩ : Gv.Ref) (⟨k0, k1⟩ : El)).1.i, .int .i64 (Gv.cutF O7 K K m (⟨ti, tg⟩ : Gv.Ref) (⟨k0, k1⟩ : El)).1.g])), some (.inr (.inr (.inr (.pool (Gv.cutF O7 K K m (⟨ti, tg⟩ : Gv.Ref) (⟨k0, k1⟩ : El)).2.2)))), some (.inl (76, [.pointer (some ⟨1, 0, none⟩), .int .i64 (Gv.cutF O7 K K m (⟨ti, tg⟩ : Gv.Ref) (⟨k0, k1⟩ : El)).2.1.i, .int .i64 (Gv.cutF O7 K K m (⟨ti, tg⟩ : Gv.Ref) (⟨k0, k1⟩ : El)).2.1.g]))], [], [(0, 0)]⟩
  | _, _ => none
def TGSplit (K : Nat) : Tab Rs := [(51, liftC zN 2 (con1 (cutFP K K)))]
theorem gsplit_ok (K : Nat) : ConOk D Try.prog 31 (con1 (gsplitP K)) := by
  refine con1_ok (prim_at (fn := Try.f31) (root := codeOf Try.f31) (by kernel_rfl) (by kernel_rfl) (by kernel_rfl) fun args hh x hx => ?_)
  unfold gsplitP at hx
  split at hx
  · rename_i k0 k1 ti tg m
    injection hx with hx
    subst hx
    refine ⟨by first | exact Nat.le_refl _ | exact Nat.zero_le _ | exact Nat.le_succ _, noLit rfl, (fun hw => by first | rfl | cases hw), fun _ hv => ?_⟩
    obtain ⟨hp, hd⟩ := hv
    generalize hG : Rx.Ends (R := Rs) _ _ = G
    refine rx_ok (T := (TGSplit K)) (show TabOk D Try.prog (TGSplit K) from ⟨liftC_ok _ _ (cutF_ok K K), trivial⟩) mixed 200 ?_
    refine as_text (q := let zz3 := Value.int IntKind.i64; let zz1 := (Prod.fst (Gv.cutF O7 K K m (Gv.Ref.mk ti tg) (El.mk k0 k1))); let zz2 := (Prod.snd (Gv.cutF O7 K K m (Gv.Ref.mk ti tg) (El.mk k0 k1))); Vc (PP m ∧ Gv.CutD O7 K K m (Gv.Ref.mk ti tg) (El.mk k0 k1)) ∧ Post (G (Value.pointer (some (Addr.mk 5 0 none))) [some (Sum.inl (76, [Value.pointer (some (Addr.mk 1 0 none)), zz3 (Gv.Ref.i zz1), zz3 (Gv.Ref.g zz1)])), some (Sum.inr (Sum.inr (Sum.inr (Rs.pool (Prod.snd zz2))))), some (Sum.inl (28, [zz3 k0, zz3 k1])), some (Sum.inl (70, [zz3 (Gv.Ref.i zz1), zz3 (Gv.Ref.g zz1)])), some (Sum.inl (70, [zz3 (Gv.Ref.i (Prod.fst zz2)), zz3 (Gv.Ref.g (Prod.fst zz2))])), some (Sum.inl (76, [Value.pointer (some (Addr.mk 1 0 none)), zz3 (Gv.Ref.i (Prod.fst zz2)), zz3 (Gv.Ref.g (Prod.fst zz2))]))])) ?_ (by kernel_rfl)
    intro zz3 zz1 zz2; subst zz2 zz1 zz3
    subst hG
    repeat' (first | apply And.intro | apply Vc.mk | apply fits.mk | intro h | apply Post.mk)
    all_goals (try simp only [decide_eq_true_eq, decide_eq_false_iff_not, Nat.zero_add, ge_iff_le, Int.not_le, Int.not_lt, Int.toNat_natCast, beq_iff_eq, beq_eq_false_iff_ne, bne_iff_ne, bne_eq_false_iff_eq, Bool.not_eq_true', Bool.not_eq_false'] at *)
    all_goals first | contradiction | omega | (apply congrArg Value.bool; assumption) | exact congrArg Value.bool (decide_eq_true (by assumption)) | exact congrArg Value.bool (decide_eq_false (Int.not_lt.mpr (by assumption))) | exact ⟨rfl, by omega⟩ | exact rfl | (simp [*, -List.getD_eq_getElem?_getD]; done) | skip
    all_goals first | assumption | (simp only [Gv.see_ok, Gv.put1_ok, Gv.setN_ok, Gv.tie_ok, Gv.turnL_ok, Gv.turnR_ok, Gv.level_ok, Gv.replace_ok, Gv.hang_ok, Gv.link_ok, Gv.pickF_ok, Gv.glue_ok, Gv.pick_ok, Gv.cutF_ok, Gv.gather_ok, Gv.between_ok, Gv.first_ok, Gv.last_ok]; assumption) | skip
    exact ⟨[0, 1, 5], rfl, rfl, ⟨.inl rfl, rfl, .inl rfl, trivial⟩, rfl, rfl, rfl, rfl⟩
  · cases hx
end Go.Proofs.Ytclagkjjgmeifaa.G7


/- grove: a pool of nodes of keys and numbers: its calls: First, Last, with A. -/
namespace Go.Proofs.Ytclagkjjgmeifaa.G7
open Go.Proofs.Ytclagkjjgmeifaa.Rx
set_option linter.unusedVariables false
set_option linter.unusedSimpArgs false
set_option maxRecDepth 100000
set_option maxHeartbeats 16000000
def gfirstAP (K : Nat) : Prim Rs := fun args hh => match args, hh with
  | [.pointer (some ⟨0, 0, none⟩), .int .i64 f_, .func (.func 38) ⟨[]⟩ ⟨[]⟩], [some (.inl (76, [.pointer (some ⟨1, 0, none⟩), .int .i64 ti, .int .i64 tg])), some (.inr (.inr (.inr (.pool m))))] => some ⟨PP m ∧ Gv.DeepN O7 K (Gv.see m (⟨ti, tg⟩ : Gv.Ref)) (Gv.lk O7 m (⟨ti, tg⟩ : Gv.Ref)), .int .i64 (Gv.first O7 mayA K (Gv.see m (⟨ti, tg⟩ : Gv.Ref)) (Gv.lk O7 m (⟨ti, tg⟩ : Gv.Ref)) ⟨0, O7.a0⟩ f_).1, none, [some (.inl (76, [.pointer (some ⟨1, 0, none⟩), .int .i64 ti, .int .i64 tg])), some (.inr (.inr (.inr (.pool (Gv.first O7 mayA K (Gv.see m (⟨ti, tg⟩ : Gv.Ref)) (Gv.lk O7 m (⟨ti, tg⟩ : Gv.Ref)) ⟨0, O7.a0⟩ f_).2))))], [], [(0, 0)]⟩
  | _, _ => none
def TGfirstA (K : Nat) : Tab Rs := [(46, liftC zN 2 (con1 lookP)), (49, liftC zN 2 (con1 (firstAP K)))]
theorem gfirstA_ok (K : Nat) : ConOk D Try.prog 29 (con1 (gfirstAP K)) := by
  refine con1_ok (prim_at (fn := Try.f29) (root := codeOf Try.f29) (by kernel_rfl) (by kernel_rfl) (by kernel_rfl) fun args hh x hx => ?_)
  unfold gfirstAP at hx
  split at hx
  · rename_i f_ ti tg  m
    injection hx with hx
    subst hx
    refine ⟨by first | exact Nat.le_refl _ | exact Nat.zero_le _ | exact Nat.le_succ _, noLit rfl, (fun hw => by first | rfl | cases hw), fun _ hv => ?_⟩
    obtain ⟨hp, hd⟩ := hv
    generalize hG : Rx.Ends (R := Rs) _ _ = G
    refine rx_ok (T := (TGfirstA K)) (show TabOk D Try.prog (TGfirstA K) from ⟨liftC_ok _ _ look_ok, liftC_ok _ _ (firstA_ok K), trivial⟩) mixed 200 ?_
    refine as_text (q := let zz1 := (Gv.first O7 mayA K (Gv.see m (Gv.Ref.mk ti tg)) (Gv.lk O7 m (Gv.Ref.mk ti tg)) (Gv.Part.mk (0 : Int) (Ti.Td.mk (0 : Int) (0 : Int) (0 : Int))) f_); Vc (PP m) ∧ Vc (PP (Gv.see m (Gv.Ref.mk ti tg)) ∧ Gv.DeepN O7 K (Gv.see m (Gv.Ref.mk ti tg)) (Gv.lk O7 m (Gv.Ref.mk ti tg))) ∧ Post (G (Value.int IntKind.i64 (Prod.fst zz1)) [some (Sum.inl (76, [Value.pointer (some (Addr.mk 1 0 none)), Value.int IntKind.i64 ti, Value.int IntKind.i64 tg])), some (Sum.inr (Sum.inr (Sum.inr (Rs.pool (Prod.snd zz1)))))])) ?_ (by kernel_rfl)
    intro zz1; subst zz1
    subst hG
    repeat' (first | apply And.intro | apply Vc.mk | apply fits.mk | intro h | apply Post.mk)
    all_goals (try simp only [decide_eq_true_eq, decide_eq_false_iff_not, Nat.zero_add, ge_iff_le, Int.not_le, Int.not_lt, Int.toNat_natCast, beq_iff_eq, beq_eq_false_iff_ne, bne_iff_ne, bne_eq_false_iff_eq, Bool.not_eq_true', Bool.not_eq_false'] at *)
    all_goals first | contradiction | omega | (apply congrArg Value.bool; assumption) | exact congrArg Value.bool (decide_eq_true (by assumption)) | exact congrArg Value.bool (decide_eq_false (Int.not_lt.mpr (by assumption))) | exact ⟨rfl, by omega⟩ | exact rfl | (simp [*, -List.getD_eq_getElem?_getD]; done) | skip
    all_goals first | assumption | (simp only [Gv.see_ok, Gv.put1_ok, Gv.setN_ok, Gv.tie_ok, Gv.turnL_ok, Gv.turnR_ok, Gv.level_ok, Gv.replace_ok, Gv.hang_ok, Gv.link_ok, Gv.pickF_ok, Gv.glue_ok, Gv.pick_ok, Gv.cutF_ok, Gv.gather_ok, Gv.between_ok, Gv.first_ok, Gv.last_ok]; assumption) | skip
    exact ⟨[0, 1], rfl, rfl, ⟨.inl rfl, rfl, trivial⟩, rfl, rfl, rfl, rfl⟩
  · cases hx
end Go.Proofs.Ytclagkjjgmeifaa.G7


/- grove: a pool of nodes of keys and numbers: its calls, loops. -/
namespace Go.Proofs.Ytclagkjjgmeifaa.G7
open Go.Proofs.Ytclagkjjgmeifaa.Rx
set_option linter.unusedVariables false
set_option linter.unusedSimpArgs false
set_option maxRecDepth 100000
set_option maxHeartbeats 16000000
def grankP (K : Nat) : Prim Rs := fun args hh => match args, hh with
  | [.pointer (some ⟨0, 0, none⟩), .agg ⟨[.int .i64 k0, .int .i64 k1]⟩], [some (.inl (76, [.pointer (some ⟨1, 0, none⟩), .int .i64 ti, .int .i64 tg])), some (.inr (.inr (.inr (.pool m))))] => some ⟨PP m ∧ Gv.RankE O7 K (Gv.see m (⟨ti, tg⟩ : Gv.Ref)) (Gv.lk O7 m (⟨ti, tg⟩ : Gv.Ref)) (⟨k0, k1⟩ : El) 0, .int .i64 (Gv.rank O7 K (Gv.see m (⟨ti, tg⟩ : Gv.Ref)) (Gv.lk O7 m (⟨ti, tg⟩ : Gv.Ref)) (⟨k0, k1⟩ : El) 0).1, none, [some (.inl (76, [.pointer (some ⟨1, 0, none⟩), .int .i64 ti, .int .i64 tg])), some (.inr (.inr (.inr (.pool (Gv.rank O7 K (Gv.see m (⟨ti, tg⟩ : Gv.Ref)) (Gv.lk O7 m (⟨ti, tg⟩ : Gv.Ref)) (⟨k0, k1⟩ : El) 0).2))))], [], [(0, 0)]⟩
  | _, _ => none
def TGRank (K : Nat) : Tab Rs := [(1000000000, wrapCon), (46, liftC zN 2 (con1 lookP)), (82, liftC zN 2 (con1 cmpP))]
theorem grank_ok (K : Nat) : ConOk D Try.prog 18 (con1 (grankP K)) := by
  refine con1_ok (prim_at (fn := Try.f18) (root := codeOf Try.f18) (by kernel_rfl) (by kernel_rfl) (by kernel_rfl) fun args hh x hx => ?_)
  unfold grankP at hx
  split at hx
  · rename_i k0 k1 ti tg m
    injection hx with hx
    subst hx
    refine ⟨by first | exact Nat.le_refl _ | exact Nat.zero_le _ | exact Nat.le_succ _, noLit rfl, (fun hw => by first | rfl | cases hw), fun _ hv => ?_⟩
    obtain ⟨hp, hd⟩ := hv
    generalize hG : Rx.Ends (R := Rs) _ _ = G
    refine rx_ok (T := (TGRank K)) (show TabOk D Try.prog (TGRank K) from ⟨wrapCon_ok, liftC_ok _ _ look_ok, liftC_ok _ _ cmp_ok, trivial⟩) mixed 200 ?_
    refine as_text (q := let zz3 := Value.int IntKind.i64; let zz1 := (Value.pointer (some (Addr.mk 0 0 none))); let zz2 := (Gv.lk O7 m (Gv.Ref.mk ti tg)); Vc (PP m) ∧ At D Try.prog (codeOf Try.f18) 2 (retK Try.prog (Array.toList (Func.results Try.f18)) G) [Sum.inl [1, 1, 1, 0, 0], Sum.inr (Sum.inl 0), Sum.inl [1, 1, 1, 1]] (SS.mk [some zz1, some (Value.agg (Array.mk [zz3 k0, zz3 k1])), none, some (Value.pointer (some (Addr.mk 2 0 none))), some (zz3 0), some (zz3 0), some (Value.pointer (some (Addr.mk 3 0 none))), none, some zz1, some zz1, some zz1, some (Value.pointer (some (Addr.mk 0 1 none))), some (Value.agg (Array.mk [zz3 ti, zz3 tg])), some (Value.agg (Array.mk [zz3 (El.k (Gv.Node.e zz2)), zz3 (El.w (Gv.Node.e zz2)), zz3 (Gv.Ref.i (Gv.Node.l zz2)), zz3 (Gv.Ref.g (Gv.Node.l zz2)), zz3 (Gv.Ref.i (Gv.Node.r zz2)), zz3 (Gv.Ref.g (Gv.Node.r zz2)), zz3 (Gv.Part.n (Gv.Node.all zz2)), zz3 (Ti.Td.n (Gv.Part.sum (Gv.Node.all zz2))), zz3 (Ti.Td.s (Gv.Part.sum (Gv.Node.all zz2))), zz3 (Ti.Td.l (Gv.Part.sum (Gv.Node.all zz2))), zz3 (Gv.Node.h zz2)])), none, none, none, none, none, none, none, none, none, none, none, none, none, none, none, none, none, none, none, none, none, none, none, none, none, none, none, none] [] [some (Sum.inl (76, [Value.pointer (some (Addr.mk 1 0 none)), zz3 ti, zz3 tg])), some (Sum.inr (Sum.inr (Sum.inr (Rs.pool (Gv.see m (Gv.Ref.mk ti tg)))))), some (Sum.inl (28, [zz3 k0, zz3 k1])), some (Sum.inl (74, [zz3 (El.k (Gv.Node.e zz2)), zz3 (El.w (Gv.Node.e zz2)), zz3 (Gv.Ref.i (Gv.Node.l zz2)), zz3 (Gv.Ref.g (Gv.Node.l zz2)), zz3 (Gv.Ref.i (Gv.Node.r zz2)), zz3 (Gv.Ref.g (Gv.Node.r zz2)), zz3 (Gv.Part.n (Gv.Node.all zz2)), zz3 (Ti.Td.n (Gv.Part.sum (Gv.Node.all zz2))), zz3 (Ti.Td.s (Gv.Part.sum (Gv.Node.all zz2))), zz3 (Ti.Td.l (Gv.Part.sum (Gv.Node.all zz2))), zz3 (Gv.Node.h zz2)]))])) ?_ (by kernel_rfl)
    intro zz3 zz1 zz2; subst zz2 zz1 zz3
    refine ⟨⟨hp⟩, ?_⟩
    refine loop_atM (by kernel_rfl) (ι := Nat × Nd × Pl × Int) (fun s => PP s.2.2.1 ∧ Gv.RankE O7 s.1 s.2.2.1 s.2.1 (⟨k0, k1⟩ : El) s.2.2.2 ∧ Gv.rank O7 s.1 s.2.2.1 s.2.1 (⟨k0, k1⟩ : El) s.2.2.2 = Gv.rank O7 K (Gv.see m (⟨ti, tg⟩ : Gv.Ref)) (Gv.lk O7 m (⟨ti, tg⟩ : Gv.Ref)) (⟨k0, k1⟩ : El) 0) [0, 3, 5, 6] (fun s => [.pointer (some ⟨0, 0, none⟩), .pointer (some ⟨2, 0, none⟩), .int .i64 s.2.2.2, .pointer (some ⟨3, 0, none⟩)]) (fun s => [some (.inl (76, [.pointer (some ⟨1, 0, none⟩), .int .i64 ti, .int .i64 tg])), some (.inr (.inr (.inr (.pool s.2.2.1)))), some (.inl (28, [.int .i64 k0, .int .i64 k1])), some (.inl (74, [.int .i64 s.2.1.e.k, .int .i64 s.2.1.e.w, .int .i64 s.2.1.l.i, .int .i64 s.2.1.l.g, .int .i64 s.2.1.r.i, .int .i64 s.2.1.r.g, .int .i64 s.2.1.all.n, .int .i64 s.2.1.all.sum.n, .int .i64 s.2.1.all.sum.s, .int .i64 s.2.1.all.sum.l, .int .i64 s.2.1.h]))]) (fun s => s.1) (Try.f18).ntmps (fun s hs => ⟨rfl, rfl, Nat.le_add_left _ _⟩) ⟨(K, Gv.lk O7 m (⟨ti, tg⟩ : Gv.Ref), Gv.see m (⟨ti, tg⟩ : Gv.Ref), 0), ⟨Gv.see_ok.2 hp, hd, rfl⟩, ⟨[0, 1, 2, 3], rfl, ⟨.inl rfl, rfl, .inl rfl, .inl rfl, trivial⟩, rfl, rfl, rfl, rfl⟩⟩ fun s hs => ?_
    obtain ⟨k, n, m2, c⟩ := s
    obtain ⟨s1, s2, s3⟩ := hs
    simp only at s1 s2 s3
    rcases k with _ | k
    · exact s2.elim
    refine rx_ok (T := TGRank K) (show TabOk D Try.prog (TGRank K) from ⟨wrapCon_ok, liftC_ok _ _ look_ok, liftC_ok _ _ cmp_ok, trivial⟩) mixed 200 ?_
    refine as_text (q := let zz5 := Value.pointer (some (Addr.mk 1 0 none)); let zz6 := Value.pointer (some (Addr.mk 0 0 none)); let zz7 := Value.pointer (some (Addr.mk 3 0 none)); let zz8 := Value.pointer (some (Addr.mk 2 0 none)); let zz9 := Value.int IntKind.i64; let zz1 := (Prod.fst (n, m2, c)); let zz2 := (Prod.fst (Prod.snd (n, m2, c))); let zz3 := (Gv.lk O7 zz2 (Gv.Node.l zz1)); let zz4 := (Gv.lk O7 zz2 (Gv.Node.r zz1)); (decide (Gv.Node.h zz1 > (0 : Int)) = true → Vc True ∧ Vc True ∧ (decide (Gv.Ops.cmp O7 (El.mk k0 k1) (Gv.Node.e zz1) ≤ (0 : Int)) = true → Vc (PP zz2) ∧ Post (∃ j, (PP (Prod.fst (Prod.snd (Prod.snd j))) ∧ Gv.RankE O7 (Prod.fst j) (Prod.fst (Prod.snd (Prod.snd j))) (Prod.fst (Prod.snd j)) (El.mk k0 k1) (Prod.snd (Prod.snd (Prod.snd j))) ∧ Gv.rank O7 (Prod.fst j) (Prod.fst (Prod.snd (Prod.snd j))) (Prod.fst (Prod.snd j)) (El.mk k0 k1) (Prod.snd (Prod.snd (Prod.snd j))) = Gv.rank O7 K (Gv.see m (Gv.Ref.mk ti tg)) (Gv.lk O7 m (Gv.Ref.mk ti tg)) (El.mk k0 k1) (0 : Int)) ∧ Prod.fst j < k + 1 ∧ FitsM Rs 2 (Func.ntmps Try.f18) [0, 3, 5, 6] [zz6, zz8, zz9 (Prod.snd (Prod.snd (Prod.snd j))), zz7] [some (Sum.inl ((76 : TypeId), [zz5, zz9 ti, zz9 tg])), some (Sum.inr (Sum.inr (Sum.inr (Rs.pool (Prod.fst (Prod.snd (Prod.snd j))))))), some (Sum.inl ((28 : TypeId), [zz9 k0, zz9 k1])), some (Sum.inl ((74 : TypeId), [zz9 (El.k (Gv.Node.e (Prod.fst (Prod.snd j)))), zz9 (El.w (Gv.Node.e (Prod.fst (Prod.snd j)))), zz9 (Gv.Ref.i (Gv.Node.l (Prod.fst (Prod.snd j)))), zz9 (Gv.Ref.g (Gv.Node.l (Prod.fst (Prod.snd j)))), zz9 (Gv.Ref.i (Gv.Node.r (Prod.fst (Prod.snd j)))), zz9 (Gv.Ref.g (Gv.Node.r (Prod.fst (Prod.snd j)))), zz9 (Gv.Part.n (Gv.Node.all (Prod.fst (Prod.snd j)))), zz9 (Ti.Td.n (Gv.Part.sum (Gv.Node.all (Prod.fst (Prod.snd j))))), zz9 (Ti.Td.s (Gv.Part.sum (Gv.Node.all (Prod.fst (Prod.snd j))))), zz9 (Ti.Td.l (Gv.Part.sum (Gv.Node.all (Prod.fst (Prod.snd j))))), zz9 (Gv.Node.h (Prod.fst (Prod.snd j)))]))] [some (zz6), some (zz8), some (zz9 (Prod.snd (Prod.snd (n, m2, c)))), some (zz7)] [some (Sum.inl (76, [zz5, zz9 ti, zz9 tg])), some (Sum.inr (Sum.inr (Sum.inr (Rs.pool (Gv.see zz2 (Gv.Node.l zz1)))))), some (Sum.inl (28, [zz9 k0, zz9 k1])), some (Sum.inl (74, [zz9 (El.k (Gv.Node.e zz3)), zz9 (El.w (Gv.Node.e zz3)), zz9 (Gv.Ref.i (Gv.Node.l zz3)), zz9 (Gv.Ref.g (Gv.Node.l zz3)), zz9 (Gv.Ref.i (Gv.Node.r zz3)), zz9 (Gv.Ref.g (Gv.Node.r zz3)), zz9 (Gv.Part.n (Gv.Node.all zz3)), zz9 (Ti.Td.n (Gv.Part.sum (Gv.Node.all zz3))), zz9 (Ti.Td.s (Gv.Part.sum (Gv.Node.all zz3))), zz9 (Ti.Td.l (Gv.Part.sum (Gv.Node.all zz3))), zz9 (Gv.Node.h zz3)]))] 42)) ∧ (decide (Gv.Ops.cmp O7 (El.mk k0 k1) (Gv.Node.e zz1) ≤ (0 : Int)) = false → Vc (PP zz2) ∧ Vc True ∧ Vc True ∧ Post (∃ j, (PP (Prod.fst (Prod.snd (Prod.snd j))) ∧ Gv.RankE O7 (Prod.fst j) (Prod.fst (Prod.snd (Prod.snd j))) (Prod.fst (Prod.snd j)) (El.mk k0 k1) (Prod.snd (Prod.snd (Prod.snd j))) ∧ Gv.rank O7 (Prod.fst j) (Prod.fst (Prod.snd (Prod.snd j))) (Prod.fst (Prod.snd j)) (El.mk k0 k1) (Prod.snd (Prod.snd (Prod.snd j))) = Gv.rank O7 K (Gv.see m (Gv.Ref.mk ti tg)) (Gv.lk O7 m (Gv.Ref.mk ti tg)) (El.mk k0 k1) (0 : Int)) ∧ Prod.fst j < k + 1 ∧ FitsM Rs 2 (Func.ntmps Try.f18) [0, 3, 5, 6] [zz6, zz8, zz9 (Prod.snd (Prod.snd (Prod.snd j))), zz7] [some (Sum.inl ((76 : TypeId), [zz5, zz9 ti, zz9 tg])), some (Sum.inr (Sum.inr (Sum.inr (Rs.pool (Prod.fst (Prod.snd (Prod.snd j))))))), some (Sum.inl ((28 : TypeId), [zz9 k0, zz9 k1])), some (Sum.inl ((74 : TypeId), [zz9 (El.k (Gv.Node.e (Prod.fst (Prod.snd j)))), zz9 (El.w (Gv.Node.e (Prod.fst (Prod.snd j)))), zz9 (Gv.Ref.i (Gv.Node.l (Prod.fst (Prod.snd j)))), zz9 (Gv.Ref.g (Gv.Node.l (Prod.fst (Prod.snd j)))), zz9 (Gv.Ref.i (Gv.Node.r (Prod.fst (Prod.snd j)))), zz9 (Gv.Ref.g (Gv.Node.r (Prod.fst (Prod.snd j)))), zz9 (Gv.Part.n (Gv.Node.all (Prod.fst (Prod.snd j)))), zz9 (Ti.Td.n (Gv.Part.sum (Gv.Node.all (Prod.fst (Prod.snd j))))), zz9 (Ti.Td.s (Gv.Part.sum (Gv.Node.all (Prod.fst (Prod.snd j))))), zz9 (Ti.Td.l (Gv.Part.sum (Gv.Node.all (Prod.fst (Prod.snd j))))), zz9 (Gv.Node.h (Prod.fst (Prod.snd j)))]))] [some (zz6), some (zz8), some (zz9 (IntKind.wrap IntKind.i64 (Prod.snd (Prod.snd (n, m2, c)) + IntKind.wrap IntKind.i64 (Gv.Part.n (Gv.Node.all zz1) - Gv.Part.n (Gv.Node.all zz4))))), some (zz7)] [some (Sum.inl (76, [zz5, zz9 ti, zz9 tg])), some (Sum.inr (Sum.inr (Sum.inr (Rs.pool (Gv.see zz2 (Gv.Node.r zz1)))))), some (Sum.inl (28, [zz9 k0, zz9 k1])), some (Sum.inl (74, [zz9 (El.k (Gv.Node.e zz4)), zz9 (El.w (Gv.Node.e zz4)), zz9 (Gv.Ref.i (Gv.Node.l zz4)), zz9 (Gv.Ref.g (Gv.Node.l zz4)), zz9 (Gv.Ref.i (Gv.Node.r zz4)), zz9 (Gv.Ref.g (Gv.Node.r zz4)), zz9 (Gv.Part.n (Gv.Node.all zz4)), zz9 (Ti.Td.n (Gv.Part.sum (Gv.Node.all zz4))), zz9 (Ti.Td.s (Gv.Part.sum (Gv.Node.all zz4))), zz9 (Ti.Td.l (Gv.Part.sum (Gv.Node.all zz4))), zz9 (Gv.Node.h zz4)])), some (Sum.inl (74, [zz9 (El.k (Gv.Node.e zz4)), zz9 (El.w (Gv.Node.e zz4)), zz9 (Gv.Ref.i (Gv.Node.l zz4)), zz9 (Gv.Ref.g (Gv.Node.l zz4)), zz9 (Gv.Ref.i (Gv.Node.r zz4)), zz9 (Gv.Ref.g (Gv.Node.r zz4)), zz9 (Gv.Part.n (Gv.Node.all zz4)), zz9 (Ti.Td.n (Gv.Part.sum (Gv.Node.all zz4))), zz9 (Ti.Td.s (Gv.Part.sum (Gv.Node.all zz4))), zz9 (Ti.Td.l (Gv.Part.sum (Gv.Node.all zz4))), zz9 (Gv.Node.h zz4)]))] 42))) ∧ (decide (Gv.Node.h zz1 > (0 : Int)) = false → Post (G (zz9 (Prod.snd (Prod.snd (n, m2, c)))) [some (Sum.inl (76, [zz5, zz9 ti, zz9 tg])), some (Sum.inr (Sum.inr (Sum.inr (Rs.pool zz2)))), some (Sum.inl (28, [zz9 k0, zz9 k1])), some (Sum.inl (74, [zz9 (El.k (Gv.Node.e zz1)), zz9 (El.w (Gv.Node.e zz1)), zz9 (Gv.Ref.i (Gv.Node.l zz1)), zz9 (Gv.Ref.g (Gv.Node.l zz1)), zz9 (Gv.Ref.i (Gv.Node.r zz1)), zz9 (Gv.Ref.g (Gv.Node.r zz1)), zz9 (Gv.Part.n (Gv.Node.all zz1)), zz9 (Ti.Td.n (Gv.Part.sum (Gv.Node.all zz1))), zz9 (Ti.Td.s (Gv.Part.sum (Gv.Node.all zz1))), zz9 (Ti.Td.l (Gv.Part.sum (Gv.Node.all zz1))), zz9 (Gv.Node.h zz1)]))]))) ?_ (by kernel_rfl)
    intro zz5 zz6 zz7 zz8 zz9 zz1 zz2 zz3 zz4; subst zz4 zz3 zz2 zz1 zz9 zz8 zz7 zz6 zz5
    rw [Gv.RankE] at s2
    rw [Gv.rank] at s3
    subst hG
    repeat' (first | apply And.intro | apply Vc.mk | apply fits.mk | intro h | apply Post.mk)
    all_goals (try simp only [decide_eq_true_eq, decide_eq_false_iff_not, Nat.zero_add, ge_iff_le, Int.not_le, Int.not_lt, Int.toNat_natCast, beq_iff_eq, beq_eq_false_iff_ne, bne_iff_ne, bne_eq_false_iff_eq, Bool.not_eq_true', Bool.not_eq_false'] at *)
    all_goals first | contradiction | omega | (apply congrArg Value.bool; assumption) | exact congrArg Value.bool (decide_eq_true (by assumption)) | exact congrArg Value.bool (decide_eq_false (Int.not_lt.mpr (by assumption))) | exact ⟨rfl, by omega⟩ | exact rfl | (simp [*, -List.getD_eq_getElem?_getD]; done) | skip
    all_goals first | assumption | skip
    · have h1 : n.h > 0 := by assumption
      have h2 : O7.cmp (⟨k0, k1⟩ : El) n.e ≤ 0 := by assumption
      rw [if_pos h1, if_pos h2] at s3
      exact ⟨(k, Gv.lk O7 m2 n.l, Gv.see m2 n.l, c), ⟨Gv.see_ok.2 s1, (s2 h1).1 (by omega), s3⟩, Nat.lt_succ_self _, ⟨[0, 1, 2, 3], rfl, ⟨.inl rfl, rfl, .inl rfl, .inl rfl, trivial⟩, rfl, rfl, rfl, rfl⟩⟩
    · have h1 : n.h > 0 := by assumption
      have h2 : ¬ O7.cmp (⟨k0, k1⟩ : El) n.e ≤ 0 := by omega
      rw [if_pos h1, if_neg h2] at s3
      exact ⟨(k, Gv.lk O7 m2 n.r, Gv.see m2 n.r, Gv.W (c + Gv.W (n.all.n - (Gv.lk O7 m2 n.r).all.n))), ⟨Gv.see_ok.2 s1, (s2 h1).2 (by omega), s3⟩, Nat.lt_succ_self _, ⟨[0, 1, 2, 3], rfl, ⟨.inl rfl, rfl, .inl rfl, .inl rfl, trivial⟩, rfl, rfl, rfl, rfl⟩⟩
    · have h1 : ¬ n.h > 0 := by omega
      rw [if_neg h1] at s3
      rw [← s3]
      exact ⟨[0, 1], rfl, rfl, ⟨.inl rfl, rfl, trivial⟩, rfl, rfl, rfl, rfl⟩
  · cases hx
def gatP (K : Nat) : Prim Rs := fun args hh => match args, hh with
  | [.pointer (some ⟨0, 0, none⟩), .int .i64 i_], [some (.inl (76, [.pointer (some ⟨1, 0, none⟩), .int .i64 ti, .int .i64 tg])), some (.inr (.inr (.inr (.pool m))))] => some ⟨PP m ∧ Gv.AtD O7 K m (⟨ti, tg⟩ : Gv.Ref) i_, .tuple #[.agg ⟨[.int .i64 (Gv.atF O7 K m (⟨ti, tg⟩ : Gv.Ref) i_).1.1.k, .int .i64 (Gv.atF O7 K m (⟨ti, tg⟩ : Gv.Ref) i_).1.1.w]⟩, .bool (Gv.atF O7 K m (⟨ti, tg⟩ : Gv.Ref) i_).1.2], none, [some (.inl (76, [.pointer (some ⟨1, 0, none⟩), .int .i64 ti, .int .i64 tg])), some (.inr (.inr (.inr (.pool (Gv.atF O7 K m (⟨ti, tg⟩ : Gv.Ref) i_).2))))], [], [(0, 0)]⟩
  | _, _ => none
def TGAt (K : Nat) : Tab Rs := [(1000000000, wrapCon), (46, liftC zN 2 (con1 lookP))]
theorem gat_ok (K : Nat) : ConOk D Try.prog 20 (con1 (gatP K)) := by
  refine con1_ok (prim_at (fn := Try.f20) (root := codeOf Try.f20) (by kernel_rfl) (by kernel_rfl) (by kernel_rfl) fun args hh x hx => ?_)
  unfold gatP at hx
  split at hx
  · rename_i i_ ti tg m
    injection hx with hx
    subst hx
    refine ⟨by first | exact Nat.le_refl _ | exact Nat.zero_le _ | exact Nat.le_succ _, noLit rfl, (fun hw => by first | rfl | cases hw), fun _ hv => ?_⟩
    obtain ⟨hp, hd⟩ := hv
    generalize hG : Rx.Ends (R := Rs) _ _ = G
    refine rx_ok (T := (TGAt K)) (show TabOk D Try.prog (TGAt K) from ⟨wrapCon_ok, liftC_ok _ _ look_ok, trivial⟩) mixed 200 ?_
    refine as_text (q := let zz4 := Value.pointer (some (Addr.mk 1 0 none)); let zz5 := Value.int IntKind.i64; let zz1 := (Gv.lk O7 m (Gv.Ref.mk ti tg)); let zz2 := (i_ ≥ Gv.Part.n (Gv.Node.all zz1)); let zz3 := (Value.pointer (some (Addr.mk 0 0 none))); Vc (PP m) ∧ (decide (i_ < (0 : Int)) = false → (decide zz2 = true → Post (G (Value.tuple (Array.mk [Value.agg (Array.mk [zz5 0, zz5 0]), Value.bool false])) [some (Sum.inl (76, [zz4, zz5 ti, zz5 tg])), some (Sum.inr (Sum.inr (Sum.inr (Rs.pool (Gv.see m (Gv.Ref.mk ti tg)))))), some (Sum.inl (28, [zz5 0, zz5 0])), some (Sum.inl (28, [zz5 0, zz5 0])), some (Sum.inl (74, [zz5 (El.k (Gv.Node.e zz1)), zz5 (El.w (Gv.Node.e zz1)), zz5 (Gv.Ref.i (Gv.Node.l zz1)), zz5 (Gv.Ref.g (Gv.Node.l zz1)), zz5 (Gv.Ref.i (Gv.Node.r zz1)), zz5 (Gv.Ref.g (Gv.Node.r zz1)), zz5 (Gv.Part.n (Gv.Node.all zz1)), zz5 (Ti.Td.n (Gv.Part.sum (Gv.Node.all zz1))), zz5 (Ti.Td.s (Gv.Part.sum (Gv.Node.all zz1))), zz5 (Ti.Td.l (Gv.Part.sum (Gv.Node.all zz1))), zz5 (Gv.Node.h zz1)]))])) ∧ (decide zz2 = false → At D Try.prog (codeOf Try.f20) 2 (retK Try.prog (Array.toList (Func.results Try.f20)) G) [Sum.inl [1, 1, 1, 1, 0], Sum.inr (Sum.inl 0)] (SS.mk [some zz3, some (zz5 i_), none, none, some (Value.pointer (some (Addr.mk 2 0 none))), some (Value.bool false), some (Value.pointer (some (Addr.mk 3 0 none))), some (Value.pointer (some (Addr.mk 4 0 none))), none, some zz3, some zz3, some zz3, some (Value.pointer (some (Addr.mk 0 1 none))), some (Value.agg (Array.mk [zz5 ti, zz5 tg])), some (Value.agg (Array.mk [zz5 (El.k (Gv.Node.e zz1)), zz5 (El.w (Gv.Node.e zz1)), zz5 (Gv.Ref.i (Gv.Node.l zz1)), zz5 (Gv.Ref.g (Gv.Node.l zz1)), zz5 (Gv.Ref.i (Gv.Node.r zz1)), zz5 (Gv.Ref.g (Gv.Node.r zz1)), zz5 (Gv.Part.n (Gv.Node.all zz1)), zz5 (Ti.Td.n (Gv.Part.sum (Gv.Node.all zz1))), zz5 (Ti.Td.s (Gv.Part.sum (Gv.Node.all zz1))), zz5 (Ti.Td.l (Gv.Part.sum (Gv.Node.all zz1))), zz5 (Gv.Node.h zz1)])), some (zz5 i_), some (Value.bool (decide (i_ < (0 : Int)))), some (Value.bool false), some (zz5 i_), some (Value.pointer (some (Addr.mk 4 6 none))), some (Value.pointer (some (Addr.mk 4 6 none))), some (zz5 (Gv.Part.n (Gv.Node.all zz1))), some (Value.bool (decide zz2)), some (Value.bool false), none, none, none, none, none, none, none, none, none, none, none, none, none, none, none, none, none, none, none, none, none, none, none, none, none, none, none, none] [(23, false), (17, false), (5, false)] [some (Sum.inl (76, [zz4, zz5 ti, zz5 tg])), some (Sum.inr (Sum.inr (Sum.inr (Rs.pool (Gv.see m (Gv.Ref.mk ti tg)))))), some (Sum.inl (28, [zz5 0, zz5 0])), some (Sum.inl (28, [zz5 0, zz5 0])), some (Sum.inl (74, [zz5 (El.k (Gv.Node.e zz1)), zz5 (El.w (Gv.Node.e zz1)), zz5 (Gv.Ref.i (Gv.Node.l zz1)), zz5 (Gv.Ref.g (Gv.Node.l zz1)), zz5 (Gv.Ref.i (Gv.Node.r zz1)), zz5 (Gv.Ref.g (Gv.Node.r zz1)), zz5 (Gv.Part.n (Gv.Node.all zz1)), zz5 (Ti.Td.n (Gv.Part.sum (Gv.Node.all zz1))), zz5 (Ti.Td.s (Gv.Part.sum (Gv.Node.all zz1))), zz5 (Ti.Td.l (Gv.Part.sum (Gv.Node.all zz1))), zz5 (Gv.Node.h zz1)]))]))) ∧ (decide (i_ < (0 : Int)) = true → Post (G (Value.tuple (Array.mk [Value.agg (Array.mk [zz5 0, zz5 0]), Value.bool false])) [some (Sum.inl (76, [zz4, zz5 ti, zz5 tg])), some (Sum.inr (Sum.inr (Sum.inr (Rs.pool (Gv.see m (Gv.Ref.mk ti tg)))))), some (Sum.inl (28, [zz5 0, zz5 0])), some (Sum.inl (28, [zz5 0, zz5 0])), some (Sum.inl (74, [zz5 (El.k (Gv.Node.e zz1)), zz5 (El.w (Gv.Node.e zz1)), zz5 (Gv.Ref.i (Gv.Node.l zz1)), zz5 (Gv.Ref.g (Gv.Node.l zz1)), zz5 (Gv.Ref.i (Gv.Node.r zz1)), zz5 (Gv.Ref.g (Gv.Node.r zz1)), zz5 (Gv.Part.n (Gv.Node.all zz1)), zz5 (Ti.Td.n (Gv.Part.sum (Gv.Node.all zz1))), zz5 (Ti.Td.s (Gv.Part.sum (Gv.Node.all zz1))), zz5 (Ti.Td.l (Gv.Part.sum (Gv.Node.all zz1))), zz5 (Gv.Node.h zz1)]))]))) ?_ (by kernel_rfl)
    intro zz4 zz5 zz1 zz2 zz3; subst zz3 zz2 zz1 zz5 zz4
    have n1 : i_ < 0 ∨ i_ ≥ (Gv.lk O7 m (⟨ti, tg⟩ : Gv.Ref)).all.n → G (.tuple #[.agg ⟨[.int .i64 0, .int .i64 0]⟩, .bool false]) = G (.tuple #[.agg ⟨[.int .i64 0, .int .i64 0]⟩, .bool false]) := fun _ => rfl
    have en : ∀ rest, i_ < 0 ∨ i_ ≥ (Gv.lk O7 m (⟨ti, tg⟩ : Gv.Ref)).all.n → G (.tuple #[.agg ⟨[.int .i64 0, .int .i64 0]⟩, .bool false]) ([some (.inl (76, [.pointer (some ⟨1, 0, none⟩), .int .i64 ti, .int .i64 tg])), some (.inr (.inr (.inr (.pool (Gv.see m (⟨ti, tg⟩ : Gv.Ref))))))] ++ rest) := by
      intro rest h
      have e : Gv.atF O7 K m (⟨ti, tg⟩ : Gv.Ref) i_ = ((O7.e0, false), Gv.see m (⟨ti, tg⟩ : Gv.Ref)) := by rw [Gv.atF, if_pos h]
      subst hG
      rw [e]
      exact ⟨[0, 1], rfl, rfl, ⟨.inl rfl, rfl, trivial⟩, rfl, rfl, rfl, rfl⟩
    refine ⟨⟨hp⟩, fun h => ⟨fun h2 => ⟨en _ (.inr (by simpa using h2))⟩, fun h2 => ?_⟩, fun h => ⟨en _ (.inl (by simpa using h))⟩⟩
    have h3 : ¬ i_ < 0 := by simpa using h
    have h4 : ¬ i_ ≥ (Gv.lk O7 m (⟨ti, tg⟩ : Gv.Ref)).all.n := by simpa using h2
    have ee : Gv.atF O7 K m (⟨ti, tg⟩ : Gv.Ref) i_ = (((Gv.nthF O7 K (Gv.see m (⟨ti, tg⟩ : Gv.Ref)) (Gv.lk O7 m (⟨ti, tg⟩ : Gv.Ref)) i_).1, true), (Gv.nthF O7 K (Gv.see m (⟨ti, tg⟩ : Gv.Ref)) (Gv.lk O7 m (⟨ti, tg⟩ : Gv.Ref)) i_).2) := by rw [Gv.atF, if_neg (by omega)]
    have hd2 := hd h3 h4
    refine loop_atM (by kernel_rfl) (ι := Nat × Nd × Pl × Int) (fun s => PP s.2.2.1 ∧ Gv.NthE O7 s.1 s.2.2.1 s.2.1 s.2.2.2 ∧ Gv.nthF O7 s.1 s.2.2.1 s.2.1 s.2.2.2 = Gv.nthF O7 K (Gv.see m (⟨ti, tg⟩ : Gv.Ref)) (Gv.lk O7 m (⟨ti, tg⟩ : Gv.Ref)) i_) [0, 1, 4, 7] (fun s => [.pointer (some ⟨0, 0, none⟩), .int .i64 s.2.2.2, .pointer (some ⟨2, 0, none⟩), .pointer (some ⟨3, 0, none⟩)]) (fun s => [some (.inl (76, [.pointer (some ⟨1, 0, none⟩), .int .i64 ti, .int .i64 tg])), some (.inr (.inr (.inr (.pool s.2.2.1)))), some (.inl (28, [.int .i64 0, .int .i64 0])), some (.inl (74, [.int .i64 s.2.1.e.k, .int .i64 s.2.1.e.w, .int .i64 s.2.1.l.i, .int .i64 s.2.1.l.g, .int .i64 s.2.1.r.i, .int .i64 s.2.1.r.g, .int .i64 s.2.1.all.n, .int .i64 s.2.1.all.sum.n, .int .i64 s.2.1.all.sum.s, .int .i64 s.2.1.all.sum.l, .int .i64 s.2.1.h]))]) (fun s => s.1) (Try.f20).ntmps (fun s hs => ⟨rfl, rfl, Nat.le_add_left _ _⟩) ⟨(K, Gv.lk O7 m (⟨ti, tg⟩ : Gv.Ref), Gv.see m (⟨ti, tg⟩ : Gv.Ref), i_), ⟨Gv.see_ok.2 hp, hd2, rfl⟩, ⟨[0, 1, 2, 4], rfl, ⟨.inl rfl, rfl, .inl rfl, .inl rfl, trivial⟩, rfl, rfl, rfl, rfl⟩⟩ fun s hs => ?_
    obtain ⟨k, n, m2, c⟩ := s
    obtain ⟨s1, s2, s3⟩ := hs
    simp only at s1 s2 s3
    rcases k with _ | k
    · exact s2.elim
    refine rx_ok (T := TGAt K) (show TabOk D Try.prog (TGAt K) from ⟨wrapCon_ok, liftC_ok _ _ look_ok, trivial⟩) mixed 200 ?_
    refine as_text (q := let zz6 := Value.pointer (some (Addr.mk 1 0 none)); let zz7 := Value.pointer (some (Addr.mk 0 0 none)); let zz8 := Value.pointer (some (Addr.mk 3 0 none)); let zz9 := Value.pointer (some (Addr.mk 2 0 none)); let zz10 := Value.int IntKind.i64; let zz1 := (Prod.snd (n, m2, c)); let zz2 := (Prod.fst (n, m2, c)); let zz3 := (Gv.lk O7 (Prod.fst zz1) (Gv.Node.l zz2)); let zz4 := (Gv.see (Prod.fst zz1) (Gv.Node.l zz2)); let zz5 := (Gv.lk O7 zz4 (Gv.Node.r zz2)); Vc (PP (Prod.fst zz1)) ∧ ((Prod.snd zz1 == Gv.Part.n (Gv.Node.all zz3)) = true → Post (G (Value.tuple (Array.mk [Value.agg (Array.mk [zz10 (El.k (Gv.Node.e zz2)), zz10 (El.w (Gv.Node.e zz2))]), Value.bool true])) [some (Sum.inl (76, [zz6, zz10 ti, zz10 tg])), some (Sum.inr (Sum.inr (Sum.inr (Rs.pool zz4)))), some (Sum.inl (28, [zz10 (El.k (Gv.Node.e zz2)), zz10 (El.w (Gv.Node.e zz2))])), some (Sum.inl (74, [zz10 (El.k (Gv.Node.e zz2)), zz10 (El.w (Gv.Node.e zz2)), zz10 (Gv.Ref.i (Gv.Node.l zz2)), zz10 (Gv.Ref.g (Gv.Node.l zz2)), zz10 (Gv.Ref.i (Gv.Node.r zz2)), zz10 (Gv.Ref.g (Gv.Node.r zz2)), zz10 (Gv.Part.n (Gv.Node.all zz2)), zz10 (Ti.Td.n (Gv.Part.sum (Gv.Node.all zz2))), zz10 (Ti.Td.s (Gv.Part.sum (Gv.Node.all zz2))), zz10 (Ti.Td.l (Gv.Part.sum (Gv.Node.all zz2))), zz10 (Gv.Node.h zz2)])), some (Sum.inl (74, [zz10 (El.k (Gv.Node.e zz3)), zz10 (El.w (Gv.Node.e zz3)), zz10 (Gv.Ref.i (Gv.Node.l zz3)), zz10 (Gv.Ref.g (Gv.Node.l zz3)), zz10 (Gv.Ref.i (Gv.Node.r zz3)), zz10 (Gv.Ref.g (Gv.Node.r zz3)), zz10 (Gv.Part.n (Gv.Node.all zz3)), zz10 (Ti.Td.n (Gv.Part.sum (Gv.Node.all zz3))), zz10 (Ti.Td.s (Gv.Part.sum (Gv.Node.all zz3))), zz10 (Ti.Td.l (Gv.Part.sum (Gv.Node.all zz3))), zz10 (Gv.Node.h zz3)]))])) ∧ ((Prod.snd zz1 == Gv.Part.n (Gv.Node.all zz3)) = false → (decide (Prod.snd zz1 < Gv.Part.n (Gv.Node.all zz3)) = true → Post (∃ j, (PP (Prod.fst (Prod.snd (Prod.snd j))) ∧ Gv.NthE O7 (Prod.fst j) (Prod.fst (Prod.snd (Prod.snd j))) (Prod.fst (Prod.snd j)) (Prod.snd (Prod.snd (Prod.snd j))) ∧ Gv.nthF O7 (Prod.fst j) (Prod.fst (Prod.snd (Prod.snd j))) (Prod.fst (Prod.snd j)) (Prod.snd (Prod.snd (Prod.snd j))) = Gv.nthF O7 K (Gv.see m (Gv.Ref.mk ti tg)) (Gv.lk O7 m (Gv.Ref.mk ti tg)) i_) ∧ Prod.fst j < k + 1 ∧ FitsM Rs 2 (Func.ntmps Try.f20) [0, 1, 4, 7] [zz7, zz10 (Prod.snd (Prod.snd (Prod.snd j))), zz9, zz8] [some (Sum.inl ((76 : TypeId), [zz6, zz10 ti, zz10 tg])), some (Sum.inr (Sum.inr (Sum.inr (Rs.pool (Prod.fst (Prod.snd (Prod.snd j))))))), some (Sum.inl ((28 : TypeId), [zz10 0, zz10 0])), some (Sum.inl ((74 : TypeId), [zz10 (El.k (Gv.Node.e (Prod.fst (Prod.snd j)))), zz10 (El.w (Gv.Node.e (Prod.fst (Prod.snd j)))), zz10 (Gv.Ref.i (Gv.Node.l (Prod.fst (Prod.snd j)))), zz10 (Gv.Ref.g (Gv.Node.l (Prod.fst (Prod.snd j)))), zz10 (Gv.Ref.i (Gv.Node.r (Prod.fst (Prod.snd j)))), zz10 (Gv.Ref.g (Gv.Node.r (Prod.fst (Prod.snd j)))), zz10 (Gv.Part.n (Gv.Node.all (Prod.fst (Prod.snd j)))), zz10 (Ti.Td.n (Gv.Part.sum (Gv.Node.all (Prod.fst (Prod.snd j))))), zz10 (Ti.Td.s (Gv.Part.sum (Gv.Node.all (Prod.fst (Prod.snd j))))), zz10 (Ti.Td.l (Gv.Part.sum (Gv.Node.all (Prod.fst (Prod.snd j))))), zz10 (Gv.Node.h (Prod.fst (Prod.snd j)))]))] [some (zz7), some (zz10 (Prod.snd zz1)), some (zz9), some (zz8)] [some (Sum.inl (76, [zz6, zz10 ti, zz10 tg])), some (Sum.inr (Sum.inr (Sum.inr (Rs.pool zz4)))), some (Sum.inl (28, [zz10 0, zz10 0])), some (Sum.inl (74, [zz10 (El.k (Gv.Node.e zz3)), zz10 (El.w (Gv.Node.e zz3)), zz10 (Gv.Ref.i (Gv.Node.l zz3)), zz10 (Gv.Ref.g (Gv.Node.l zz3)), zz10 (Gv.Ref.i (Gv.Node.r zz3)), zz10 (Gv.Ref.g (Gv.Node.r zz3)), zz10 (Gv.Part.n (Gv.Node.all zz3)), zz10 (Ti.Td.n (Gv.Part.sum (Gv.Node.all zz3))), zz10 (Ti.Td.s (Gv.Part.sum (Gv.Node.all zz3))), zz10 (Ti.Td.l (Gv.Part.sum (Gv.Node.all zz3))), zz10 (Gv.Node.h zz3)])), some (Sum.inl (74, [zz10 (El.k (Gv.Node.e zz3)), zz10 (El.w (Gv.Node.e zz3)), zz10 (Gv.Ref.i (Gv.Node.l zz3)), zz10 (Gv.Ref.g (Gv.Node.l zz3)), zz10 (Gv.Ref.i (Gv.Node.r zz3)), zz10 (Gv.Ref.g (Gv.Node.r zz3)), zz10 (Gv.Part.n (Gv.Node.all zz3)), zz10 (Ti.Td.n (Gv.Part.sum (Gv.Node.all zz3))), zz10 (Ti.Td.s (Gv.Part.sum (Gv.Node.all zz3))), zz10 (Ti.Td.l (Gv.Part.sum (Gv.Node.all zz3))), zz10 (Gv.Node.h zz3)]))] 52)) ∧ (decide (Prod.snd zz1 < Gv.Part.n (Gv.Node.all zz3)) = false → Vc True ∧ Vc True ∧ Vc (PP zz4) ∧ Post (∃ j, (PP (Prod.fst (Prod.snd (Prod.snd j))) ∧ Gv.NthE O7 (Prod.fst j) (Prod.fst (Prod.snd (Prod.snd j))) (Prod.fst (Prod.snd j)) (Prod.snd (Prod.snd (Prod.snd j))) ∧ Gv.nthF O7 (Prod.fst j) (Prod.fst (Prod.snd (Prod.snd j))) (Prod.fst (Prod.snd j)) (Prod.snd (Prod.snd (Prod.snd j))) = Gv.nthF O7 K (Gv.see m (Gv.Ref.mk ti tg)) (Gv.lk O7 m (Gv.Ref.mk ti tg)) i_) ∧ Prod.fst j < k + 1 ∧ FitsM Rs 2 (Func.ntmps Try.f20) [0, 1, 4, 7] [zz7, zz10 (Prod.snd (Prod.snd (Prod.snd j))), zz9, zz8] [some (Sum.inl ((76 : TypeId), [zz6, zz10 ti, zz10 tg])), some (Sum.inr (Sum.inr (Sum.inr (Rs.pool (Prod.fst (Prod.snd (Prod.snd j))))))), some (Sum.inl ((28 : TypeId), [zz10 0, zz10 0])), some (Sum.inl ((74 : TypeId), [zz10 (El.k (Gv.Node.e (Prod.fst (Prod.snd j)))), zz10 (El.w (Gv.Node.e (Prod.fst (Prod.snd j)))), zz10 (Gv.Ref.i (Gv.Node.l (Prod.fst (Prod.snd j)))), zz10 (Gv.Ref.g (Gv.Node.l (Prod.fst (Prod.snd j)))), zz10 (Gv.Ref.i (Gv.Node.r (Prod.fst (Prod.snd j)))), zz10 (Gv.Ref.g (Gv.Node.r (Prod.fst (Prod.snd j)))), zz10 (Gv.Part.n (Gv.Node.all (Prod.fst (Prod.snd j)))), zz10 (Ti.Td.n (Gv.Part.sum (Gv.Node.all (Prod.fst (Prod.snd j))))), zz10 (Ti.Td.s (Gv.Part.sum (Gv.Node.all (Prod.fst (Prod.snd j))))), zz10 (Ti.Td.l (Gv.Part.sum (Gv.Node.all (Prod.fst (Prod.snd j))))), zz10 (Gv.Node.h (Prod.fst (Prod.snd j)))]))] [some (zz7), some (zz10 (IntKind.wrap IntKind.i64 (Prod.snd zz1 - IntKind.wrap IntKind.i64 (Gv.Part.n (Gv.Node.all zz3) + (1 : Int))))), some (zz9), some (zz8)] [some (Sum.inl (76, [zz6, zz10 ti, zz10 tg])), some (Sum.inr (Sum.inr (Sum.inr (Rs.pool (Gv.see zz4 (Gv.Node.r zz2)))))), some (Sum.inl (28, [zz10 0, zz10 0])), some (Sum.inl (74, [zz10 (El.k (Gv.Node.e zz5)), zz10 (El.w (Gv.Node.e zz5)), zz10 (Gv.Ref.i (Gv.Node.l zz5)), zz10 (Gv.Ref.g (Gv.Node.l zz5)), zz10 (Gv.Ref.i (Gv.Node.r zz5)), zz10 (Gv.Ref.g (Gv.Node.r zz5)), zz10 (Gv.Part.n (Gv.Node.all zz5)), zz10 (Ti.Td.n (Gv.Part.sum (Gv.Node.all zz5))), zz10 (Ti.Td.s (Gv.Part.sum (Gv.Node.all zz5))), zz10 (Ti.Td.l (Gv.Part.sum (Gv.Node.all zz5))), zz10 (Gv.Node.h zz5)])), some (Sum.inl (74, [zz10 (El.k (Gv.Node.e zz3)), zz10 (El.w (Gv.Node.e zz3)), zz10 (Gv.Ref.i (Gv.Node.l zz3)), zz10 (Gv.Ref.g (Gv.Node.l zz3)), zz10 (Gv.Ref.i (Gv.Node.r zz3)), zz10 (Gv.Ref.g (Gv.Node.r zz3)), zz10 (Gv.Part.n (Gv.Node.all zz3)), zz10 (Ti.Td.n (Gv.Part.sum (Gv.Node.all zz3))), zz10 (Ti.Td.s (Gv.Part.sum (Gv.Node.all zz3))), zz10 (Ti.Td.l (Gv.Part.sum (Gv.Node.all zz3))), zz10 (Gv.Node.h zz3)]))] 52)))) ?_ (by kernel_rfl)
    intro zz6 zz7 zz8 zz9 zz10 zz1 zz2 zz3 zz4 zz5; subst zz5 zz4 zz3 zz2 zz1 zz10 zz9 zz8 zz7 zz6
    rw [Gv.NthE] at s2
    rw [Gv.nthF] at s3
    subst hG
    repeat' (first | apply And.intro | apply Vc.mk | apply fits.mk | intro h | apply Post.mk)
    all_goals (try simp only [decide_eq_true_eq, decide_eq_false_iff_not, Nat.zero_add, ge_iff_le, Int.not_le, Int.not_lt, Int.toNat_natCast, beq_iff_eq, beq_eq_false_iff_ne, bne_iff_ne, bne_eq_false_iff_eq, Bool.not_eq_true', Bool.not_eq_false'] at *)
    all_goals first | contradiction | omega | (apply congrArg Value.bool; assumption) | exact congrArg Value.bool (decide_eq_true (by assumption)) | exact congrArg Value.bool (decide_eq_false (Int.not_lt.mpr (by assumption))) | exact ⟨rfl, by omega⟩ | exact rfl | (simp [*, -List.getD_eq_getElem?_getD]; done) | skip
    all_goals first | assumption | exact Gv.see_ok.2 s1 | skip
    · have h1 : c = (Gv.lk O7 m2 n.l).all.n := by assumption
      rw [if_pos h1] at s3
      rw [ee, ← s3]
      exact ⟨[0, 1], rfl, rfl, ⟨.inl rfl, rfl, trivial⟩, rfl, rfl, rfl, rfl⟩
    · have h1 : c ≠ (Gv.lk O7 m2 n.l).all.n := by assumption
      have h2 : c < (Gv.lk O7 m2 n.l).all.n := by assumption
      rw [if_neg h1, if_pos h2] at s3
      exact ⟨(k, Gv.lk O7 m2 n.l, Gv.see m2 n.l, c), ⟨Gv.see_ok.2 s1, (s2 h1).1 (by omega), s3⟩, Nat.lt_succ_self _, ⟨[0, 1, 2, 3], rfl, ⟨.inl rfl, rfl, .inl rfl, .inl rfl, trivial⟩, rfl, rfl, rfl, rfl⟩⟩
    · have h1 : c ≠ (Gv.lk O7 m2 n.l).all.n := by assumption
      have h2 : ¬ c < (Gv.lk O7 m2 n.l).all.n := by omega
      rw [if_neg h1, if_neg h2] at s3
      exact ⟨(k, Gv.lk O7 (Gv.see m2 n.l) n.r, Gv.see (Gv.see m2 n.l) n.r, Gv.W (c - Gv.W ((Gv.lk O7 m2 n.l).all.n + 1))), ⟨Gv.see_ok.2 (Gv.see_ok.2 s1), (s2 h1).2 (by omega), s3⟩, Nat.lt_succ_self _, ⟨[0, 1, 2, 3], rfl, ⟨.inl rfl, rfl, .inl rfl, .inl rfl, trivial⟩, rfl, rfl, rfl, rfl⟩⟩
  · cases hx
end Go.Proofs.Ytclagkjjgmeifaa.G7


