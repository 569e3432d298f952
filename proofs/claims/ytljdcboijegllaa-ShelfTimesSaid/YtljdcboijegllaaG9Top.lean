/- grove: a pool of nodes of slots: its calls, first part. -/
import Derived.Test.YtljdcboijegllaaG9Gather
import Derived.Test.YtljdcboijegllaaG9Bet
import Derived.Test.YtljdcboijegllaaGvTop
namespace Go.Proofs.Ytljdcboijegllaa.G9
open Go.Proofs.Ytljdcboijegllaa.Rx
set_option linter.unusedVariables false
set_option linter.unusedSimpArgs false
set_option maxRecDepth 100000
set_option maxHeartbeats 16000000
def TNew : Tab Rs := [(37, liftC zN 2 (con1 newP))]
theorem TNew_ok : TabOk D Try.prog TNew := ⟨liftC_ok _ _ new_ok, trivial⟩
def gnewP : Prim Rs := fun args hh => match args, hh with
  | [.int .i64 c], [] => some ⟨True, .pointer (some ⟨0, 0, none⟩), none, [some (.inl (59, [.pointer (some ⟨1, 0, none⟩), .int .i64 Gv.r0.i, .int .i64 Gv.r0.g])), some (.inr (.inr (.inr (.pool ⟨[], [], [], [], 0, min (max c 0) 16777216, 0⟩))))], [], [(0, 0)]⟩
  | _, _ => none
theorem gnew_ok : ConOk D Try.prog 24 (con1 gnewP) := by
  refine con1_ok (prim_at (fn := Try.f24) (root := codeOf Try.f24) (by kernel_rfl) (by kernel_rfl) (by kernel_rfl) fun args hh x hx => ?_)
  unfold gnewP at hx
  split at hx
  · rename_i c
    injection hx with hx
    subst hx
    refine ⟨by first | exact Nat.le_refl _ | exact Nat.zero_le _ | exact Nat.le_succ _, noLit rfl, (fun hw => by first | rfl | cases hw), fun _ hv => ?_⟩
    generalize hG : Rx.Ends (R := Rs) _ _ = G
    refine rx_ok (T := TNew) TNew_ok mixed 200 ?_
    refine as_text (q := Vc True ∧ Post (G (Value.pointer (some (Addr.mk 1 0 none))) [some (Sum.inr (Sum.inr (Sum.inr (Rs.pool (Gv.PM.mk [] [] [] [] (0 : Int) (min (max c (0 : Int)) (16777216 : Int)) (0 : Int)))))), some (Sum.inl (59, [Value.pointer (some (Addr.mk 0 0 none)), Value.int IntKind.i64 0, Value.int IntKind.i64 0]))])) ?_ (by kernel_rfl)
    subst hG
    repeat' (first | apply And.intro | apply Vc.mk | apply fits.mk | intro h | apply Post.mk)
    all_goals (try simp only [decide_eq_true_eq, decide_eq_false_iff_not, Nat.zero_add, ge_iff_le, Int.not_le, Int.not_lt, Int.toNat_natCast, beq_iff_eq, beq_eq_false_iff_ne, bne_iff_ne, bne_eq_false_iff_eq, Bool.not_eq_true', Bool.not_eq_false'] at *)
    all_goals first | contradiction | omega | (apply congrArg Value.bool; assumption) | exact congrArg Value.bool (decide_eq_true (by assumption)) | exact congrArg Value.bool (decide_eq_false (Int.not_lt.mpr (by assumption))) | exact ⟨rfl, by omega⟩ | exact rfl | (simp [*, -List.getD_eq_getElem?_getD]; done) | skip
    exact ⟨[1, 0], rfl, rfl, ⟨.inl rfl, rfl, trivial⟩, rfl, rfl, rfl, rfl⟩
  · cases hx
def TLook1 : Tab Rs := [(34, liftC zN 2 (con1 lookP))]
theorem TLook1_ok : TabOk D Try.prog TLook1 := ⟨liftC_ok _ _ look_ok, trivial⟩
def lenP : Prim Rs := fun args hh => match args, hh with
  | [.pointer (some ⟨0, 0, none⟩)], [some (.inl (59, [.pointer (some ⟨1, 0, none⟩), .int .i64 ti, .int .i64 tg])), some (.inr (.inr (.inr (.pool m))))] => some ⟨PP m, .int .i64 (Gv.lk Sh.O9 m (⟨ti, tg⟩ : Gv.Ref)).all.n, none, [some (.inl (59, [.pointer (some ⟨1, 0, none⟩), .int .i64 ti, .int .i64 tg])), some (.inr (.inr (.inr (.pool (Gv.see m (⟨ti, tg⟩ : Gv.Ref))))))], [], [(0, 0)]⟩
  | _, _ => none
theorem len_ok : ConOk D Try.prog 16 (con1 lenP) := by
  refine con1_ok (prim_at (fn := Try.f16) (root := codeOf Try.f16) (by kernel_rfl) (by kernel_rfl) (by kernel_rfl) fun args hh x hx => ?_)
  unfold lenP at hx
  split at hx
  · rename_i ti tg m
    injection hx with hx
    subst hx
    refine ⟨by first | exact Nat.le_refl _ | exact Nat.zero_le _ | exact Nat.le_succ _, noLit rfl, (fun hw => by first | rfl | cases hw), fun _ hv => ?_⟩
    generalize hG : Rx.Ends (R := Rs) _ _ = G
    refine rx_ok (T := TLook1) TLook1_ok mixed 200 ?_
    refine as_text (q := Vc (PP m) ∧ Post (G (Value.int IntKind.i64 (Gv.Part.n (Gv.Node.all (Gv.lk Sh.O9 m (Gv.Ref.mk ti tg))))) [some (Sum.inl (59, [Value.pointer (some (Addr.mk 1 0 none)), Value.int IntKind.i64 ti, Value.int IntKind.i64 tg])), some (Sum.inr (Sum.inr (Sum.inr (Rs.pool (Gv.see m (Gv.Ref.mk ti tg))))))])) ?_ (by kernel_rfl)
    subst hG
    repeat' (first | apply And.intro | apply Vc.mk | apply fits.mk | intro h | apply Post.mk)
    all_goals (try simp only [decide_eq_true_eq, decide_eq_false_iff_not, Nat.zero_add, ge_iff_le, Int.not_le, Int.not_lt, Int.toNat_natCast, beq_iff_eq, beq_eq_false_iff_ne, bne_iff_ne, bne_eq_false_iff_eq, Bool.not_eq_true', Bool.not_eq_false'] at *)
    all_goals first | contradiction | omega | (apply congrArg Value.bool; assumption) | exact congrArg Value.bool (decide_eq_true (by assumption)) | exact congrArg Value.bool (decide_eq_false (Int.not_lt.mpr (by assumption))) | exact ⟨rfl, by omega⟩ | exact rfl | (simp [*, -List.getD_eq_getElem?_getD]; done) | skip
    all_goals first | assumption | (simp only [Gv.see_ok, Gv.put1_ok, Gv.setN_ok, Gv.tie_ok, Gv.turnL_ok, Gv.turnR_ok, Gv.level_ok, Gv.replace_ok, Gv.hang_ok, Gv.link_ok, Gv.pickF_ok, Gv.glue_ok, Gv.pick_ok, Gv.cutF_ok, Gv.gather_ok, Gv.between_ok, Gv.first_ok, Gv.last_ok]; assumption) | skip
    exact ⟨[0, 1], rfl, rfl, ⟨.inl rfl, rfl, trivial⟩, rfl, rfl, rfl, rfl⟩
  · cases hx
def gputP (K : Nat) : Prim Rs := fun args hh => match args, hh with
  | [.pointer (some ⟨0, 0, none⟩), .agg ⟨[.int .i64 k0, .int .i64 k1, .bool k2, .int .i64 k3]⟩], [some (.inl (59, [.pointer (some ⟨1, 0, none⟩), .int .i64 ti, .int .i64 tg])), some (.inr (.inr (.inr (.pool m))))] => some ⟨PP m ∧ Gv.PutD Sh.O9 K m (⟨ti, tg⟩ : Gv.Ref) (⟨⟨k0, k1⟩, k2, k3⟩ : Sh.Sl), .bool (Gv.putF Sh.O9 K m (⟨ti, tg⟩ : Gv.Ref) (⟨⟨k0, k1⟩, k2, k3⟩ : Sh.Sl)).1, none, [some (.inl (59, [.pointer (some ⟨1, 0, none⟩), .int .i64 (Gv.putF Sh.O9 K m (⟨ti, tg⟩ : Gv.Ref) (⟨⟨k0, k1⟩, k2, k3⟩ : Sh.Sl)).2.1.i, .int .i64 (Gv.putF Sh.O9 K m (⟨ti, tg⟩ : Gv.Ref) (⟨⟨k0, k1⟩, k2, k3⟩ : Sh.Sl)).2.1.g])), some (.inr (.inr (.inr (.pool (Gv.putF Sh.O9 K m (⟨ti, tg⟩ : Gv.Ref) (⟨⟨k0, k1⟩, k2, k3⟩ : Sh.Sl)).2.2))))], [], [(0, 0)]⟩
  | _, _ => none
def TGPut (K : Nat) : Tab Rs := [(27, liftC zN 2 (con1 (replaceP K))), (29, liftC zN 2 (con1 oneP)), (28, liftC zN 2 (con1 putP)), (30, liftC zN 2 (con1 (hangP K)))]
theorem gput_ok (K : Nat) : ConOk D Try.prog 11 (con1 (gputP K)) := by
  refine con1_ok (prim_at (fn := Try.f11) (root := codeOf Try.f11) (by kernel_rfl) (by kernel_rfl) (by kernel_rfl) fun args hh x hx => ?_)
  unfold gputP at hx
  split at hx
  · rename_i k0 k1 k2 k3 ti tg m
    injection hx with hx
    subst hx
    refine ⟨by first | exact Nat.le_refl _ | exact Nat.zero_le _ | exact Nat.le_succ _, noLit rfl, (fun hw => by first | rfl | cases hw), fun _ hv => ?_⟩
    obtain ⟨hp, hd⟩ := hv
    generalize hG : Rx.Ends (R := Rs) _ _ = G
    refine rx_ok (T := (TGPut K)) (show TabOk D Try.prog (TGPut K) from ⟨liftC_ok _ _ (replace_ok K), liftC_ok _ _ one_ok, liftC_ok _ _ put_ok, liftC_ok _ _ (hang_ok K), trivial⟩) mixed 200 ?_
    refine as_text (q := let zz6 := Value.pointer (some (Addr.mk 1 0 none)); let zz7 := Value.int IntKind.i64; let zz1 := (Sh.Sl.mk (Wv.It.mk k0 k1) k2 k3); let zz2 := (Gv.replace Sh.O9 K m (Gv.Ref.mk ti tg) zz1); let zz3 := (Gv.put zd (Prod.snd zz2) (Gv.Node.mk zz1 (Gv.Ref.mk (0 : Int) (0 : Int)) (Gv.Ref.mk (0 : Int) (0 : Int)) (Gv.one Sh.O9 zz1) (1 : Int))); let zz4 := (Value.bool !decide (Gv.PM.held (Prod.snd zz2) = Gv.PM.cap (Prod.snd zz2))); let zz5 := (Gv.hang Sh.O9 K zz3 (Gv.Ref.mk ti tg) (Gv.putR zd (Prod.snd zz2)) zz1); Vc (PP m ∧ Gv.Deep Sh.O9 K m (Gv.Ref.mk ti tg)) ∧ (Prod.fst zz2 = true → Post (G (Value.bool true) [some (Sum.inl (59, [zz6, zz7 ti, zz7 tg])), some (Sum.inr (Sum.inr (Sum.inr (Rs.pool (Prod.snd zz2))))), some (Sum.inl (32, [zz7 k0, zz7 k1, Value.bool k2, zz7 k3]))])) ∧ (Prod.fst zz2 = false → Vc True ∧ Vc (PP (Prod.snd zz2)) ∧ ((!decide (Gv.PM.held (Prod.snd zz2) = Gv.PM.cap (Prod.snd zz2))) = true → Vc (PP zz3 ∧ Gv.Deep Sh.O9 K zz3 (Gv.Ref.mk ti tg)) ∧ Post (G zz4 [some (Sum.inl (59, [zz6, zz7 (Gv.Ref.i (Prod.fst zz5)), zz7 (Gv.Ref.g (Prod.fst zz5))])), some (Sum.inr (Sum.inr (Sum.inr (Rs.pool (Prod.snd zz5))))), some (Sum.inl (32, [zz7 k0, zz7 k1, Value.bool k2, zz7 k3])), some (Sum.inl (54, [zz7 (Gv.Ref.i (Gv.putR zd (Prod.snd zz2))), zz7 (Gv.Ref.g (Gv.putR zd (Prod.snd zz2)))]))])) ∧ ((!decide (Gv.PM.held (Prod.snd zz2) = Gv.PM.cap (Prod.snd zz2))) = false → Post (G zz4 [some (Sum.inl (59, [zz6, zz7 ti, zz7 tg])), some (Sum.inr (Sum.inr (Sum.inr (Rs.pool zz3)))), some (Sum.inl (32, [zz7 k0, zz7 k1, Value.bool k2, zz7 k3])), some (Sum.inl (54, [zz7 (Gv.Ref.i (Gv.putR zd (Prod.snd zz2))), zz7 (Gv.Ref.g (Gv.putR zd (Prod.snd zz2)))]))])))) ?_ (by kernel_rfl)
    intro zz6 zz7 zz1 zz2 zz3 zz4 zz5; subst zz5 zz4 zz3 zz2 zz1 zz7 zz6
    obtain ⟨hd1, hd2⟩ := hd
    have done : ∀ (b : Bool) (i g : Int) (m' : Pl) (rest : Hp Rs), Gv.putF Sh.O9 K m (⟨ti, tg⟩ : Gv.Ref) (⟨⟨k0, k1⟩, k2, k3⟩ : Sh.Sl) = (b, ⟨i, g⟩, m') → G (.bool b) ([some (.inl (59, [.pointer (some ⟨1, 0, none⟩), .int .i64 (⟨i, g⟩ : Gv.Ref).i, .int .i64 (⟨i, g⟩ : Gv.Ref).g])), some (.inr (.inr (.inr (.pool m'))))] ++ rest) := by
      intro b i g m' rest e
      subst hG
      refine ⟨[0, 1], ?_, rfl, ⟨.inl ?_, ?_, trivial⟩, rfl, rfl, rfl, rfl⟩
      · simp only [e]; rfl
      · simp only [e]; rfl
      · simp only [e]; rfl
    clear hG
    repeat' (first | apply And.intro | apply Vc.mk | apply fits.mk | intro h | apply Post.mk)
    all_goals (try simp only [decide_eq_true_eq, decide_eq_false_iff_not, Nat.zero_add, ge_iff_le, Int.not_le, Int.not_lt, Int.toNat_natCast, beq_iff_eq, beq_eq_false_iff_ne, bne_iff_ne, bne_eq_false_iff_eq, Bool.not_eq_true', Bool.not_eq_false'] at *)
    all_goals first | contradiction | omega | (apply congrArg Value.bool; assumption) | exact congrArg Value.bool (decide_eq_true (by assumption)) | exact congrArg Value.bool (decide_eq_false (Int.not_lt.mpr (by assumption))) | exact ⟨rfl, by omega⟩ | exact rfl | (simp [*, -List.getD_eq_getElem?_getD]; done) | skip
    all_goals first | assumption | (simp only [Gv.see_ok, Gv.put1_ok, Gv.setN_ok, Gv.tie_ok, Gv.turnL_ok, Gv.turnR_ok, Gv.level_ok, Gv.replace_ok, Gv.hang_ok, Gv.link_ok, Gv.pickF_ok, Gv.glue_ok, Gv.pick_ok, Gv.cutF_ok, Gv.gather_ok, Gv.between_ok, Gv.first_ok, Gv.last_ok]; assumption) | skip
    all_goals first | exact (hd2 (by assumption)).1 | exact (hd2 (by assumption)).2 | skip
    all_goals (refine done _ _ _ _ _ ?_; unfold Gv.putF; repeat' split)
    all_goals first | rfl | (exfalso; simp_all; done) | (refine Prod.ext ?_ rfl; simp [*]; done)
  · cases hx
def gdropP (K : Nat) : Prim Rs := fun args hh => match args, hh with
  | [.pointer (some ⟨0, 0, none⟩), .agg ⟨[.int .i64 k0, .int .i64 k1, .bool k2, .int .i64 k3]⟩], [some (.inl (59, [.pointer (some ⟨1, 0, none⟩), .int .i64 ti, .int .i64 tg])), some (.inr (.inr (.inr (.pool m))))] => some ⟨PP m ∧ Gv.PickD Sh.O9 K K m (⟨ti, tg⟩ : Gv.Ref) (⟨⟨k0, k1⟩, k2, k3⟩ : Sh.Sl), .tuple #[.agg ⟨[.int .i64 (Gv.dropF Sh.O9 K m (⟨ti, tg⟩ : Gv.Ref) (⟨⟨k0, k1⟩, k2, k3⟩ : Sh.Sl)).1.it.k, .int .i64 (Gv.dropF Sh.O9 K m (⟨ti, tg⟩ : Gv.Ref) (⟨⟨k0, k1⟩, k2, k3⟩ : Sh.Sl)).1.it.i, .bool (Gv.dropF Sh.O9 K m (⟨ti, tg⟩ : Gv.Ref) (⟨⟨k0, k1⟩, k2, k3⟩ : Sh.Sl)).1.eaten, .int .i64 (Gv.dropF Sh.O9 K m (⟨ti, tg⟩ : Gv.Ref) (⟨⟨k0, k1⟩, k2, k3⟩ : Sh.Sl)).1.time]⟩, .bool (Gv.dropF Sh.O9 K m (⟨ti, tg⟩ : Gv.Ref) (⟨⟨k0, k1⟩, k2, k3⟩ : Sh.Sl)).2.1], none, [some (.inl (59, [.pointer (some ⟨1, 0, none⟩), .int .i64 (Gv.dropF Sh.O9 K m (⟨ti, tg⟩ : Gv.Ref) (⟨⟨k0, k1⟩, k2, k3⟩ : Sh.Sl)).2.2.1.i, .int .i64 (Gv.dropF Sh.O9 K m (⟨ti, tg⟩ : Gv.Ref) (⟨⟨k0, k1⟩, k2, k3⟩ : Sh.Sl)).2.2.1.g])), some (.inr (.inr (.inr (.pool (Gv.dropF Sh.O9 K m (⟨ti, tg⟩ : Gv.Ref) (⟨⟨k0, k1⟩, k2, k3⟩ : Sh.Sl)).2.2.2))))], [], [(0, 0)]⟩
  | _, _ => none
def TGDrop (K : Nat) : Tab Rs := [(25, liftC zN 2 (con1 (pickP K K))), (26, liftC zN 2 (con1 dropP))]
theorem gdrop_ok (K : Nat) : ConOk D Try.prog 7 (con1 (gdropP K)) := by
  refine con1_ok (prim_at (fn := Try.f7) (root := codeOf Try.f7) (by kernel_rfl) (by kernel_rfl) (by kernel_rfl) fun args hh x hx => ?_)
  unfold gdropP at hx
  split at hx
  · rename_i k0 k1 k2 k3 ti tg m
    injection hx with hx
    subst hx
    refine ⟨by first | exact Nat.le_refl _ | exact Nat.zero_le _ | exact Nat.le_succ _, noLit rfl, (fun hw => by first | rfl | cases hw), fun _ hv => ?_⟩
    obtain ⟨hp, hd⟩ := hv
    generalize hG : Rx.Ends (R := Rs) _ _ = G
    refine rx_ok (T := (TGDrop K)) (show TabOk D Try.prog (TGDrop K) from ⟨liftC_ok _ _ (pick_ok K K), liftC_ok _ _ drop_ok, trivial⟩) mixed 200 ?_
    refine as_text (q := let zz7 := Value.int IntKind.i64; let zz1 := (Gv.pick Sh.O9 K K m (Gv.Ref.mk ti tg) (Sh.Sl.mk (Wv.It.mk k0 k1) k2 k3)); let zz2 := (Prod.snd (Prod.snd zz1)); let zz3 := (Prod.fst (Prod.snd zz1)); let zz4 := (Gv.look zd zz2 zz3); let zz5 := (Wv.It.k (Sh.Sl.it (Gv.Node.e zz4))); let zz6 := (Wv.It.i (Sh.Sl.it (Gv.Node.e zz4))); Vc (PP m ∧ Gv.PickD Sh.O9 K K m (Gv.Ref.mk ti tg) (Sh.Sl.mk (Wv.It.mk k0 k1) k2 k3)) ∧ Vc (PP zz2) ∧ Post (G (Value.tuple (Array.mk [Value.agg (Array.mk [zz7 zz5, zz7 zz6, Value.bool (Sh.Sl.eaten (Gv.Node.e zz4)), zz7 (Sh.Sl.time (Gv.Node.e zz4))]), Value.bool (Gv.has zz2 zz3)])) [some (Sum.inl (59, [Value.pointer (some (Addr.mk 1 0 none)), zz7 (Gv.Ref.i (Prod.fst zz1)), zz7 (Gv.Ref.g (Prod.fst zz1))])), some (Sum.inr (Sum.inr (Sum.inr (Rs.pool (Gv.drop zd zz2 zz3))))), some (Sum.inl (32, [zz7 k0, zz7 k1, Value.bool k2, zz7 k3])), some (Sum.inl (32, [zz7 zz5, zz7 zz6, Value.bool (Sh.Sl.eaten (Gv.Node.e zz4)), zz7 (Sh.Sl.time (Gv.Node.e zz4))])), some (Sum.inl (54, [zz7 (Gv.Ref.i (Prod.fst zz1)), zz7 (Gv.Ref.g (Prod.fst zz1))])), some (Sum.inl (54, [zz7 (Gv.Ref.i zz3), zz7 (Gv.Ref.g zz3)])), some (Sum.inl (63, [zz7 zz5, zz7 zz6, Value.bool (Sh.Sl.eaten (Gv.Node.e zz4)), zz7 (Sh.Sl.time (Gv.Node.e zz4)), zz7 (Gv.Ref.i (Gv.Node.l zz4)), zz7 (Gv.Ref.g (Gv.Node.l zz4)), zz7 (Gv.Ref.i (Gv.Node.r zz4)), zz7 (Gv.Ref.g (Gv.Node.r zz4)), zz7 (Gv.Part.n (Gv.Node.all zz4)), zz7 (Sh.Sz.n (Gv.Part.sum (Gv.Node.all zz4))), zz7 (Gv.Node.h zz4)]))])) ?_ (by kernel_rfl)
    intro zz7 zz1 zz2 zz3 zz4 zz5 zz6; subst zz6 zz5 zz4 zz3 zz2 zz1 zz7
    subst hG
    repeat' (first | apply And.intro | apply Vc.mk | apply fits.mk | intro h | apply Post.mk)
    all_goals (try simp only [decide_eq_true_eq, decide_eq_false_iff_not, Nat.zero_add, ge_iff_le, Int.not_le, Int.not_lt, Int.toNat_natCast, beq_iff_eq, beq_eq_false_iff_ne, bne_iff_ne, bne_eq_false_iff_eq, Bool.not_eq_true', Bool.not_eq_false'] at *)
    all_goals first | contradiction | omega | (apply congrArg Value.bool; assumption) | exact congrArg Value.bool (decide_eq_true (by assumption)) | exact congrArg Value.bool (decide_eq_false (Int.not_lt.mpr (by assumption))) | exact ⟨rfl, by omega⟩ | exact rfl | (simp [*, -List.getD_eq_getElem?_getD]; done) | skip
    all_goals first | assumption | (simp only [Gv.see_ok, Gv.put1_ok, Gv.setN_ok, Gv.tie_ok, Gv.turnL_ok, Gv.turnR_ok, Gv.level_ok, Gv.replace_ok, Gv.hang_ok, Gv.link_ok, Gv.pickF_ok, Gv.glue_ok, Gv.pick_ok, Gv.cutF_ok, Gv.gather_ok, Gv.between_ok, Gv.first_ok, Gv.last_ok]; assumption) | skip
    exact ⟨[0, 1], rfl, rfl, ⟨.inl rfl, rfl, trivial⟩, rfl, rfl, rfl, rfl⟩
  · cases hx
def gbetP (K : Nat) : Prim Rs := fun args hh => match args, hh with
  | [.pointer (some ⟨0, 0, none⟩), .int .i64 x_, .int .i64 y_], [some (.inl (59, [.pointer (some ⟨1, 0, none⟩), .int .i64 ti, .int .i64 tg])), some (.inr (.inr (.inr (.pool m))))] => some ⟨PP m ∧ Gv.BetE Sh.O9 K (Gv.see m (⟨ti, tg⟩ : Gv.Ref)) (Gv.lk Sh.O9 m (⟨ti, tg⟩ : Gv.Ref)) x_ y_, .int .i64 (Gv.between Sh.O9 K (Gv.see m (⟨ti, tg⟩ : Gv.Ref)) (Gv.lk Sh.O9 m (⟨ti, tg⟩ : Gv.Ref)) x_ y_).1.sum.n, none, [some (.inl (59, [.pointer (some ⟨1, 0, none⟩), .int .i64 ti, .int .i64 tg])), some (.inr (.inr (.inr (.pool (Gv.between Sh.O9 K (Gv.see m (⟨ti, tg⟩ : Gv.Ref)) (Gv.lk Sh.O9 m (⟨ti, tg⟩ : Gv.Ref)) x_ y_).2))))], [], [(0, 0)]⟩
  | _, _ => none
def TGBet (K : Nat) : Tab Rs := [(34, liftC zN 2 (con1 lookP)), (33, liftC zN 2 (con1 (betP K)))]
theorem gbet_ok (K : Nat) : ConOk D Try.prog 15 (con1 (gbetP K)) := by
  refine con1_ok (prim_at (fn := Try.f15) (root := codeOf Try.f15) (by kernel_rfl) (by kernel_rfl) (by kernel_rfl) fun args hh x hx => ?_)
  unfold gbetP at hx
  split at hx
  · rename_i x_ y_ ti tg m
    injection hx with hx
    subst hx
    refine ⟨by first | exact Nat.le_refl _ | exact Nat.zero_le _ | exact Nat.le_succ _, noLit rfl, (fun hw => by first | rfl | cases hw), fun _ hv => ?_⟩
    obtain ⟨hp, hd⟩ := hv
    generalize hG : Rx.Ends (R := Rs) _ _ = G
    refine rx_ok (T := (TGBet K)) (show TabOk D Try.prog (TGBet K) from ⟨liftC_ok _ _ look_ok, liftC_ok _ _ (bet_ok K), trivial⟩) mixed 200 ?_
    refine as_text (q := let zz1 := (Gv.between Sh.O9 K (Gv.see m (Gv.Ref.mk ti tg)) (Gv.lk Sh.O9 m (Gv.Ref.mk ti tg)) x_ y_); Vc (PP m) ∧ Vc (PP (Gv.see m (Gv.Ref.mk ti tg)) ∧ Gv.BetE Sh.O9 K (Gv.see m (Gv.Ref.mk ti tg)) (Gv.lk Sh.O9 m (Gv.Ref.mk ti tg)) x_ y_) ∧ Post (G (Value.int IntKind.i64 (Sh.Sz.n (Gv.Part.sum (Prod.fst zz1)))) [some (Sum.inl (59, [Value.pointer (some (Addr.mk 1 0 none)), Value.int IntKind.i64 ti, Value.int IntKind.i64 tg])), some (Sum.inr (Sum.inr (Sum.inr (Rs.pool (Prod.snd zz1)))))])) ?_ (by kernel_rfl)
    intro zz1; subst zz1
    subst hG
    repeat' (first | apply And.intro | apply Vc.mk | apply fits.mk | intro h | apply Post.mk)
    all_goals (try simp only [decide_eq_true_eq, decide_eq_false_iff_not, Nat.zero_add, ge_iff_le, Int.not_le, Int.not_lt, Int.toNat_natCast, beq_iff_eq, beq_eq_false_iff_ne, bne_iff_ne, bne_eq_false_iff_eq, Bool.not_eq_true', Bool.not_eq_false'] at *)
    all_goals first | contradiction | omega | (apply congrArg Value.bool; assumption) | exact congrArg Value.bool (decide_eq_true (by assumption)) | exact congrArg Value.bool (decide_eq_false (Int.not_lt.mpr (by assumption))) | exact ⟨rfl, by omega⟩ | exact rfl | (simp [*, -List.getD_eq_getElem?_getD]; done) | skip
    all_goals first | assumption | (simp only [Gv.see_ok, Gv.put1_ok, Gv.setN_ok, Gv.tie_ok, Gv.turnL_ok, Gv.turnR_ok, Gv.level_ok, Gv.replace_ok, Gv.hang_ok, Gv.link_ok, Gv.pickF_ok, Gv.glue_ok, Gv.pick_ok, Gv.cutF_ok, Gv.gather_ok, Gv.between_ok, Gv.first_ok, Gv.last_ok]; assumption) | skip
    exact ⟨[0, 1], rfl, rfl, ⟨.inl rfl, rfl, trivial⟩, rfl, rfl, rfl, rfl⟩
  · cases hx
theorem len_keep : KeepC [0] (con1 lenP) := by
  intro b args h x hx i hi hl
  cases b with
  | false => cases hx
  | true =>
    simp only [con1, Con.go, lenP] at hx
    split at hx
    · injection hx with hx
      subst hx
      simp only [List.mem_singleton] at hi
      subst hi
      rfl
    · cases hx
def gallP (K : Nat) : Prim Rs := fun args hh => match args, hh with
  | [.pointer (some ⟨0, 0, none⟩)], [some (.inl (59, [.pointer (some ⟨1, 0, none⟩), .int .i64 ti, .int .i64 tg])), some (.inr (.inr (.inr (.pool m))))] => some ⟨PP m ∧ Gv.Deep Sh.O9 K m (⟨ti, tg⟩ : Gv.Ref) ∧ (Gv.lk Sh.O9 m (⟨ti, tg⟩ : Gv.Ref)).all.n = (Gv.gather Sh.O9 K (Gv.see m (⟨ti, tg⟩ : Gv.Ref)) (⟨ti, tg⟩ : Gv.Ref)).1.length ∧ (Gv.gather Sh.O9 K (Gv.see m (⟨ti, tg⟩ : Gv.Ref)) (⟨ti, tg⟩ : Gv.Ref)).1.length < 900000, .slice (some ⟨2, 0, some 4000⟩) (Gv.gather Sh.O9 K (Gv.see m (⟨ti, tg⟩ : Gv.Ref)) (⟨ti, tg⟩ : Gv.Ref)).1.length 0, none, [some (.inl (59, [.pointer (some ⟨1, 0, none⟩), .int .i64 ti, .int .i64 tg])), some (.inr (.inr (.inr (.pool (Gv.gather Sh.O9 K (Gv.see m (⟨ti, tg⟩ : Gv.Ref)) (⟨ti, tg⟩ : Gv.Ref)).2)))), some (.inr (.inl (32, ⟨[.int .i64 0, .int .i64 0, .bool false, .int .i64 0], (Gv.gather Sh.O9 K (Gv.see m (⟨ti, tg⟩ : Gv.Ref)) (⟨ti, tg⟩ : Gv.Ref)).1.length, [⟨((Gv.gather Sh.O9 K (Gv.see m (⟨ti, tg⟩ : Gv.Ref)) (⟨ti, tg⟩ : Gv.Ref)).1.map fun e => e.it.k), [], []⟩, ⟨((Gv.gather Sh.O9 K (Gv.see m (⟨ti, tg⟩ : Gv.Ref)) (⟨ti, tg⟩ : Gv.Ref)).1.map fun e => e.it.i), [], []⟩, ⟨[], ((Gv.gather Sh.O9 K (Gv.see m (⟨ti, tg⟩ : Gv.Ref)) (⟨ti, tg⟩ : Gv.Ref)).1.map fun e => e.eaten), []⟩, ⟨((Gv.gather Sh.O9 K (Gv.see m (⟨ti, tg⟩ : Gv.Ref)) (⟨ti, tg⟩ : Gv.Ref)).1.map fun e => e.time), [], []⟩]⟩)))], [], [(0, 0)]⟩
  | _, _ => none
def TGAll (K : Nat) : Tab Rs := [(16, liftKC [0] 2 (con1 lenP)), (43, liftC zN 2 (con1 (gatherP K)))]
theorem gall_ok (K : Nat) : ConOk D Try.prog 32 (con1 (gallP K)) := by
  refine con1_ok (prim_at (fn := Try.f32) (root := codeOf Try.f32) (by kernel_rfl) (by kernel_rfl) (by kernel_rfl) fun args hh x hx => ?_)
  unfold gallP at hx
  split at hx
  · rename_i ti tg m
    injection hx with hx
    subst hx
    refine ⟨by first | exact Nat.le_refl _ | exact Nat.zero_le _ | exact Nat.le_succ _, noLit rfl, (fun hw => by first | rfl | cases hw), fun _ hv => ?_⟩
    obtain ⟨hp, hd⟩ := hv
    generalize hG : Rx.Ends (R := Rs) _ _ = G
    refine rx_ok (T := (TGAll K)) (show TabOk D Try.prog (TGAll K) from ⟨liftKC_ok _ _ len_ok len_keep, liftC_ok _ _ (gather_ok K), trivial⟩) mixed 200 ?_
    refine as_text (q := let zz3 := Value.int IntKind.i64; let zz1 := (Gv.Node.all (Gv.lk Sh.O9 m (Gv.Ref.mk ti tg))); let zz2 := (Gv.gather Sh.O9 K (Gv.see m (Gv.Ref.mk ti tg)) (Gv.Ref.mk ti tg)); Vc (PP m) ∧ Vc ((0 : Int) ≤ (0 : Int) ∧ (0 : Int) ≤ Gv.Part.n zz1 ∧ Gv.Part.n zz1 * (32 : Int) ≤ (140737488355328 : Int) ∧ Gv.Part.n zz1 ≤ (140737488355328 : Int)) ∧ Vc ((PP (Gv.see m (Gv.Ref.mk ti tg)) ∧ 0 = 0 ∧ 0 = 0 ∧ 0 = 0 ∧ 0 = 0 ∧ 0 = 0 ∧ 0 + List.length (Prod.fst zz2) < 900000) ∧ Gv.Deep Sh.O9 K (Gv.see m (Gv.Ref.mk ti tg)) (Gv.Ref.mk ti tg)) ∧ Post (G (Value.slice (some (Addr.mk 4 0 (some 4000))) (0 + List.length (Prod.fst zz2)) (if List.length (Prod.fst zz2) = 0 then Int.toNat (Gv.Part.n zz1) else 0)) [some (Sum.inl (59, [Value.pointer (some (Addr.mk 1 0 none)), zz3 ti, zz3 tg])), some (Sum.inr (Sum.inr (Sum.inr (Rs.pool (Prod.snd zz2))))), some (Sum.inr (Sum.inl (32, Row.mk [zz3 0, zz3 0, Value.bool false, zz3 0] 0 [Col.mk [] [] [], Col.mk [] [] [], Col.mk [] [] [], Col.mk [] [] []]))), none, some (Sum.inr (Sum.inl (32, Row.mk [zz3 0, zz3 0, Value.bool false, zz3 0] (0 + List.length (Prod.fst zz2)) [Col.mk ([] ++ List.map (fun e => Wv.It.k (Sh.Sl.it e)) (Prod.fst zz2)) [] [], Col.mk ([] ++ List.map (fun e => Wv.It.i (Sh.Sl.it e)) (Prod.fst zz2)) [] [], Col.mk [] ([] ++ List.map (fun e => Sh.Sl.eaten e) (Prod.fst zz2)) [], Col.mk ([] ++ List.map (fun e => Sh.Sl.time e) (Prod.fst zz2)) [] []])))])) ?_ (by kernel_rfl)
    intro zz3 zz1 zz2; subst zz2 zz1 zz3
    subst hG
    obtain ⟨hd1, hd2, hd4⟩ := hd
    have hd5 := (Gv.Deep_see (s := (⟨ti, tg⟩ : Gv.Ref))).2 hd1
    have e2 : (if (Gv.gather Sh.O9 K (Gv.see m (⟨ti, tg⟩ : Gv.Ref)) (⟨ti, tg⟩ : Gv.Ref)).1.length = 0 then (Gv.lk Sh.O9 m (⟨ti, tg⟩ : Gv.Ref)).all.n.toNat else 0) = 0 := by rw [hd2]; split <;> omega
    simp only [e2, Nat.zero_add, List.nil_append]
    repeat' (first | apply And.intro | apply Vc.mk | apply fits.mk | intro h | apply Post.mk)
    all_goals (try simp only [decide_eq_true_eq, decide_eq_false_iff_not, Nat.zero_add, ge_iff_le, Int.not_le, Int.not_lt, Int.toNat_natCast, beq_iff_eq, beq_eq_false_iff_ne, bne_iff_ne, bne_eq_false_iff_eq, Bool.not_eq_true', Bool.not_eq_false'] at *)
    all_goals first | contradiction | omega | (apply congrArg Value.bool; assumption) | exact congrArg Value.bool (decide_eq_true (by assumption)) | exact congrArg Value.bool (decide_eq_false (Int.not_lt.mpr (by assumption))) | exact ⟨rfl, by omega⟩ | exact rfl | (simp [*, -List.getD_eq_getElem?_getD]; done) | skip
    all_goals first | omega | assumption | exact Gv.see_ok.2 hp | (simp; done) | skip
    refine ⟨[0, 1, 4], ?_, rfl, ?_, rfl, rfl, rfl, rfl⟩
    · rfl
    · simp [Pulls, pullB, nth, at2, dnL, dnV, mvL, mvV, mvA, mvQ_lt, blt_true, blt_false, RowLe, colI, colB]
      all_goals first | rfl | skip
  · cases hx
end Go.Proofs.Ytljdcboijegllaa.G9
