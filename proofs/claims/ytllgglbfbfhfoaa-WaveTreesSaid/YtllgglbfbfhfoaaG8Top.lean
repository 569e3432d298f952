/- grove: a pool of nodes of marks: its calls, first part. -/
import Derived.Test.YtllgglbfbfhfoaaG8Bet
import Derived.Test.YtllgglbfbfhfoaaGvTop
import Derived.Test.YtllgglbfbfhfoaaG8Put
namespace Go.Proofs.Ytllgglbfbfhfoaa.G8
open Go.Proofs.Ytllgglbfbfhfoaa.Rx
set_option linter.unusedVariables false
set_option linter.unusedSimpArgs false
set_option maxRecDepth 100000
set_option maxHeartbeats 8000000
set_option maxHeartbeats 16000000
def TNew : Tab Rs := [(47, liftC zN 2 (con1 newP))]
theorem TNew_ok : TabOk D Try.prog TNew := ⟨liftC_ok _ _ new_ok, trivial⟩
def gnewP : Prim Rs := fun args hh => match args, hh with
  | [.int .i64 c], [] => some ⟨True, .pointer (some ⟨0, 0, none⟩), none, [some (.inl (73, [.pointer (some ⟨1, 0, none⟩), .int .i64 Gv.r0.i, .int .i64 Gv.r0.g])), some (.inr (.inr (.inr (.pool ⟨[], [], [], [], 0, min (max c 0) 16777216, 0⟩))))], [], [(0, 0)]⟩
  | _, _ => none
theorem gnew_ok : ConOk D Try.prog 33 (con1 gnewP) := by
  refine con1_ok (prim_at (fn := Try.f33) (root := codeOf Try.f33) (by kernel_rfl) (by kernel_rfl) (by kernel_rfl) fun args hh x hx => ?_)
  unfold gnewP at hx
  split at hx
  · rename_i c
    injection hx with hx
    subst hx
    refine ⟨by first | exact Nat.le_refl _ | exact Nat.zero_le _ | exact Nat.le_succ _, noLit rfl, (fun hw => by first | rfl | cases hw), fun _ hv => ?_⟩
    generalize hG : Rx.Ends (R := Rs) _ _ = G
    refine rx_ok (T := TNew) TNew_ok mixed 200 ?_
    refine as_text (q := Vc True ∧ Post (G (Value.pointer (some (Addr.mk 1 0 none))) [some (Sum.inr (Sum.inr (Sum.inr (Rs.pool (Gv.PM.mk [] [] [] [] (0 : Int) (min (max c (0 : Int)) (16777216 : Int)) (0 : Int)))))), some (Sum.inl (73, [Value.pointer (some (Addr.mk 0 0 none)), Value.int IntKind.i64 0, Value.int IntKind.i64 0]))])) ?_ (by kernel_rfl)
    subst hG
    repeat' (first | apply And.intro | apply Vc.mk | apply fits.mk | intro h | apply Post.mk)
    all_goals (try simp only [decide_eq_true_eq, decide_eq_false_iff_not, Nat.zero_add, ge_iff_le, Int.not_le, Int.not_lt, Int.toNat_natCast, beq_iff_eq, beq_eq_false_iff_ne, bne_iff_ne, bne_eq_false_iff_eq, Bool.not_eq_true', Bool.not_eq_false'] at *)
    all_goals first | contradiction | omega | (apply congrArg Value.bool; assumption) | exact congrArg Value.bool (decide_eq_true (by assumption)) | exact congrArg Value.bool (decide_eq_false (Int.not_lt.mpr (by assumption))) | exact ⟨rfl, by omega⟩ | exact rfl | (simp [*, -List.getD_eq_getElem?_getD]; done) | skip
    exact ⟨[1, 0], rfl, rfl, ⟨.inl rfl, rfl, trivial⟩, rfl, rfl, rfl, rfl⟩
  · cases hx
def TLook1 : Tab Rs := [(38, liftC zN 2 (con1 lookP))]
theorem TLook1_ok : TabOk D Try.prog TLook1 := ⟨liftC_ok _ _ look_ok, trivial⟩
def lenP : Prim Rs := fun args hh => match args, hh with
  | [.pointer (some ⟨0, 0, none⟩)], [some (.inl (73, [.pointer (some ⟨1, 0, none⟩), .int .i64 ti, .int .i64 tg])), some (.inr (.inr (.inr (.pool m))))] => some ⟨PP m, .int .i64 (Gv.lk Wv.O8 m (⟨ti, tg⟩ : Gv.Ref)).all.n, none, [some (.inl (73, [.pointer (some ⟨1, 0, none⟩), .int .i64 ti, .int .i64 tg])), some (.inr (.inr (.inr (.pool (Gv.see m (⟨ti, tg⟩ : Gv.Ref))))))], [], [(0, 0)]⟩
  | _, _ => none
theorem len_ok : ConOk D Try.prog 16 (con1 lenP) := by
  refine con1_ok (prim_at (fn := Try.f16) (root := codeOf Try.f16) (by kernel_rfl) (by kernel_rfl) (by kernel_rfl) fun args hh x hx => ?_)
  unfold lenP at hx
  split at hx
  · rename_i ti tg m
    injection hx with hx
    subst hx
    refine ⟨by first | exact Nat.le_refl _ | exact Nat.zero_le _ | exact Nat.le_succ _, noLit rfl, (fun hw => by first | rfl | cases hw), fun _ hv => ?_⟩
    generalize hG : Rx.Ends (R := Rs) _ _ = G
    refine rx_ok (T := TLook1) TLook1_ok mixed 200 ?_
    refine as_text (q := Vc (PP m) ∧ Post (G (Value.int IntKind.i64 (Gv.Part.n (Gv.Node.all (Gv.lk Wv.O8 m (Gv.Ref.mk ti tg))))) [some (Sum.inl (73, [Value.pointer (some (Addr.mk 1 0 none)), Value.int IntKind.i64 ti, Value.int IntKind.i64 tg])), some (Sum.inr (Sum.inr (Sum.inr (Rs.pool (Gv.see m (Gv.Ref.mk ti tg))))))])) ?_ (by kernel_rfl)
    subst hG
    repeat' (first | apply And.intro | apply Vc.mk | apply fits.mk | intro h | apply Post.mk)
    all_goals (try simp only [decide_eq_true_eq, decide_eq_false_iff_not, Nat.zero_add, ge_iff_le, Int.not_le, Int.not_lt, Int.toNat_natCast, beq_iff_eq, beq_eq_false_iff_ne, bne_iff_ne, bne_eq_false_iff_eq, Bool.not_eq_true', Bool.not_eq_false'] at *)
    all_goals first | contradiction | omega | (apply congrArg Value.bool; assumption) | exact congrArg Value.bool (decide_eq_true (by assumption)) | exact congrArg Value.bool (decide_eq_false (Int.not_lt.mpr (by assumption))) | exact ⟨rfl, by omega⟩ | exact rfl | (simp [*, -List.getD_eq_getElem?_getD]; done) | skip
    all_goals first | assumption | (simp only [Gv.see_ok, Gv.put1_ok, Gv.setN_ok, Gv.tie_ok, Gv.turnL_ok, Gv.turnR_ok, Gv.level_ok, Gv.replace_ok, Gv.hang_ok, Gv.link_ok, Gv.pickF_ok, Gv.glue_ok, Gv.pick_ok, Gv.cutF_ok, Gv.gather_ok, Gv.between_ok, Gv.first_ok, Gv.last_ok]; assumption) | skip
    exact ⟨[0, 1], rfl, rfl, ⟨.inl rfl, rfl, trivial⟩, rfl, rfl, rfl, rfl⟩
  · cases hx
def gputP (K : Nat) : Prim Rs := fun args hh => match args, hh with
  | [.pointer (some ⟨0, 0, none⟩), .agg ⟨[.int .i64 k0, .bool k1, .int .i64 k2, .int .i64 k3, .bool k4, .bool k5, .int .i64 k6, .int .i64 k7]⟩], [some (.inl (73, [.pointer (some ⟨1, 0, none⟩), .int .i64 ti, .int .i64 tg])), some (.inr (.inr (.inr (.pool m))))] => some ⟨PP m ∧ Gv.PutD Wv.O8 K m (⟨ti, tg⟩ : Gv.Ref) (⟨k0, k1, ⟨k2, k3⟩, k4, k5, ⟨k6, k7⟩⟩ : Wv.Mk), .bool (Gv.putF Wv.O8 K m (⟨ti, tg⟩ : Gv.Ref) (⟨k0, k1, ⟨k2, k3⟩, k4, k5, ⟨k6, k7⟩⟩ : Wv.Mk)).1, none, [some (.inl (73, [.pointer (some ⟨1, 0, none⟩), .int .i64 (Gv.putF Wv.O8 K m (⟨ti, tg⟩ : Gv.Ref) (⟨k0, k1, ⟨k2, k3⟩, k4, k5, ⟨k6, k7⟩⟩ : Wv.Mk)).2.1.i, .int .i64 (Gv.putF Wv.O8 K m (⟨ti, tg⟩ : Gv.Ref) (⟨k0, k1, ⟨k2, k3⟩, k4, k5, ⟨k6, k7⟩⟩ : Wv.Mk)).2.1.g])), some (.inr (.inr (.inr (.pool (Gv.putF Wv.O8 K m (⟨ti, tg⟩ : Gv.Ref) (⟨k0, k1, ⟨k2, k3⟩, k4, k5, ⟨k6, k7⟩⟩ : Wv.Mk)).2.2))))], [], [(0, 0)]⟩
  | _, _ => none
def TGPut (K : Nat) : Tab Rs := [(34, liftC zN 2 (con1 (replaceP K))), (36, liftC zN 2 (con1 oneP)), (35, liftC zN 2 (con1 putP)), (37, liftC zN 2 (con1 (hangP K)))]
theorem gput_ok (K : Nat) : ConOk D Try.prog 15 (con1 (gputP K)) := by
  refine con1_ok (prim_at (fn := Try.f15) (root := codeOf Try.f15) (by kernel_rfl) (by kernel_rfl) (by kernel_rfl) fun args hh x hx => ?_)
  unfold gputP at hx
  split at hx
  · rename_i k0 k1 k2 k3 k4 k5 k6 k7 ti tg m
    injection hx with hx
    subst hx
    refine ⟨by first | exact Nat.le_refl _ | exact Nat.zero_le _ | exact Nat.le_succ _, noLit rfl, (fun hw => by first | rfl | cases hw), fun _ hv => ?_⟩
    obtain ⟨hp, hd⟩ := hv
    generalize hG : Rx.Ends (R := Rs) _ _ = G
    refine rx_ok (T := (TGPut K)) (show TabOk D Try.prog (TGPut K) from ⟨liftC_ok _ _ (replace_ok K), liftC_ok _ _ one_ok, liftC_ok _ _ put_ok, liftC_ok _ _ (hang_ok K), trivial⟩) mixed 200 ?_
    refine as_text (q := let zz6 := Value.pointer (some (Addr.mk 1 0 none)); let zz7 := Value.int IntKind.i64; let zz1 := (Wv.Mk.mk k0 k1 (Wv.It.mk k2 k3) k4 k5 (Wv.It.mk k6 k7)); let zz2 := (Gv.replace Wv.O8 K m (Gv.Ref.mk ti tg) zz1); let zz3 := (Gv.put zd (Prod.snd zz2) (Gv.Node.mk zz1 (Gv.Ref.mk (0 : Int) (0 : Int)) (Gv.Ref.mk (0 : Int) (0 : Int)) (Gv.one Wv.O8 zz1) (1 : Int))); let zz4 := (Value.bool !decide (Gv.PM.held (Prod.snd zz2) = Gv.PM.cap (Prod.snd zz2))); let zz5 := (Gv.hang Wv.O8 K zz3 (Gv.Ref.mk ti tg) (Gv.putR zd (Prod.snd zz2)) zz1); Vc (PP m ∧ Gv.Deep Wv.O8 K m (Gv.Ref.mk ti tg)) ∧ (Prod.fst zz2 = true → Post (G (Value.bool true) [some (Sum.inl (73, [zz6, zz7 ti, zz7 tg])), some (Sum.inr (Sum.inr (Sum.inr (Rs.pool (Prod.snd zz2))))), some (Sum.inl (48, [zz7 k0, Value.bool k1, zz7 k2, zz7 k3, Value.bool k4, Value.bool k5, zz7 k6, zz7 k7]))])) ∧ (Prod.fst zz2 = false → Vc True ∧ Vc (PP (Prod.snd zz2)) ∧ ((!decide (Gv.PM.held (Prod.snd zz2) = Gv.PM.cap (Prod.snd zz2))) = true → Vc (PP zz3 ∧ Gv.Deep Wv.O8 K zz3 (Gv.Ref.mk ti tg)) ∧ Post (G zz4 [some (Sum.inl (73, [zz6, zz7 (Gv.Ref.i (Prod.fst zz5)), zz7 (Gv.Ref.g (Prod.fst zz5))])), some (Sum.inr (Sum.inr (Sum.inr (Rs.pool (Prod.snd zz5))))), some (Sum.inl (48, [zz7 k0, Value.bool k1, zz7 k2, zz7 k3, Value.bool k4, Value.bool k5, zz7 k6, zz7 k7])), some (Sum.inl (71, [zz7 (Gv.Ref.i (Gv.putR zd (Prod.snd zz2))), zz7 (Gv.Ref.g (Gv.putR zd (Prod.snd zz2)))]))])) ∧ ((!decide (Gv.PM.held (Prod.snd zz2) = Gv.PM.cap (Prod.snd zz2))) = false → Post (G zz4 [some (Sum.inl (73, [zz6, zz7 ti, zz7 tg])), some (Sum.inr (Sum.inr (Sum.inr (Rs.pool zz3)))), some (Sum.inl (48, [zz7 k0, Value.bool k1, zz7 k2, zz7 k3, Value.bool k4, Value.bool k5, zz7 k6, zz7 k7])), some (Sum.inl (71, [zz7 (Gv.Ref.i (Gv.putR zd (Prod.snd zz2))), zz7 (Gv.Ref.g (Gv.putR zd (Prod.snd zz2)))]))])))) ?_ (by kernel_rfl)
    intro zz6 zz7 zz1 zz2 zz3 zz4 zz5; subst zz5 zz4 zz3 zz2 zz1 zz7 zz6
    obtain ⟨hd1, hd2⟩ := hd
    have done : ∀ (b : Bool) (i g : Int) (m' : Pl) (rest : Hp Rs), Gv.putF Wv.O8 K m (⟨ti, tg⟩ : Gv.Ref) (⟨k0, k1, ⟨k2, k3⟩, k4, k5, ⟨k6, k7⟩⟩ : Wv.Mk) = (b, ⟨i, g⟩, m') → G (.bool b) ([some (.inl (73, [.pointer (some ⟨1, 0, none⟩), .int .i64 (⟨i, g⟩ : Gv.Ref).i, .int .i64 (⟨i, g⟩ : Gv.Ref).g])), some (.inr (.inr (.inr (.pool m'))))] ++ rest) := by
      intro b i g m' rest e
      subst hG
      refine ⟨[0, 1], ?_, rfl, ⟨.inl ?_, ?_, trivial⟩, rfl, rfl, rfl, rfl⟩
      · simp only [e]; rfl
      · simp only [e]; rfl
      · simp only [e]; rfl
    clear hG
    repeat' (first | apply And.intro | apply Vc.mk | apply fits.mk | intro h | apply Post.mk)
    all_goals (try simp only [decide_eq_true_eq, decide_eq_false_iff_not, Nat.zero_add, ge_iff_le, Int.not_le, Int.not_lt, Int.toNat_natCast, beq_iff_eq, beq_eq_false_iff_ne, bne_iff_ne, bne_eq_false_iff_eq, Bool.not_eq_true', Bool.not_eq_false'] at *)
    all_goals first | contradiction | omega | (apply congrArg Value.bool; assumption) | exact congrArg Value.bool (decide_eq_true (by assumption)) | exact congrArg Value.bool (decide_eq_false (Int.not_lt.mpr (by assumption))) | exact ⟨rfl, by omega⟩ | exact rfl | (simp [*, -List.getD_eq_getElem?_getD]; done) | skip
    all_goals first | assumption | (simp only [Gv.see_ok, Gv.put1_ok, Gv.setN_ok, Gv.tie_ok, Gv.turnL_ok, Gv.turnR_ok, Gv.level_ok, Gv.replace_ok, Gv.hang_ok, Gv.link_ok, Gv.pickF_ok, Gv.glue_ok, Gv.pick_ok, Gv.cutF_ok, Gv.gather_ok, Gv.between_ok, Gv.first_ok, Gv.last_ok]; assumption) | skip
    all_goals first | exact (hd2 (by assumption)).1 | exact (hd2 (by assumption)).2 | skip
    all_goals (refine done _ _ _ _ _ ?_; unfold Gv.putF; repeat' split)
    all_goals first | rfl | (exfalso; simp_all; done) | (refine Prod.ext ?_ rfl; simp [*]; done)
  · cases hx
def gbetP (K : Nat) : Prim Rs := fun args hh => match args, hh with
  | [.pointer (some ⟨0, 0, none⟩), .int .i64 x_, .int .i64 y_], [some (.inl (73, [.pointer (some ⟨1, 0, none⟩), .int .i64 ti, .int .i64 tg])), some (.inr (.inr (.inr (.pool m))))] => some ⟨PP m ∧ Gv.BetE Wv.O8 K (Gv.see m (⟨ti, tg⟩ : Gv.Ref)) (Gv.lk Wv.O8 m (⟨ti, tg⟩ : Gv.Ref)) x_ y_, .agg ⟨[.int .i64 (Gv.between Wv.O8 K (Gv.see m (⟨ti, tg⟩ : Gv.Ref)) (Gv.lk Wv.O8 m (⟨ti, tg⟩ : Gv.Ref)) x_ y_).1.sum.c.n, .int .i64 (Gv.between Wv.O8 K (Gv.see m (⟨ti, tg⟩ : Gv.Ref)) (Gv.lk Wv.O8 m (⟨ti, tg⟩ : Gv.Ref)) x_ y_).1.sum.c.s, .int .i64 (Gv.between Wv.O8 K (Gv.see m (⟨ti, tg⟩ : Gv.Ref)) (Gv.lk Wv.O8 m (⟨ti, tg⟩ : Gv.Ref)) x_ y_).1.sum.c.l, .int .i64 (Gv.between Wv.O8 K (Gv.see m (⟨ti, tg⟩ : Gv.Ref)) (Gv.lk Wv.O8 m (⟨ti, tg⟩ : Gv.Ref)) x_ y_).1.sum.w.n, .int .i64 (Gv.between Wv.O8 K (Gv.see m (⟨ti, tg⟩ : Gv.Ref)) (Gv.lk Wv.O8 m (⟨ti, tg⟩ : Gv.Ref)) x_ y_).1.sum.w.s, .int .i64 (Gv.between Wv.O8 K (Gv.see m (⟨ti, tg⟩ : Gv.Ref)) (Gv.lk Wv.O8 m (⟨ti, tg⟩ : Gv.Ref)) x_ y_).1.sum.w.l, .int .i64 (Gv.between Wv.O8 K (Gv.see m (⟨ti, tg⟩ : Gv.Ref)) (Gv.lk Wv.O8 m (⟨ti, tg⟩ : Gv.Ref)) x_ y_).1.sum.d, .int .i64 (Gv.between Wv.O8 K (Gv.see m (⟨ti, tg⟩ : Gv.Ref)) (Gv.lk Wv.O8 m (⟨ti, tg⟩ : Gv.Ref)) x_ y_).1.sum.f, .int .i64 (Gv.between Wv.O8 K (Gv.see m (⟨ti, tg⟩ : Gv.Ref)) (Gv.lk Wv.O8 m (⟨ti, tg⟩ : Gv.Ref)) x_ y_).1.sum.m.k, .int .i64 (Gv.between Wv.O8 K (Gv.see m (⟨ti, tg⟩ : Gv.Ref)) (Gv.lk Wv.O8 m (⟨ti, tg⟩ : Gv.Ref)) x_ y_).1.sum.m.i, .bool (Gv.between Wv.O8 K (Gv.see m (⟨ti, tg⟩ : Gv.Ref)) (Gv.lk Wv.O8 m (⟨ti, tg⟩ : Gv.Ref)) x_ y_).1.sum.gf, .int .i64 (Gv.between Wv.O8 K (Gv.see m (⟨ti, tg⟩ : Gv.Ref)) (Gv.lk Wv.O8 m (⟨ti, tg⟩ : Gv.Ref)) x_ y_).1.sum.g.k, .int .i64 (Gv.between Wv.O8 K (Gv.see m (⟨ti, tg⟩ : Gv.Ref)) (Gv.lk Wv.O8 m (⟨ti, tg⟩ : Gv.Ref)) x_ y_).1.sum.g.i, .bool (Gv.between Wv.O8 K (Gv.see m (⟨ti, tg⟩ : Gv.Ref)) (Gv.lk Wv.O8 m (⟨ti, tg⟩ : Gv.Ref)) x_ y_).1.sum.lf, .int .i64 (Gv.between Wv.O8 K (Gv.see m (⟨ti, tg⟩ : Gv.Ref)) (Gv.lk Wv.O8 m (⟨ti, tg⟩ : Gv.Ref)) x_ y_).1.sum.l.k, .int .i64 (Gv.between Wv.O8 K (Gv.see m (⟨ti, tg⟩ : Gv.Ref)) (Gv.lk Wv.O8 m (⟨ti, tg⟩ : Gv.Ref)) x_ y_).1.sum.l.i]⟩, none, [some (.inl (73, [.pointer (some ⟨1, 0, none⟩), .int .i64 ti, .int .i64 tg])), some (.inr (.inr (.inr (.pool (Gv.between Wv.O8 K (Gv.see m (⟨ti, tg⟩ : Gv.Ref)) (Gv.lk Wv.O8 m (⟨ti, tg⟩ : Gv.Ref)) x_ y_).2))))], [], [(0, 0)]⟩
  | _, _ => none
def TGBet (K : Nat) : Tab Rs := [(38, liftC zN 2 (con1 lookP)), (39, liftC zN 2 (con1 (betP K)))]
theorem gbet_ok (K : Nat) : ConOk D Try.prog 20 (con1 (gbetP K)) := by
  refine con1_ok (prim_at (fn := Try.f20) (root := codeOf Try.f20) (by kernel_rfl) (by kernel_rfl) (by kernel_rfl) fun args hh x hx => ?_)
  unfold gbetP at hx
  split at hx
  · rename_i x_ y_ ti tg m
    injection hx with hx
    subst hx
    refine ⟨by first | exact Nat.le_refl _ | exact Nat.zero_le _ | exact Nat.le_succ _, noLit rfl, (fun hw => by first | rfl | cases hw), fun _ hv => ?_⟩
    obtain ⟨hp, hd⟩ := hv
    generalize hG : Rx.Ends (R := Rs) _ _ = G
    refine rx_ok (T := (TGBet K)) (show TabOk D Try.prog (TGBet K) from ⟨liftC_ok _ _ look_ok, liftC_ok _ _ (bet_ok K), trivial⟩) mixed 200 ?_
    refine as_text (q := let zz3 := Value.int IntKind.i64; let zz1 := (Gv.between Wv.O8 K (Gv.see m (Gv.Ref.mk ti tg)) (Gv.lk Wv.O8 m (Gv.Ref.mk ti tg)) x_ y_); let zz2 := (Gv.Part.sum (Prod.fst zz1)); Vc (PP m) ∧ Vc (PP (Gv.see m (Gv.Ref.mk ti tg)) ∧ Gv.BetE Wv.O8 K (Gv.see m (Gv.Ref.mk ti tg)) (Gv.lk Wv.O8 m (Gv.Ref.mk ti tg)) x_ y_) ∧ Post (G (Value.agg (Array.mk [zz3 (Ti.Td.n (Wv.Sw.c zz2)), zz3 (Ti.Td.s (Wv.Sw.c zz2)), zz3 (Ti.Td.l (Wv.Sw.c zz2)), zz3 (Ti.Td.n (Wv.Sw.w zz2)), zz3 (Ti.Td.s (Wv.Sw.w zz2)), zz3 (Ti.Td.l (Wv.Sw.w zz2)), zz3 (Wv.Sw.d zz2), zz3 (Wv.Sw.f zz2), zz3 (Wv.It.k (Wv.Sw.m zz2)), zz3 (Wv.It.i (Wv.Sw.m zz2)), Value.bool (Wv.Sw.gf zz2), zz3 (Wv.It.k (Wv.Sw.g zz2)), zz3 (Wv.It.i (Wv.Sw.g zz2)), Value.bool (Wv.Sw.lf zz2), zz3 (Wv.It.k (Wv.Sw.l zz2)), zz3 (Wv.It.i (Wv.Sw.l zz2))])) [some (Sum.inl (73, [Value.pointer (some (Addr.mk 1 0 none)), zz3 ti, zz3 tg])), some (Sum.inr (Sum.inr (Sum.inr (Rs.pool (Prod.snd zz1))))), some (Sum.inl (32, [zz3 (Ti.Td.n (Wv.Sw.c zz2)), zz3 (Ti.Td.s (Wv.Sw.c zz2)), zz3 (Ti.Td.l (Wv.Sw.c zz2)), zz3 (Ti.Td.n (Wv.Sw.w zz2)), zz3 (Ti.Td.s (Wv.Sw.w zz2)), zz3 (Ti.Td.l (Wv.Sw.w zz2)), zz3 (Wv.Sw.d zz2), zz3 (Wv.Sw.f zz2), zz3 (Wv.It.k (Wv.Sw.m zz2)), zz3 (Wv.It.i (Wv.Sw.m zz2)), Value.bool (Wv.Sw.gf zz2), zz3 (Wv.It.k (Wv.Sw.g zz2)), zz3 (Wv.It.i (Wv.Sw.g zz2)), Value.bool (Wv.Sw.lf zz2), zz3 (Wv.It.k (Wv.Sw.l zz2)), zz3 (Wv.It.i (Wv.Sw.l zz2))]))])) ?_ (by kernel_rfl)
    intro zz3 zz1 zz2; subst zz2 zz1 zz3
    subst hG
    repeat' (first | apply And.intro | apply Vc.mk | apply fits.mk | intro h | apply Post.mk)
    all_goals (try simp only [decide_eq_true_eq, decide_eq_false_iff_not, Nat.zero_add, ge_iff_le, Int.not_le, Int.not_lt, Int.toNat_natCast, beq_iff_eq, beq_eq_false_iff_ne, bne_iff_ne, bne_eq_false_iff_eq, Bool.not_eq_true', Bool.not_eq_false'] at *)
    all_goals first | contradiction | omega | (apply congrArg Value.bool; assumption) | exact congrArg Value.bool (decide_eq_true (by assumption)) | exact congrArg Value.bool (decide_eq_false (Int.not_lt.mpr (by assumption))) | exact ⟨rfl, by omega⟩ | exact rfl | (simp [*, -List.getD_eq_getElem?_getD]; done) | skip
    all_goals first | assumption | (simp only [Gv.see_ok, Gv.put1_ok, Gv.setN_ok, Gv.tie_ok, Gv.turnL_ok, Gv.turnR_ok, Gv.level_ok, Gv.replace_ok, Gv.hang_ok, Gv.link_ok, Gv.pickF_ok, Gv.glue_ok, Gv.pick_ok, Gv.cutF_ok, Gv.gather_ok, Gv.between_ok, Gv.first_ok, Gv.last_ok]; assumption) | skip
    exact ⟨[0, 1], rfl, rfl, ⟨.inl rfl, rfl, trivial⟩, rfl, rfl, rfl, rfl⟩
  · cases hx

end Go.Proofs.Ytllgglbfbfhfoaa.G8
