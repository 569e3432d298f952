/- grove: a pool of nodes of marks: its functions: first, last, with B. -/
import Derived.Test.YtdgglimfjfedaaaG8Hang
import Derived.Test.YtdgglimfjfedaaaGvD
import Derived.Test.YtdgglimfjfedaaaG8May
namespace Go.Proofs.Ytdgglimfjfedaaa.G8
open Go.Proofs.Ytdgglimfjfedaaa.Rx
set_option linter.unusedVariables false
set_option linter.unusedSimpArgs false
set_option maxRecDepth 100000
set_option maxHeartbeats 16000000
def firstBP  (k : Nat) : Prim Rs := fun args hh => match args, hh with
  | [.pointer (some ⟨0, 0, none⟩), .agg ⟨xN⟩, .agg ⟨pP⟩, .int .i64 f_, .func (.func 46) ⟨[]⟩ ⟨[.pointer (some ⟨1, 0, none⟩)]⟩], [some (.inl (71, [.pointer (some ⟨2, 0, none⟩), .int .i64 ti, .int .i64 tg])), some (.inl (3, [.int .i64 xx])), some (.inr (.inr (.inr (.pool m))))] => some ⟨xN = ndL (ndOf xN) ∧ pP = ptL (ptOf pP) ∧ (PP m ∧ Gv.DeepN Wv.O8 k m (ndOf xN)), .int .i64 (Gv.first Wv.O8 (mayB xx) k m (ndOf xN) (ptOf pP) f_).1, none, [some (.inl (71, [.pointer (some ⟨2, 0, none⟩), .int .i64 ti, .int .i64 tg])), some (.inl (3, [.int .i64 xx])), some (.inr (.inr (.inr (.pool (Gv.first Wv.O8 (mayB xx) k m (ndOf xN) (ptOf pP) f_).2))))], [], [(0, 0)]⟩
  | _, _ => none
def TFirstB (k : Nat) : Tab Rs := [(1000000000, wrapCon), (46, liftC zN 2 (con1 mayBP)), (36, liftC zN 2 (con1 lookP)), (42, liftC zN 2 (con1 oneP)), (50, liftC zN 2 (con1 plusP)), (45, liftC zN 2 (con1 (firstBP k)))]
theorem firstB_ok : ∀ k : Nat, ConOk D Try.prog 45 (con1 (firstBP k))
  | 0 => by
    refine con1_ok (prim_at (fn := Try.f45) (root := codeOf Try.f45) (by kernel_rfl) (by kernel_rfl) (by kernel_rfl) fun args hh x hx => ?_)
    unfold firstBP at hx
    split at hx
    · rename_i xN pP f_ ti tg xx m
      injection hx with hx
      subst hx
      refine ⟨by first | exact Nat.le_refl _ | exact Nat.zero_le _ | exact Nat.le_succ _, noLit rfl, (fun hw => by first | rfl | cases hw), fun _ hv => ?_⟩
      exact False.elim (And.right (And.right (And.right hv)))
    · cases hx
  | k + 1 => by
    have ih := firstB_ok k
    refine con1_ok (prim_at (fn := Try.f45) (root := codeOf Try.f45) (by kernel_rfl) (by kernel_rfl) (by kernel_rfl) fun args hh x hx => ?_)
    unfold firstBP at hx
    split at hx
    · rename_i xN pP f_ ti tg xx m
      injection hx with hx
      subst hx
      refine ⟨by first | exact Nat.le_refl _ | exact Nat.zero_le _ | exact Nat.le_succ _, noLit rfl, (fun hw => by first | rfl | cases hw), fun _ hv => ?_⟩
      obtain ⟨hq0, hq1, hv⟩ := hv; generalize ndOf xN = xn at *; subst hq0; generalize ptOf pP = pp at *; subst hq1; obtain ⟨hp, hd⟩ := hv
      generalize hG : Rx.Ends (R := Rs) _ _ = G
      refine rx_ok (T := (TFirstB k)) (show TabOk D Try.prog (TFirstB k) from ⟨wrapCon_ok, liftC_ok _ _ mayB_ok, liftC_ok _ _ look_ok, liftC_ok _ _ one_ok, liftC_ok _ _ plus_ok, liftC_ok _ _ ih, trivial⟩) mixed 200 ?_
      refine as_text (q := let zz9 := Value.int IntKind.i64; let zz1 := (IntKind.wrap IntKind.i64 (Gv.Part.n pp + Gv.Part.n (Gv.Node.all xn)) ≤ f_); let zz2 := (Gv.lk Wv.O8 m (Gv.Node.l xn)); let zz3 := (Gv.first Wv.O8 (mayB xx) k (Gv.see m (Gv.Node.l xn)) zz2 pp f_); let zz4 := (Gv.plusP Wv.O8 pp (Gv.Node.all zz2)); let zz5 := (Gv.one Wv.O8 (Gv.Node.e xn)); let zz6 := (Gv.lk Wv.O8 (Prod.snd zz3) (Gv.Node.r xn)); let zz7 := (Gv.see (Prod.snd zz3) (Gv.Node.r xn)); let zz8 := (Gv.first Wv.O8 (mayB xx) k zz7 zz6 (Gv.plusP Wv.O8 zz4 zz5) f_); ((Gv.Node.h xn == (0 : Int)) = false → Vc True ∧ (decide zz1 = true → Post (G (zz9 (-1 : Int)) [trB 2 ti tg, some (Sum.inl (3, [zz9 xx])), oP m, some (Sum.inl (67, (ndL xn))), some (Sum.inl (63, (ptL pp)))])) ∧ (decide zz1 = false → (decide (Gv.Part.n pp ≥ f_) = true → Vc ((smL (Gv.Part.sum pp)) = smL (Gv.Part.sum pp) ∧ (smL (Gv.Part.sum (Gv.Node.all xn))) = smL (Gv.Part.sum (Gv.Node.all xn))) ∧ ((!mayB xx (Gv.Part.sum pp) (Gv.Part.sum (Gv.Node.all xn))) = true → Post (G (zz9 (-1 : Int)) [trB 2 ti tg, some (Sum.inl (3, [zz9 xx])), oP m, some (Sum.inl (67, (ndL xn))), some (Sum.inl (63, (ptL pp)))])) ∧ ((!mayB xx (Gv.Part.sum pp) (Gv.Part.sum (Gv.Node.all xn))) = false → Vc (PP m) ∧ Vc ((ndL zz2) = ndL zz2 ∧ (ptL pp) = ptL pp ∧ PP (Gv.see m (Gv.Node.l xn)) ∧ Gv.DeepN Wv.O8 k (Gv.see m (Gv.Node.l xn)) zz2) ∧ (decide (Prod.fst zz3 ≥ (0 : Int)) = true → Post (G (zz9 (Prod.fst zz3)) [trB 2 ti tg, some (Sum.inl (3, [zz9 xx])), oP (Prod.snd zz3), some (Sum.inl (67, (ndL xn))), some (Sum.inl (63, (ptL pp))), some (Sum.inl (67, (ndL zz2)))])) ∧ (decide (Prod.fst zz3 ≥ (0 : Int)) = false → Vc ((ptL pp) = ptL pp ∧ (ptL (Gv.Node.all zz2)) = ptL (Gv.Node.all zz2) ∧ True) ∧ Vc ((elL (Gv.Node.e xn)) = elL (Gv.Node.e xn) ∧ True) ∧ (decide (Gv.Part.n zz4 ≥ f_) = true → Vc ((smL (Gv.Part.sum zz4)) = smL (Gv.Part.sum zz4) ∧ (smL (Gv.Part.sum zz5)) = smL (Gv.Part.sum zz5)) ∧ (mayB xx (Gv.Part.sum zz4) (Gv.Part.sum zz5) = true → Post (G (zz9 (Gv.Part.n zz4)) [trB 2 ti tg, some (Sum.inl (3, [zz9 xx])), oP (Prod.snd zz3), some (Sum.inl (67, (ndL xn))), some (Sum.inl (63, (ptL zz4))), some (Sum.inl (67, (ndL zz2))), some (Sum.inl (63, (ptL zz5)))])) ∧ (mayB xx (Gv.Part.sum zz4) (Gv.Part.sum zz5) = false → Vc (PP (Prod.snd zz3)) ∧ Vc ((ptL zz4) = ptL zz4 ∧ (ptL zz5) = ptL zz5 ∧ True) ∧ Vc ((ndL zz6) = ndL zz6 ∧ (ptL (Gv.plusP Wv.O8 zz4 zz5)) = ptL (Gv.plusP Wv.O8 zz4 zz5) ∧ PP zz7 ∧ Gv.DeepN Wv.O8 k zz7 zz6) ∧ Post (G (zz9 (Prod.fst zz8)) [trB 2 ti tg, some (Sum.inl (3, [zz9 xx])), oP (Prod.snd zz8), some (Sum.inl (67, (ndL xn))), some (Sum.inl (63, (ptL zz4))), some (Sum.inl (67, (ndL zz2))), some (Sum.inl (63, (ptL zz5)))]))) ∧ (decide (Gv.Part.n zz4 ≥ f_) = false → Vc (PP (Prod.snd zz3)) ∧ Vc ((ptL zz4) = ptL zz4 ∧ (ptL zz5) = ptL zz5 ∧ True) ∧ Vc ((ndL zz6) = ndL zz6 ∧ (ptL (Gv.plusP Wv.O8 zz4 zz5)) = ptL (Gv.plusP Wv.O8 zz4 zz5) ∧ PP zz7 ∧ Gv.DeepN Wv.O8 k zz7 zz6) ∧ Post (G (zz9 (Prod.fst zz8)) [trB 2 ti tg, some (Sum.inl (3, [zz9 xx])), oP (Prod.snd zz8), some (Sum.inl (67, (ndL xn))), some (Sum.inl (63, (ptL zz4))), some (Sum.inl (67, (ndL zz2))), some (Sum.inl (63, (ptL zz5)))]))))) ∧ (decide (Gv.Part.n pp ≥ f_) = false → Vc (PP m) ∧ Vc ((ndL zz2) = ndL zz2 ∧ (ptL pp) = ptL pp ∧ PP (Gv.see m (Gv.Node.l xn)) ∧ Gv.DeepN Wv.O8 k (Gv.see m (Gv.Node.l xn)) zz2) ∧ (decide (Prod.fst zz3 ≥ (0 : Int)) = true → Post (G (zz9 (Prod.fst zz3)) [trB 2 ti tg, some (Sum.inl (3, [zz9 xx])), oP (Prod.snd zz3), some (Sum.inl (67, (ndL xn))), some (Sum.inl (63, (ptL pp))), some (Sum.inl (67, (ndL zz2)))])) ∧ (decide (Prod.fst zz3 ≥ (0 : Int)) = false → Vc ((ptL pp) = ptL pp ∧ (ptL (Gv.Node.all zz2)) = ptL (Gv.Node.all zz2) ∧ True) ∧ Vc ((elL (Gv.Node.e xn)) = elL (Gv.Node.e xn) ∧ True) ∧ (decide (Gv.Part.n zz4 ≥ f_) = true → Vc ((smL (Gv.Part.sum zz4)) = smL (Gv.Part.sum zz4) ∧ (smL (Gv.Part.sum zz5)) = smL (Gv.Part.sum zz5)) ∧ (mayB xx (Gv.Part.sum zz4) (Gv.Part.sum zz5) = true → Post (G (zz9 (Gv.Part.n zz4)) [trB 2 ti tg, some (Sum.inl (3, [zz9 xx])), oP (Prod.snd zz3), some (Sum.inl (67, (ndL xn))), some (Sum.inl (63, (ptL zz4))), some (Sum.inl (67, (ndL zz2))), some (Sum.inl (63, (ptL zz5)))])) ∧ (mayB xx (Gv.Part.sum zz4) (Gv.Part.sum zz5) = false → Vc (PP (Prod.snd zz3)) ∧ Vc ((ptL zz4) = ptL zz4 ∧ (ptL zz5) = ptL zz5 ∧ True) ∧ Vc ((ndL zz6) = ndL zz6 ∧ (ptL (Gv.plusP Wv.O8 zz4 zz5)) = ptL (Gv.plusP Wv.O8 zz4 zz5) ∧ PP zz7 ∧ Gv.DeepN Wv.O8 k zz7 zz6) ∧ Post (G (zz9 (Prod.fst zz8)) [trB 2 ti tg, some (Sum.inl (3, [zz9 xx])), oP (Prod.snd zz8), some (Sum.inl (67, (ndL xn))), some (Sum.inl (63, (ptL zz4))), some (Sum.inl (67, (ndL zz2))), some (Sum.inl (63, (ptL zz5)))]))) ∧ (decide (Gv.Part.n zz4 ≥ f_) = false → Vc (PP (Prod.snd zz3)) ∧ Vc ((ptL zz4) = ptL zz4 ∧ (ptL zz5) = ptL zz5 ∧ True) ∧ Vc ((ndL zz6) = ndL zz6 ∧ (ptL (Gv.plusP Wv.O8 zz4 zz5)) = ptL (Gv.plusP Wv.O8 zz4 zz5) ∧ PP zz7 ∧ Gv.DeepN Wv.O8 k zz7 zz6) ∧ Post (G (zz9 (Prod.fst zz8)) [trB 2 ti tg, some (Sum.inl (3, [zz9 xx])), oP (Prod.snd zz8), some (Sum.inl (67, (ndL xn))), some (Sum.inl (63, (ptL zz4))), some (Sum.inl (67, (ndL zz2))), some (Sum.inl (63, (ptL zz5)))])))))) ∧ ((Gv.Node.h xn == (0 : Int)) = true → Post (G (zz9 (-1 : Int)) [trB 2 ti tg, some (Sum.inl (3, [zz9 xx])), oP m, some (Sum.inl (67, (ndL xn))), some (Sum.inl (63, (ptL pp)))]))) ?_ (by kernel_rfl)
      intro zz9 zz1 zz2 zz3 zz4 zz5 zz6 zz7 zz8; subst zz8 zz7 zz6 zz5 zz4 zz3 zz2 zz1 zz9
      simp only [Gv.DeepN] at hd
      have e1 : ∀ e, (Gv.one Wv.O8 e).sum = Wv.O8.sum e := fun _ => rfl
      have done : ∀ (i : Int) (m' : Pl) (rest : Hp Rs), Gv.first Wv.O8 (mayB xx) (k + 1) m xn pp f_ = (i, m') → G (.int .i64 i) ([some (.inl (71, [.pointer (some ⟨2, 0, none⟩), .int .i64 ti, .int .i64 tg])), some (.inl (3, [.int .i64 xx])), some (.inr (.inr (.inr (.pool m'))))] ++ rest) := by
        intro i m' rest e
        subst hG
        refine ⟨[0, 1, 2], ?_, rfl, ⟨.inl rfl, .inl rfl, ?_, trivial⟩, rfl, rfl, rfl, rfl⟩
        · simp only [e]; rfl
        · simp only [e]; rfl
      clear hG
      rw [Gv.first] at done
      dsimp only [Gv.W] at done
      simp only [e1]
      repeat' (first | apply And.intro | apply Vc.mk | apply fits.mk | intro h | apply Post.mk)
      all_goals (try simp only [decide_eq_true_eq, decide_eq_false_iff_not, Nat.zero_add, ge_iff_le, Int.not_le, Int.not_lt, Int.toNat_natCast, beq_iff_eq, beq_eq_false_iff_ne, bne_iff_ne, bne_eq_false_iff_eq, Bool.not_eq_true', Bool.not_eq_false'] at *)
      all_goals first | contradiction | omega | (apply congrArg Value.bool; assumption) | exact congrArg Value.bool (decide_eq_true (by assumption)) | exact congrArg Value.bool (decide_eq_false (Int.not_lt.mpr (by assumption))) | exact ⟨rfl, by omega⟩ | exact rfl | (simp [*, -List.getD_eq_getElem?_getD]; done) | skip
      all_goals first | assumption | (simp only [Gv.see_ok, Gv.put1_ok, Gv.setN_ok, Gv.tie_ok, Gv.turnL_ok, Gv.turnR_ok, Gv.level_ok, Gv.replace_ok, Gv.hang_ok, Gv.link_ok, Gv.pickF_ok, Gv.glue_ok, Gv.pick_ok, Gv.cutF_ok, Gv.gather_ok, Gv.between_ok, Gv.first_ok, Gv.last_ok]; assumption) | skip
      all_goals first | exact Gv.DeepN_of (hd.resolve_left (by omega)).1 (fun s => by simp only [Gv.lk_see, Gv.lk_first, Gv.lk_last]) | (simp only [Gv.lk_first, Gv.lk_last, Gv.lk_see]; first | exact Gv.DeepN_of (hd.resolve_left (by omega)).2 (fun s => by simp only [Gv.lk_see, Gv.lk_first, Gv.lk_last]) | exact Gv.DeepN_of (hd.resolve_left (by omega)).1 (fun s => by simp only [Gv.lk_see, Gv.lk_first, Gv.lk_last])) | skip
      all_goals (refine done _ _ _ ?_; repeat' split)
      all_goals first | rfl | (exfalso; omega) | (exfalso; simp_all; done) | (exfalso; simp_all; omega)
    · cases hx
def lastBP  (k : Nat) : Prim Rs := fun args hh => match args, hh with
  | [.pointer (some ⟨0, 0, none⟩), .agg ⟨xN⟩, .agg ⟨pP⟩, .int .i64 f_, .func (.func 46) ⟨[]⟩ ⟨[.pointer (some ⟨1, 0, none⟩)]⟩], [some (.inl (71, [.pointer (some ⟨2, 0, none⟩), .int .i64 ti, .int .i64 tg])), some (.inl (3, [.int .i64 xx])), some (.inr (.inr (.inr (.pool m))))] => some ⟨xN = ndL (ndOf xN) ∧ pP = ptL (ptOf pP) ∧ (PP m ∧ Gv.DeepN Wv.O8 k m (ndOf xN)), .int .i64 (Gv.last Wv.O8 (mayB xx) k m (ndOf xN) (ptOf pP) f_).1, none, [some (.inl (71, [.pointer (some ⟨2, 0, none⟩), .int .i64 ti, .int .i64 tg])), some (.inl (3, [.int .i64 xx])), some (.inr (.inr (.inr (.pool (Gv.last Wv.O8 (mayB xx) k m (ndOf xN) (ptOf pP) f_).2))))], [], [(0, 0)]⟩
  | _, _ => none
def TLastB (k : Nat) : Tab Rs := [(1000000000, wrapCon), (46, liftC zN 2 (con1 mayBP)), (36, liftC zN 2 (con1 lookP)), (42, liftC zN 2 (con1 oneP)), (50, liftC zN 2 (con1 plusP)), (47, liftC zN 2 (con1 (lastBP k)))]
theorem lastB_ok : ∀ k : Nat, ConOk D Try.prog 47 (con1 (lastBP k))
  | 0 => by
    refine con1_ok (prim_at (fn := Try.f47) (root := codeOf Try.f47) (by kernel_rfl) (by kernel_rfl) (by kernel_rfl) fun args hh x hx => ?_)
    unfold lastBP at hx
    split at hx
    · rename_i xN pP f_ ti tg xx m
      injection hx with hx
      subst hx
      refine ⟨by first | exact Nat.le_refl _ | exact Nat.zero_le _ | exact Nat.le_succ _, noLit rfl, (fun hw => by first | rfl | cases hw), fun _ hv => ?_⟩
      exact False.elim (And.right (And.right (And.right hv)))
    · cases hx
  | k + 1 => by
    have ih := lastB_ok k
    refine con1_ok (prim_at (fn := Try.f47) (root := codeOf Try.f47) (by kernel_rfl) (by kernel_rfl) (by kernel_rfl) fun args hh x hx => ?_)
    unfold lastBP at hx
    split at hx
    · rename_i xN pP f_ ti tg xx m
      injection hx with hx
      subst hx
      refine ⟨by first | exact Nat.le_refl _ | exact Nat.zero_le _ | exact Nat.le_succ _, noLit rfl, (fun hw => by first | rfl | cases hw), fun _ hv => ?_⟩
      obtain ⟨hq0, hq1, hv⟩ := hv; generalize ndOf xN = xn at *; subst hq0; generalize ptOf pP = pp at *; subst hq1; obtain ⟨hp, hd⟩ := hv
      generalize hG : Rx.Ends (R := Rs) _ _ = G
      refine rx_ok (T := (TLastB k)) (show TabOk D Try.prog (TLastB k) from ⟨wrapCon_ok, liftC_ok _ _ mayB_ok, liftC_ok _ _ look_ok, liftC_ok _ _ one_ok, liftC_ok _ _ plus_ok, liftC_ok _ _ ih, trivial⟩) mixed 200 ?_
      refine as_text (q := let zz8 := Value.int IntKind.i64; let zz1 := (IntKind.wrap IntKind.i64 (Gv.Part.n pp + Gv.Part.n (Gv.Node.all xn)) ≤ f_); let zz2 := (Gv.lk Wv.O8 m (Gv.Node.l xn)); let zz3 := (Gv.plusP Wv.O8 pp (Gv.Node.all zz2)); let zz4 := (Gv.one Wv.O8 (Gv.Node.e xn)); let zz5 := (Gv.lk Wv.O8 (Gv.see m (Gv.Node.l xn)) (Gv.Node.r xn)); let zz6 := (Gv.see (Gv.see m (Gv.Node.l xn)) (Gv.Node.r xn)); let zz7 := (Gv.last Wv.O8 (mayB xx) k zz6 zz5 (Gv.plusP Wv.O8 zz3 zz4) f_); ((Gv.Node.h xn == (0 : Int)) = false → (decide (Gv.Part.n pp ≥ f_) = true → Post (G (zz8 (-1 : Int)) [trB 2 ti tg, some (Sum.inl (3, [zz8 xx])), oP m, some (Sum.inl (67, (ndL xn))), some (Sum.inl (63, (ptL pp)))])) ∧ (decide (Gv.Part.n pp ≥ f_) = false → Vc True ∧ (decide zz1 = true → Vc ((smL (Gv.Part.sum pp)) = smL (Gv.Part.sum pp) ∧ (smL (Gv.Part.sum (Gv.Node.all xn))) = smL (Gv.Part.sum (Gv.Node.all xn))) ∧ ((!mayB xx (Gv.Part.sum pp) (Gv.Part.sum (Gv.Node.all xn))) = true → Post (G (zz8 (-1 : Int)) [trB 2 ti tg, some (Sum.inl (3, [zz8 xx])), oP m, some (Sum.inl (67, (ndL xn))), some (Sum.inl (63, (ptL pp)))])) ∧ ((!mayB xx (Gv.Part.sum pp) (Gv.Part.sum (Gv.Node.all xn))) = false → Vc (PP m) ∧ Vc ((ptL pp) = ptL pp ∧ (ptL (Gv.Node.all zz2)) = ptL (Gv.Node.all zz2) ∧ True) ∧ Vc ((elL (Gv.Node.e xn)) = elL (Gv.Node.e xn) ∧ True) ∧ Vc (PP (Gv.see m (Gv.Node.l xn))) ∧ Vc ((ptL zz3) = ptL zz3 ∧ (ptL zz4) = ptL zz4 ∧ True) ∧ Vc ((ndL zz5) = ndL zz5 ∧ (ptL (Gv.plusP Wv.O8 zz3 zz4)) = ptL (Gv.plusP Wv.O8 zz3 zz4) ∧ PP zz6 ∧ Gv.DeepN Wv.O8 k zz6 zz5) ∧ (decide (Prod.fst zz7 ≥ (0 : Int)) = true → Post (G (zz8 (Prod.fst zz7)) [trB 2 ti tg, some (Sum.inl (3, [zz8 xx])), oP (Prod.snd zz7), some (Sum.inl (67, (ndL xn))), some (Sum.inl (63, (ptL pp))), some (Sum.inl (67, (ndL zz2))), some (Sum.inl (63, (ptL zz3))), some (Sum.inl (63, (ptL zz4)))])) ∧ (decide (Prod.fst zz7 ≥ (0 : Int)) = false → (decide (Gv.Part.n zz3 < f_) = true → Vc ((smL (Gv.Part.sum zz3)) = smL (Gv.Part.sum zz3) ∧ (smL (Gv.Part.sum zz4)) = smL (Gv.Part.sum zz4)) ∧ (mayB xx (Gv.Part.sum zz3) (Gv.Part.sum zz4) = true → Post (G (zz8 (Gv.Part.n zz3)) [trB 2 ti tg, some (Sum.inl (3, [zz8 xx])), oP (Prod.snd zz7), some (Sum.inl (67, (ndL xn))), some (Sum.inl (63, (ptL pp))), some (Sum.inl (67, (ndL zz2))), some (Sum.inl (63, (ptL zz3))), some (Sum.inl (63, (ptL zz4)))])) ∧ (mayB xx (Gv.Part.sum zz3) (Gv.Part.sum zz4) = false → Vc ((ndL zz2) = ndL zz2 ∧ (ptL pp) = ptL pp ∧ PP (Prod.snd zz7) ∧ Gv.DeepN Wv.O8 k (Prod.snd zz7) zz2) ∧ Post (G (zz8 (Prod.fst (Gv.last Wv.O8 (mayB xx) k (Prod.snd zz7) zz2 pp f_))) [trB 2 ti tg, some (Sum.inl (3, [zz8 xx])), oP (Prod.snd (Gv.last Wv.O8 (mayB xx) k (Prod.snd zz7) zz2 pp f_)), some (Sum.inl (67, (ndL xn))), some (Sum.inl (63, (ptL pp))), some (Sum.inl (67, (ndL zz2))), some (Sum.inl (63, (ptL zz3))), some (Sum.inl (63, (ptL zz4)))]))) ∧ (decide (Gv.Part.n zz3 < f_) = false → Vc ((ndL zz2) = ndL zz2 ∧ (ptL pp) = ptL pp ∧ PP (Prod.snd zz7) ∧ Gv.DeepN Wv.O8 k (Prod.snd zz7) zz2) ∧ Post (G (zz8 (Prod.fst (Gv.last Wv.O8 (mayB xx) k (Prod.snd zz7) zz2 pp f_))) [trB 2 ti tg, some (Sum.inl (3, [zz8 xx])), oP (Prod.snd (Gv.last Wv.O8 (mayB xx) k (Prod.snd zz7) zz2 pp f_)), some (Sum.inl (67, (ndL xn))), some (Sum.inl (63, (ptL pp))), some (Sum.inl (67, (ndL zz2))), some (Sum.inl (63, (ptL zz3))), some (Sum.inl (63, (ptL zz4)))]))))) ∧ (decide zz1 = false → Vc (PP m) ∧ Vc ((ptL pp) = ptL pp ∧ (ptL (Gv.Node.all zz2)) = ptL (Gv.Node.all zz2) ∧ True) ∧ Vc ((elL (Gv.Node.e xn)) = elL (Gv.Node.e xn) ∧ True) ∧ Vc (PP (Gv.see m (Gv.Node.l xn))) ∧ Vc ((ptL zz3) = ptL zz3 ∧ (ptL zz4) = ptL zz4 ∧ True) ∧ Vc ((ndL zz5) = ndL zz5 ∧ (ptL (Gv.plusP Wv.O8 zz3 zz4)) = ptL (Gv.plusP Wv.O8 zz3 zz4) ∧ PP zz6 ∧ Gv.DeepN Wv.O8 k zz6 zz5) ∧ (decide (Prod.fst zz7 ≥ (0 : Int)) = true → Post (G (zz8 (Prod.fst zz7)) [trB 2 ti tg, some (Sum.inl (3, [zz8 xx])), oP (Prod.snd zz7), some (Sum.inl (67, (ndL xn))), some (Sum.inl (63, (ptL pp))), some (Sum.inl (67, (ndL zz2))), some (Sum.inl (63, (ptL zz3))), some (Sum.inl (63, (ptL zz4)))])) ∧ (decide (Prod.fst zz7 ≥ (0 : Int)) = false → (decide (Gv.Part.n zz3 < f_) = true → Vc ((smL (Gv.Part.sum zz3)) = smL (Gv.Part.sum zz3) ∧ (smL (Gv.Part.sum zz4)) = smL (Gv.Part.sum zz4)) ∧ (mayB xx (Gv.Part.sum zz3) (Gv.Part.sum zz4) = true → Post (G (zz8 (Gv.Part.n zz3)) [trB 2 ti tg, some (Sum.inl (3, [zz8 xx])), oP (Prod.snd zz7), some (Sum.inl (67, (ndL xn))), some (Sum.inl (63, (ptL pp))), some (Sum.inl (67, (ndL zz2))), some (Sum.inl (63, (ptL zz3))), some (Sum.inl (63, (ptL zz4)))])) ∧ (mayB xx (Gv.Part.sum zz3) (Gv.Part.sum zz4) = false → Vc ((ndL zz2) = ndL zz2 ∧ (ptL pp) = ptL pp ∧ PP (Prod.snd zz7) ∧ Gv.DeepN Wv.O8 k (Prod.snd zz7) zz2) ∧ Post (G (zz8 (Prod.fst (Gv.last Wv.O8 (mayB xx) k (Prod.snd zz7) zz2 pp f_))) [trB 2 ti tg, some (Sum.inl (3, [zz8 xx])), oP (Prod.snd (Gv.last Wv.O8 (mayB xx) k (Prod.snd zz7) zz2 pp f_)), some (Sum.inl (67, (ndL xn))), some (Sum.inl (63, (ptL pp))), some (Sum.inl (67, (ndL zz2))), some (Sum.inl (63, (ptL zz3))), some (Sum.inl (63, (ptL zz4)))]))) ∧ (decide (Gv.Part.n zz3 < f_) = false → Vc ((ndL zz2) = ndL zz2 ∧ (ptL pp) = ptL pp ∧ PP (Prod.snd zz7) ∧ Gv.DeepN Wv.O8 k (Prod.snd zz7) zz2) ∧ Post (G (zz8 (Prod.fst (Gv.last Wv.O8 (mayB xx) k (Prod.snd zz7) zz2 pp f_))) [trB 2 ti tg, some (Sum.inl (3, [zz8 xx])), oP (Prod.snd (Gv.last Wv.O8 (mayB xx) k (Prod.snd zz7) zz2 pp f_)), some (Sum.inl (67, (ndL xn))), some (Sum.inl (63, (ptL pp))), some (Sum.inl (67, (ndL zz2))), some (Sum.inl (63, (ptL zz3))), some (Sum.inl (63, (ptL zz4)))])))))) ∧ ((Gv.Node.h xn == (0 : Int)) = true → Post (G (zz8 (-1 : Int)) [trB 2 ti tg, some (Sum.inl (3, [zz8 xx])), oP m, some (Sum.inl (67, (ndL xn))), some (Sum.inl (63, (ptL pp)))]))) ?_ (by kernel_rfl)
      intro zz8 zz1 zz2 zz3 zz4 zz5 zz6 zz7; subst zz7 zz6 zz5 zz4 zz3 zz2 zz1 zz8
      simp only [Gv.DeepN] at hd
      have e1 : ∀ e, (Gv.one Wv.O8 e).sum = Wv.O8.sum e := fun _ => rfl
      have done : ∀ (i : Int) (m' : Pl) (rest : Hp Rs), Gv.last Wv.O8 (mayB xx) (k + 1) m xn pp f_ = (i, m') → G (.int .i64 i) ([some (.inl (71, [.pointer (some ⟨2, 0, none⟩), .int .i64 ti, .int .i64 tg])), some (.inl (3, [.int .i64 xx])), some (.inr (.inr (.inr (.pool m'))))] ++ rest) := by
        intro i m' rest e
        subst hG
        refine ⟨[0, 1, 2], ?_, rfl, ⟨.inl rfl, .inl rfl, ?_, trivial⟩, rfl, rfl, rfl, rfl⟩
        · simp only [e]; rfl
        · simp only [e]; rfl
      clear hG
      rw [Gv.last] at done
      dsimp only [Gv.W] at done
      simp only [e1]
      repeat' (first | apply And.intro | apply Vc.mk | apply fits.mk | intro h | apply Post.mk)
      all_goals (try simp only [decide_eq_true_eq, decide_eq_false_iff_not, Nat.zero_add, ge_iff_le, Int.not_le, Int.not_lt, Int.toNat_natCast, beq_iff_eq, beq_eq_false_iff_ne, bne_iff_ne, bne_eq_false_iff_eq, Bool.not_eq_true', Bool.not_eq_false'] at *)
      all_goals first | contradiction | omega | (apply congrArg Value.bool; assumption) | exact congrArg Value.bool (decide_eq_true (by assumption)) | exact congrArg Value.bool (decide_eq_false (Int.not_lt.mpr (by assumption))) | exact ⟨rfl, by omega⟩ | exact rfl | (simp [*, -List.getD_eq_getElem?_getD]; done) | skip
      all_goals first | assumption | (simp only [Gv.see_ok, Gv.put1_ok, Gv.setN_ok, Gv.tie_ok, Gv.turnL_ok, Gv.turnR_ok, Gv.level_ok, Gv.replace_ok, Gv.hang_ok, Gv.link_ok, Gv.pickF_ok, Gv.glue_ok, Gv.pick_ok, Gv.cutF_ok, Gv.gather_ok, Gv.between_ok, Gv.first_ok, Gv.last_ok]; assumption) | skip
      all_goals first | exact Gv.DeepN_of (hd.resolve_left (by omega)).1 (fun s => by simp only [Gv.lk_see, Gv.lk_first, Gv.lk_last]) | (simp only [Gv.lk_first, Gv.lk_last, Gv.lk_see]; first | exact Gv.DeepN_of (hd.resolve_left (by omega)).2 (fun s => by simp only [Gv.lk_see, Gv.lk_first, Gv.lk_last]) | exact Gv.DeepN_of (hd.resolve_left (by omega)).1 (fun s => by simp only [Gv.lk_see, Gv.lk_first, Gv.lk_last])) | skip
      all_goals (refine done _ _ _ ?_; repeat' split)
      all_goals first | rfl | (exfalso; omega) | (exfalso; simp_all; done) | (exfalso; simp_all; omega)
    · cases hx
end Go.Proofs.Ytdgglimfjfedaaa.G8
