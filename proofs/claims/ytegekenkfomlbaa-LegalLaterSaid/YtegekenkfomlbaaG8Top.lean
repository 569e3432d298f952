/- grove: a pool of nodes of marks: its calls, first part. -/
import Derived.Test.YtegekenkfomlbaaG8Bet
import Derived.Test.YtegekenkfomlbaaGvTop
namespace Go.Proofs.Ytegekenkfomlbaa.G8
open Go.Proofs.Ytegekenkfomlbaa.Rx
set_option linter.unusedVariables false
set_option linter.unusedSimpArgs false
set_option maxRecDepth 100000
set_option maxHeartbeats 16000000
def TNew : Tab Rs := [(41, liftC zN 2 (con1 newP))]
theorem TNew_ok : TabOk D Try.prog TNew := ⟨liftC_ok _ _ new_ok, trivial⟩
def gnewP : Prim Rs := fun args hh => match args, hh with
  | [.int .i64 c], [] => some ⟨True, .pointer (some ⟨0, 0, none⟩), none, [some (.inl (76, [.pointer (some ⟨1, 0, none⟩), .int .i64 Gv.r0.i, .int .i64 Gv.r0.g])), some (.inr (.inr (.inr (.pool ⟨[], [], [], [], 0, min (max c 0) 16777216, 0⟩))))], [], [(0, 0)]⟩
  | _, _ => none
theorem gnew_ok : ConOk D Try.prog 34 (con1 gnewP) := by
  refine con1_ok (prim_at (fn := Try.f34) (root := codeOf Try.f34) (by kernel_rfl) (by kernel_rfl) (by kernel_rfl) fun args hh x hx => ?_)
  unfold gnewP at hx
  split at hx
  · rename_i c
    injection hx with hx
    subst hx
    refine ⟨by first | exact Nat.le_refl _ | exact Nat.zero_le _ | exact Nat.le_succ _ | exact Nat.le_add_left 1 3 | exact Nat.le_add_left 2 2 | exact Nat.le_add_left 1 2, noLit rfl, (fun hw => by first | rfl | cases hw), fun _ hv => ?_⟩
    generalize hG : Rx.Ends (R := Rs) _ _ = G
    refine rx_ok (T := TNew) TNew_ok mixed 200 ?_
    refine as_text (q := Vc True ∧ Post (G (Value.pointer (some (Addr.mk 1 0 none))) [oP (Gv.PM.mk [] [] [] [] (0 : Int) (min (max c (0 : Int)) (16777216 : Int)) (0 : Int)), trB 0 0 0])) ?_ (by kernel_rfl)
    subst hG
    repeat' (first | apply And.intro | apply Vc.mk | apply fits.mk | intro h | apply Post.mk)
    all_goals (try simp only [decide_eq_true_eq, decide_eq_false_iff_not, Nat.zero_add, ge_iff_le, Int.not_le, Int.not_lt, Int.toNat_natCast, beq_iff_eq, beq_eq_false_iff_ne, bne_iff_ne, bne_eq_false_iff_eq, Bool.not_eq_true', Bool.not_eq_false'] at *)
    all_goals first | contradiction | omega | (apply congrArg Value.bool; assumption) | exact congrArg Value.bool (decide_eq_true (by assumption)) | exact congrArg Value.bool (decide_eq_false (Int.not_lt.mpr (by assumption))) | exact ⟨rfl, by omega⟩ | exact rfl | (simp [*, -List.getD_eq_getElem?_getD]; done) | skip
    exact ⟨[1, 0], rfl, rfl, ⟨.inl rfl, rfl, trivial⟩, rfl, rfl, rfl, rfl⟩
  · cases hx
def TLook1 : Tab Rs := [(33, liftC zN 2 (con1 lookP))]
theorem TLook1_ok : TabOk D Try.prog TLook1 := ⟨liftC_ok _ _ look_ok, trivial⟩
def lenP : Prim Rs := fun args hh => match args, hh with
  | [.pointer (some ⟨0, 0, none⟩)], [some (.inl (76, [.pointer (some ⟨1, 0, none⟩), .int .i64 ti, .int .i64 tg])), some (.inr (.inr (.inr (.pool m))))] => some ⟨PP m, .int .i64 (Gv.lk Wv.O8 m (⟨ti, tg⟩ : Gv.Ref)).all.n, none, [some (.inl (76, [.pointer (some ⟨1, 0, none⟩), .int .i64 ti, .int .i64 tg])), some (.inr (.inr (.inr (.pool (Gv.see m (⟨ti, tg⟩ : Gv.Ref))))))], [], [(0, 0)]⟩
  | _, _ => none
theorem len_ok : ConOk D Try.prog 20 (con1 lenP) := by
  refine con1_ok (prim_at (fn := Try.f20) (root := codeOf Try.f20) (by kernel_rfl) (by kernel_rfl) (by kernel_rfl) fun args hh x hx => ?_)
  unfold lenP at hx
  split at hx
  · rename_i ti tg m
    injection hx with hx
    subst hx
    refine ⟨by first | exact Nat.le_refl _ | exact Nat.zero_le _ | exact Nat.le_succ _ | exact Nat.le_add_left 1 3 | exact Nat.le_add_left 2 2 | exact Nat.le_add_left 1 2, noLit rfl, (fun hw => by first | rfl | cases hw), fun _ hv => ?_⟩
    generalize hG : Rx.Ends (R := Rs) _ _ = G
    refine rx_ok (T := TLook1) TLook1_ok mixed 200 ?_
    refine as_text (q := Vc (PP m) ∧ Post (G (Value.int IntKind.i64 (Gv.Part.n (Gv.Node.all (Gv.lk Wv.O8 m (Gv.Ref.mk ti tg))))) [trB 1 ti tg, oP (Gv.see m (Gv.Ref.mk ti tg))])) ?_ (by kernel_rfl)
    subst hG
    repeat' (first | apply And.intro | apply Vc.mk | apply fits.mk | intro h | apply Post.mk)
    all_goals (try simp only [decide_eq_true_eq, decide_eq_false_iff_not, Nat.zero_add, ge_iff_le, Int.not_le, Int.not_lt, Int.toNat_natCast, beq_iff_eq, beq_eq_false_iff_ne, bne_iff_ne, bne_eq_false_iff_eq, Bool.not_eq_true', Bool.not_eq_false'] at *)
    all_goals first | contradiction | omega | (apply congrArg Value.bool; assumption) | exact congrArg Value.bool (decide_eq_true (by assumption)) | exact congrArg Value.bool (decide_eq_false (Int.not_lt.mpr (by assumption))) | exact ⟨rfl, by omega⟩ | exact rfl | (simp [*, -List.getD_eq_getElem?_getD]; done) | skip
    all_goals first | assumption | (simp only [Gv.see_ok, Gv.put1_ok, Gv.setN_ok, Gv.tie_ok, Gv.turnL_ok, Gv.turnR_ok, Gv.level_ok, Gv.replace_ok, Gv.hang_ok, Gv.link_ok, Gv.pickF_ok, Gv.glue_ok, Gv.pick_ok, Gv.cutF_ok, Gv.gather_ok, Gv.between_ok, Gv.first_ok, Gv.last_ok]; assumption) | skip
    exact ⟨[0, 1], rfl, rfl, ⟨.inl rfl, rfl, trivial⟩, rfl, rfl, rfl, rfl⟩
  · cases hx
def gputP (K : Nat) : Prim Rs := fun args hh => match args, hh with
  | [.pointer (some ⟨0, 0, none⟩), .agg ⟨kE⟩], [some (.inl (76, [.pointer (some ⟨1, 0, none⟩), .int .i64 ti, .int .i64 tg])), some (.inr (.inr (.inr (.pool m))))] => some ⟨kE = elL (elOf kE) ∧ (PP m ∧ Gv.PutD Wv.O8 K m (⟨ti, tg⟩ : Gv.Ref) (elOf kE)), .bool (Gv.putF Wv.O8 K m (⟨ti, tg⟩ : Gv.Ref) (elOf kE)).1, none, [some (.inl (76, [.pointer (some ⟨1, 0, none⟩), .int .i64 (Gv.putF Wv.O8 K m (⟨ti, tg⟩ : Gv.Ref) (elOf kE)).2.1.i, .int .i64 (Gv.putF Wv.O8 K m (⟨ti, tg⟩ : Gv.Ref) (elOf kE)).2.1.g])), some (.inr (.inr (.inr (.pool (Gv.putF Wv.O8 K m (⟨ti, tg⟩ : Gv.Ref) (elOf kE)).2.2))))], [], [(0, 0)]⟩
  | _, _ => none
def TGPut (K : Nat) : Tab Rs := [(35, liftC zN 2 (con1 (replaceP K))), (37, liftC zN 2 (con1 oneP)), (36, liftC zN 2 (con1 putP)), (38, liftC zN 2 (con1 (hangP K)))]
theorem gput_ok (K : Nat) : ConOk D Try.prog 22 (con1 (gputP K)) := by
  refine con1_ok (prim_at (fn := Try.f22) (root := codeOf Try.f22) (by kernel_rfl) (by kernel_rfl) (by kernel_rfl) fun args hh x hx => ?_)
  unfold gputP at hx
  split at hx
  · rename_i kE ti tg m
    injection hx with hx
    subst hx
    refine ⟨by first | exact Nat.le_refl _ | exact Nat.zero_le _ | exact Nat.le_succ _ | exact Nat.le_add_left 1 3 | exact Nat.le_add_left 2 2 | exact Nat.le_add_left 1 2, noLit rfl, (fun hw => by first | rfl | cases hw), fun _ hv => ?_⟩
    obtain ⟨hq0, hv⟩ := hv; generalize elOf kE = ke at *; subst hq0; obtain ⟨hp, hd⟩ := hv
    generalize hG : Rx.Ends (R := Rs) _ _ = G
    refine rx_ok (T := (TGPut K)) (show TabOk D Try.prog (TGPut K) from ⟨liftC_ok _ _ (replace_ok K), liftC_ok _ _ one_ok, liftC_ok _ _ put_ok, liftC_ok _ _ (hang_ok K), trivial⟩) mixed 200 ?_
    refine as_text (q := let zz1 := (Gv.replace Wv.O8 K m (Gv.Ref.mk ti tg) ke); let zz2 := (Gv.Node.mk ke (Gv.Ref.mk (0 : Int) (0 : Int)) (Gv.Ref.mk (0 : Int) (0 : Int)) (Gv.one Wv.O8 ke) (1 : Int)); let zz3 := (Gv.put zd (Prod.snd zz1) zz2); let zz4 := (Value.bool !decide (Gv.PM.held (Prod.snd zz1) = Gv.PM.cap (Prod.snd zz1))); let zz5 := (Gv.hang Wv.O8 K zz3 (Gv.Ref.mk ti tg) (Gv.putR zd (Prod.snd zz1)) ke); Vc ((elL ke) = elL ke ∧ PP m ∧ Gv.Deep Wv.O8 K m (Gv.Ref.mk ti tg)) ∧ (Prod.fst zz1 = true → Post (G (Value.bool true) [trB 1 ti tg, oP (Prod.snd zz1), some (Sum.inl (46, (elL ke)))])) ∧ (Prod.fst zz1 = false → Vc ((elL ke) = elL ke ∧ True) ∧ Vc ((ndL (Gv.Node.mk ke (Gv.Ref.mk 0 0) (Gv.Ref.mk 0 0) (Gv.one Wv.O8 ke) 1)) = ndL zz2 ∧ PP (Prod.snd zz1)) ∧ ((!decide (Gv.PM.held (Prod.snd zz1) = Gv.PM.cap (Prod.snd zz1))) = true → Vc ((elL ke) = elL ke ∧ PP zz3 ∧ Gv.Deep Wv.O8 K zz3 (Gv.Ref.mk ti tg)) ∧ Post (G zz4 [trB 1 (Gv.Ref.i (Prod.fst zz5)) (Gv.Ref.g (Prod.fst zz5)), oP (Prod.snd zz5), some (Sum.inl (46, (elL ke))), some (Sum.inl (70, [Value.int IntKind.i64 (Gv.Ref.i (Gv.putR zd (Prod.snd zz1))), Value.int IntKind.i64 (Gv.Ref.g (Gv.putR zd (Prod.snd zz1)))]))])) ∧ ((!decide (Gv.PM.held (Prod.snd zz1) = Gv.PM.cap (Prod.snd zz1))) = false → Post (G zz4 [trB 1 ti tg, oP zz3, some (Sum.inl (46, (elL ke))), some (Sum.inl (70, [Value.int IntKind.i64 (Gv.Ref.i (Gv.putR zd (Prod.snd zz1))), Value.int IntKind.i64 (Gv.Ref.g (Gv.putR zd (Prod.snd zz1)))]))])))) ?_ (by kernel_rfl)
    intro zz1 zz2 zz3 zz4 zz5; subst zz5 zz4 zz3 zz2 zz1
    obtain ⟨hd1, hd2⟩ := hd
    have done : ∀ (b : Bool) (i g : Int) (m' : Pl) (rest : Hp Rs), Gv.putF Wv.O8 K m (⟨ti, tg⟩ : Gv.Ref) ke = (b, ⟨i, g⟩, m') → G (.bool b) ([some (.inl (76, [.pointer (some ⟨1, 0, none⟩), .int .i64 (⟨i, g⟩ : Gv.Ref).i, .int .i64 (⟨i, g⟩ : Gv.Ref).g])), some (.inr (.inr (.inr (.pool m'))))] ++ rest) := by
      intro b i g m' rest e
      subst hG
      refine ⟨[0, 1], ?_, rfl, ⟨.inl ?_, ?_, trivial⟩, rfl, rfl, rfl, rfl⟩
      · simp only [e]; rfl
      · simp only [e]; rfl
      · simp only [e]; rfl
    clear hG
    repeat' (first | apply And.intro | apply Vc.mk | apply fits.mk | intro h | apply Post.mk)
    all_goals (try simp only [decide_eq_true_eq, decide_eq_false_iff_not, Nat.zero_add, ge_iff_le, Int.not_le, Int.not_lt, Int.toNat_natCast, beq_iff_eq, beq_eq_false_iff_ne, bne_iff_ne, bne_eq_false_iff_eq, Bool.not_eq_true', Bool.not_eq_false'] at *)
    all_goals first | contradiction | omega | (apply congrArg Value.bool; assumption) | exact congrArg Value.bool (decide_eq_true (by assumption)) | exact congrArg Value.bool (decide_eq_false (Int.not_lt.mpr (by assumption))) | exact ⟨rfl, by omega⟩ | exact rfl | (simp [*, -List.getD_eq_getElem?_getD]; done) | skip
    all_goals first | assumption | (simp only [Gv.see_ok, Gv.put1_ok, Gv.setN_ok, Gv.tie_ok, Gv.turnL_ok, Gv.turnR_ok, Gv.level_ok, Gv.replace_ok, Gv.hang_ok, Gv.link_ok, Gv.pickF_ok, Gv.glue_ok, Gv.pick_ok, Gv.cutF_ok, Gv.gather_ok, Gv.between_ok, Gv.first_ok, Gv.last_ok]; assumption) | skip
    all_goals first | exact (hd2 (by assumption)).1 | exact (hd2 (by assumption)).2 | skip
    all_goals (refine done _ _ _ _ _ ?_; unfold Gv.putF; repeat' split)
    all_goals first | rfl | (exfalso; simp_all; done) | (refine Prod.ext ?_ rfl; simp [*]; done)
  · cases hx
def gbetP (K : Nat) : Prim Rs := fun args hh => match args, hh with
  | [.pointer (some ⟨0, 0, none⟩), .int .i64 x_, .int .i64 y_], [some (.inl (76, [.pointer (some ⟨1, 0, none⟩), .int .i64 ti, .int .i64 tg])), some (.inr (.inr (.inr (.pool m))))] => some ⟨PP m ∧ Gv.BetE Wv.O8 K (Gv.see m (⟨ti, tg⟩ : Gv.Ref)) (Gv.lk Wv.O8 m (⟨ti, tg⟩ : Gv.Ref)) x_ y_, .agg ⟨smL (Gv.between Wv.O8 K (Gv.see m (⟨ti, tg⟩ : Gv.Ref)) (Gv.lk Wv.O8 m (⟨ti, tg⟩ : Gv.Ref)) x_ y_).1.sum⟩, none, [some (.inl (76, [.pointer (some ⟨1, 0, none⟩), .int .i64 ti, .int .i64 tg])), some (.inr (.inr (.inr (.pool (Gv.between Wv.O8 K (Gv.see m (⟨ti, tg⟩ : Gv.Ref)) (Gv.lk Wv.O8 m (⟨ti, tg⟩ : Gv.Ref)) x_ y_).2))))], [], [(0, 0)]⟩
  | _, _ => none
def TGBet (K : Nat) : Tab Rs := [(33, liftC zN 2 (con1 lookP)), (39, liftC zN 2 (con1 (betP K)))]
theorem gbet_ok (K : Nat) : ConOk D Try.prog 24 (con1 (gbetP K)) := by
  refine con1_ok (prim_at (fn := Try.f24) (root := codeOf Try.f24) (by kernel_rfl) (by kernel_rfl) (by kernel_rfl) fun args hh x hx => ?_)
  unfold gbetP at hx
  split at hx
  · rename_i x_ y_ ti tg m
    injection hx with hx
    subst hx
    refine ⟨by first | exact Nat.le_refl _ | exact Nat.zero_le _ | exact Nat.le_succ _ | exact Nat.le_add_left 1 3 | exact Nat.le_add_left 2 2 | exact Nat.le_add_left 1 2, noLit rfl, (fun hw => by first | rfl | cases hw), fun _ hv => ?_⟩
    obtain ⟨hp, hd⟩ := hv
    generalize hG : Rx.Ends (R := Rs) _ _ = G
    refine rx_ok (T := (TGBet K)) (show TabOk D Try.prog (TGBet K) from ⟨liftC_ok _ _ look_ok, liftC_ok _ _ (bet_ok K), trivial⟩) mixed 200 ?_
    refine as_text (q := let zz1 := (Gv.lk Wv.O8 m (Gv.Ref.mk ti tg)); let zz2 := (smL (Gv.Part.sum (Prod.fst (Gv.between Wv.O8 K (Gv.see m (Gv.Ref.mk ti tg)) zz1 x_ y_)))); Vc (PP m) ∧ Vc ((ndL zz1) = ndL zz1 ∧ PP (Gv.see m (Gv.Ref.mk ti tg)) ∧ Gv.BetE Wv.O8 K (Gv.see m (Gv.Ref.mk ti tg)) zz1 x_ y_) ∧ Post (G (Value.agg (Array.mk zz2)) [trB 1 ti tg, oP (Prod.snd (Gv.between Wv.O8 K (Gv.see m (Gv.Ref.mk ti tg)) zz1 x_ y_)), some (Sum.inl (50, zz2))])) ?_ (by kernel_rfl)
    intro zz1 zz2; subst zz2 zz1
    subst hG
    repeat' (first | apply And.intro | apply Vc.mk | apply fits.mk | intro h | apply Post.mk)
    all_goals (try simp only [decide_eq_true_eq, decide_eq_false_iff_not, Nat.zero_add, ge_iff_le, Int.not_le, Int.not_lt, Int.toNat_natCast, beq_iff_eq, beq_eq_false_iff_ne, bne_iff_ne, bne_eq_false_iff_eq, Bool.not_eq_true', Bool.not_eq_false'] at *)
    all_goals first | contradiction | omega | (apply congrArg Value.bool; assumption) | exact congrArg Value.bool (decide_eq_true (by assumption)) | exact congrArg Value.bool (decide_eq_false (Int.not_lt.mpr (by assumption))) | exact ⟨rfl, by omega⟩ | exact rfl | (simp [*, -List.getD_eq_getElem?_getD]; done) | skip
    all_goals first | assumption | (simp only [Gv.see_ok, Gv.put1_ok, Gv.setN_ok, Gv.tie_ok, Gv.turnL_ok, Gv.turnR_ok, Gv.level_ok, Gv.replace_ok, Gv.hang_ok, Gv.link_ok, Gv.pickF_ok, Gv.glue_ok, Gv.pick_ok, Gv.cutF_ok, Gv.gather_ok, Gv.between_ok, Gv.first_ok, Gv.last_ok]; assumption) | skip
    exact ⟨[0, 1], rfl, rfl, ⟨.inl rfl, rfl, trivial⟩, rfl, rfl, rfl, rfl⟩
  · cases hx
theorem len_keep : KeepC [0] (con1 lenP) := by
  intro b args h x hx i hi hl
  cases b with
  | false => cases hx
  | true =>
    simp only [con1, Con.go, lenP] at hx
    split at hx
    · injection hx with hx
      subst hx
      simp only [List.mem_singleton] at hi
      subst hi
      rfl
    · cases hx
end Go.Proofs.Ytegekenkfomlbaa.G8
