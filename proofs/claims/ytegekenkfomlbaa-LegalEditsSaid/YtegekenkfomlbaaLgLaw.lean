/- legal: its laws. -/
import Derived.Test.YtegekenkfomlbaaLgFn
import Derived.Test.YtegekenkfomlbaaRxC
namespace Go.Proofs.Ytegekenkfomlbaa.Lg
open Go.RowKit Go.Proofs.Ytegekenkfomlbaa.Rx Go.Proofs.Ytegekenkfomlbaa.Wv Go.Proofs.Ytegekenkfomlbaa.Br Go.Proofs.Ytegekenkfomlbaa.G8
set_option linter.unusedVariables false
set_option linter.unusedSimpArgs false
set_option maxRecDepth 100000
set_option maxHeartbeats 8000000
theorem few_lwS {s : Ts} {p b : Int} (h : s.Few) : (lwS s p b).Few := h
theorem few_rtS {s : Ts} (h : s.Few) : (rtS s).Few := h
theorem few_mdS {s : Ts} {t : Int} (h : s.Few) : (mdS s t).Few := by unfold mdS; split <;> exact h
theorem few_mrS {s : Ts} {t : Int} (h : s.Few) : (mrS s t).Few := by unfold mrS; split <;> (try split) <;> exact h
theorem lwS_l (s : Ts) (p b : Int) : (lwS s p b).l = s.l := rfl
theorem rtS_l (s : Ts) : (rtS s).l = s.l := rfl
theorem mdS_l (s : Ts) (t : Int) : (mdS s t).l = s.l := by unfold mdS; split <;> rfl
theorem mrS_l (s : Ts) (t : Int) : (mrS s t).l = s.l := by unfold mrS; split <;> (try split) <;> rfl
theorem few_trC (l : List Mk) (h : l.length ≤ 60) {i : Nat} (hi : i ≤ l.length) : (trC l i).Few := by
  show (trC l i).n < 100000
  rw [(tc_ok l h i hi).n]
  omega
theorem vok1 {l : List Mk} (h : l.length ≤ 100) : (0 + l.length ≤ l.length ∧ True) ∧ True ∧ True ∧ l.length ≤ 100 := ⟨⟨by omega, trivial⟩, trivial, trivial, h⟩
theorem vok {l : List Mk} (h : l.length ≤ 60) : (0 + l.length ≤ l.length ∧ True) ∧ True ∧ True ∧ l.length ≤ 60 := ⟨⟨by omega, trivial⟩, trivial, trivial, h⟩
def TAk : Tab Rt := [(1000000000, rdP2), (7, liftV z0 2 (con1 treP)), (9, liftC zN 2 (con1 lowrP)), (11, liftC zN 2 (con1 rgtP)), (15, liftC zN 2 (con1 mdlP)), (18, liftC zN 2 (con1 mrvP))]
theorem TAk_ok : TabOk D2 Try.prog TAk := ⟨rdP2_ok, liftV_ok _ _ tre_ok, liftC_ok _ _ lowr_ok, liftC_ok _ _ rgt_ok, liftC_ok _ _ mdl_ok, liftC_ok _ _ mrv_ok, trivial⟩
def awkP : Prim Rt := fun args hh => match args, hh with
  | [], [] => some ⟨True, .bool true, none, hh, [], []⟩
  | _, _ => none
theorem awk_ok : ConOk D2 Try.prog 6 (con1 awkP) := by
  refine con1_ok (prim_at (fn := Try.f6) (root := codeOf Try.f6) (by kernel_rfl) (by kernel_rfl) (by kernel_rfl) fun args hh x hx => ?_)
  unfold awkP at hx
  split at hx
  · injection hx with hx
    subst hx
    refine ⟨by first | exact Nat.le_refl _ | exact Nat.zero_le _ | exact Nat.le_succ _ | exact Nat.le_add_left 1 3 | exact Nat.le_add_left 2 2 | exact Nat.le_add_left 1 2, noLit rfl, (fun hw => by first | rfl | cases hw), fun _ hv => ?_⟩
    generalize hG : Rx.Ends (R := Rt) _ _ = G
    refine rx_ok (T := TAk) TAk_ok mixed 200 ?_
    refine as_text (q := let zz5 := Value.int IntKind.i64; let zz1 := (It.mk (0 : Int) (0 : Int)); let zz2 := (rtS (trC [Mk.mk (5 : Int) true zz1 false false zz1] 1)); let zz3 := (mdS (mdS zz2 (6 : Int)) (4 : Int)); let zz4 := (lwS (mrS zz3 (5 : Int)) (0 : Int) (1 : Int)); Vc ((1 ≤ 1 ∧ True) ∧ Row.mk [zz5 0, Value.bool false, zz5 0, zz5 0, Value.bool false, Value.bool false, zz5 0, zz5 0] 1 [Col.mk [(5 : Int)] [] [], Col.mk [] [true] [], Col.mk [(0 : Int)] [] [], Col.mk [(0 : Int)] [] [], Col.mk [] [false] [], Col.mk [] [false] [], Col.mk [(0 : Int)] [] [], Col.mk [(0 : Int)] [] []] = mR [Mk.mk (5 : Int) true zz1 false false zz1] ∧ 1 = 1 ∧ 1 ≤ 60) ∧ Vc (Gv.TS.Few (trC [Mk.mk (5 : Int) true zz1 false false zz1] 1)) ∧ (true = true → Vc (Gv.TS.Few zz2) ∧ (true = true → Vc (Gv.TS.Few (mdS zz2 (6 : Int))) ∧ (true = true → Vc (Gv.TS.Few zz3) ∧ (true = true → Vc (Gv.TS.Few (mrS zz3 (5 : Int))) ∧ (true = true → Vc (Gv.TS.Few zz4) ∧ Post (G (Value.bool true) [some (Sum.inr (Sum.inl (42, Row.mk [zz5 0, Value.bool false, zz5 0, zz5 0, Value.bool false, Value.bool false, zz5 0, zz5 0] 1 [Col.mk [(5 : Int)] [] [], Col.mk [] [true] [], Col.mk [(0 : Int)] [] [], Col.mk [(0 : Int)] [] [], Col.mk [] [false] [], Col.mk [] [false] [], Col.mk [(0 : Int)] [] [], Col.mk [(0 : Int)] [] []]))), none, some (Sum.inr (Sum.inr (Sum.inr (Rt.tree (lwS zz4 (1 : Int) (1 : Int))))))])) ∧ (true = false → Post (G (Value.bool false) [some (Sum.inr (Sum.inl (42, Row.mk [zz5 0, Value.bool false, zz5 0, zz5 0, Value.bool false, Value.bool false, zz5 0, zz5 0] 1 [Col.mk [(5 : Int)] [] [], Col.mk [] [true] [], Col.mk [(0 : Int)] [] [], Col.mk [(0 : Int)] [] [], Col.mk [] [false] [], Col.mk [] [false] [], Col.mk [(0 : Int)] [] [], Col.mk [(0 : Int)] [] []]))), none, some (Sum.inr (Sum.inr (Sum.inr (Rt.tree zz4))))]))) ∧ (true = false → Post (G (Value.bool false) [some (Sum.inr (Sum.inl (42, Row.mk [zz5 0, Value.bool false, zz5 0, zz5 0, Value.bool false, Value.bool false, zz5 0, zz5 0] 1 [Col.mk [(5 : Int)] [] [], Col.mk [] [true] [], Col.mk [(0 : Int)] [] [], Col.mk [(0 : Int)] [] [], Col.mk [] [false] [], Col.mk [] [false] [], Col.mk [(0 : Int)] [] [], Col.mk [(0 : Int)] [] []]))), none, some (Sum.inr (Sum.inr (Sum.inr (Rt.tree (mrS zz3 (5 : Int))))))]))) ∧ (true = false → Post (G (Value.bool false) [some (Sum.inr (Sum.inl (42, Row.mk [zz5 0, Value.bool false, zz5 0, zz5 0, Value.bool false, Value.bool false, zz5 0, zz5 0] 1 [Col.mk [(5 : Int)] [] [], Col.mk [] [true] [], Col.mk [(0 : Int)] [] [], Col.mk [(0 : Int)] [] [], Col.mk [] [false] [], Col.mk [] [false] [], Col.mk [(0 : Int)] [] [], Col.mk [(0 : Int)] [] []]))), none, some (Sum.inr (Sum.inr (Sum.inr (Rt.tree zz3))))]))) ∧ (true = false → Post (G (Value.bool false) [some (Sum.inr (Sum.inl (42, Row.mk [zz5 0, Value.bool false, zz5 0, zz5 0, Value.bool false, Value.bool false, zz5 0, zz5 0] 1 [Col.mk [(5 : Int)] [] [], Col.mk [] [true] [], Col.mk [(0 : Int)] [] [], Col.mk [(0 : Int)] [] [], Col.mk [] [false] [], Col.mk [] [false] [], Col.mk [(0 : Int)] [] [], Col.mk [(0 : Int)] [] []]))), none, some (Sum.inr (Sum.inr (Sum.inr (Rt.tree (mdS zz2 (6 : Int))))))]))) ∧ (true = false → Post (G (Value.bool false) [some (Sum.inr (Sum.inl (42, Row.mk [zz5 0, Value.bool false, zz5 0, zz5 0, Value.bool false, Value.bool false, zz5 0, zz5 0] 1 [Col.mk [(5 : Int)] [] [], Col.mk [] [true] [], Col.mk [(0 : Int)] [] [], Col.mk [(0 : Int)] [] [], Col.mk [] [false] [], Col.mk [] [false] [], Col.mk [(0 : Int)] [] [], Col.mk [(0 : Int)] [] []]))), none, some (Sum.inr (Sum.inr (Sum.inr (Rt.tree zz2))))]))) ?_ (by kernel_rfl)
    intro zz5 zz1 zz2 zz3 zz4; subst zz4 zz3 zz2 zz1 zz5
    subst hG
    have f0 := few_trC [⟨5, true, ⟨0, 0⟩, false, false, ⟨0, 0⟩⟩] (by decide) (i := 1) (by decide)
    have f1 := few_rtS f0
    have f2 := few_mdS (t := 6) f1
    have f3 := few_mdS (t := 4) f2
    have f4 := few_mrS (t := 5) f3
    have f5 := few_lwS (p := 0) (b := 1) f4
    exact ⟨⟨⟨by decide, trivial⟩, rfl, rfl, by decide⟩, ⟨f0⟩, fun _ => ⟨⟨f1⟩, fun _ => ⟨⟨f2⟩, fun _ => ⟨⟨f3⟩, fun _ => ⟨⟨f4⟩, fun _ => ⟨⟨f5⟩, ⟨⟨[], rfl, rfl, trivial, rfl, rfl, rfl, rfl⟩⟩⟩, fun h => by cases h⟩, fun h => by cases h⟩, fun h => by cases h⟩, fun h => by cases h⟩, fun h => by cases h⟩
  · cases hx
def TL : Tab Rt := [(1000000000, rdP2), (6, liftC zN 2 (con1 awkP)), (7, liftV z0 2 (con1 treP)), (8, liftV z0 2 (con1 tmP)), (9, liftC zN 2 (con1 lowrP)), (11, liftC zN 2 (con1 rgtP)), (15, liftC zN 2 (con1 mdlP)), (18, liftC zN 2 (con1 mrvP)), (10, liftV z0 2 (con1 lwrP)), (12, liftV z0 2 (con1 legP)), (13, liftV z0 2 (con1 oofP)), (14, liftV z0 2 (con1 attP)), (16, liftV z0 2 (con1 witP)), (19, liftV z0 2 (con1 wtoP)), (17, liftC zN 2 (con1 dltP)), (20, liftC zN 2 (con1 tlenP))]
theorem TL_ok : TabOk D2 Try.prog TL := ⟨rdP2_ok, liftC_ok _ _ awk_ok, liftV_ok _ _ tre_ok, liftV_ok _ _ tm_ok, liftC_ok _ _ lowr_ok, liftC_ok _ _ rgt_ok, liftC_ok _ _ mdl_ok, liftC_ok _ _ mrv_ok, liftV_ok _ _ lwr_ok, liftV_ok _ _ leg_ok, liftV_ok _ _ oof_ok, liftV_ok _ _ att_ok, liftV_ok _ _ wit_ok, liftV_ok _ _ wto_ok, liftC_ok _ _ dlt_ok, liftC_ok _ _ tlen_ok, trivial⟩
structure Lt (m : List Mk) (s : Ts) : Prop where
  few : s.Few
  l : s.l = m
  len : m.length ≤ 60
  srt : Gv.SrtE O8 m
  leg : Leg m
theorem Lt.of {l : List Mk} (hb : l.length ≤ 60) : Lt (ofL l) (trC (ofL l) (ofL l).length) := by
  obtain ⟨h1, h2, h3⟩ := ofN_ok l l.length
  have h1 : (ofL l).length ≤ 60 := Nat.le_trans h1 hb
  refine ⟨few_trC _ h1 (Nat.le_refl _), ?_, h1, h2, h3⟩
  rw [(tc_ok (ofL l) h1 _ (Nat.le_refl _)).l]
  exact tmL_srt h2
theorem Lt.md {m : List Mk} {s : Ts} {t : Int} (h : Lt m s) : Lt m (mdS s t) := ⟨few_mdS h.few, by rw [mdS_l, h.l], h.len, h.srt, h.leg⟩
theorem Lt.mr {m : List Mk} {s : Ts} {t : Int} (h : Lt m s) : Lt m (mrS s t) := ⟨few_mrS h.few, by rw [mrS_l, h.l], h.len, h.srt, h.leg⟩
theorem Lt.rt {m : List Mk} {s : Ts} (h : Lt m s) : Lt m (rtS s) := ⟨few_rtS h.few, by rw [rtS_l, h.l], h.len, h.srt, h.leg⟩
theorem lows_run {G : Value → Hp Rt → Prop} {l : List Mk} {p b : Int} (hG : ∀ hp, G (.bool true) hp) : At D2 Try.prog (codeOf Try.f3) 1 (retK Try.prog Try.f3.results.toList G) [.inl []] ⟨someL [.slice (some ⟨0, 0, some 8000⟩) l.length 0, .int .i64 p, .int .i64 b] ++ List.replicate (Try.f3.ntmps - 3) none, [], [vM l]⟩ := by
  refine rx_ok (T := TL) TL_ok mixed 200 ?_
  refine as_text (q := let zz1 := (G (Value.bool true) [some (Sum.inr (Sum.inr (Sum.inl (mR l))))]); let zz2 := (uM (mRx l 0 (List.length l))); let zz3 := (uM (mRx (tmL zz2) 0 (List.length (tmL zz2)))); let zz4 := (lowI (Gv.TS.l (trC zz2 (List.length zz2))) p b == lowI zz3 p b); let zz5 := (lwS (trC zz2 (List.length zz2)) p b); Vc True ∧ (false = false → (decide ((↑(List.length l) : Int) > (60 : Int)) = true → Vc True ∧ Post zz1) ∧ (decide ((↑(List.length l) : Int) > (60 : Int)) = false → Vc ((0 + List.length l ≤ List.length l ∧ True) ∧ mRx l 0 (List.length l) = mR zz2 ∧ List.length l = List.length zz2 ∧ List.length zz2 ≤ 60) ∧ Vc ((0 + List.length l ≤ List.length l ∧ True) ∧ mRx l 0 (List.length l) = mR zz2 ∧ List.length l = List.length zz2 ∧ List.length zz2 ≤ 60) ∧ Vc (Gv.TS.Few (trC zz2 (List.length zz2))) ∧ Vc ((0 + List.length (tmL zz2) ≤ List.length (tmL zz2) ∧ True) ∧ mRx (tmL zz2) 0 (List.length (tmL zz2)) = mR zz3 ∧ List.length (tmL zz2) = List.length zz3 ∧ List.length zz3 ≤ 60) ∧ (zz4 = true → Vc (Gv.TS.Few zz5) ∧ Vc ((0 + List.length (tmL zz2) ≤ List.length (tmL zz2) ∧ True) ∧ mRx (tmL zz2) 0 (List.length (tmL zz2)) = mR zz3 ∧ List.length (tmL zz2) = List.length zz3 ∧ List.length zz3 ≤ 100) ∧ Post (G (Value.bool (legB (Gv.TS.l zz5) == legB zz3)) [some (Sum.inr (Sum.inr (Sum.inl (mR l)))), none, some (Sum.inr (Sum.inr (Sum.inr (Rt.tree (rtS zz5))))), none, some (Sum.inr (Sum.inl (42, mR (tmL zz2))))])) ∧ (zz4 = false → Post (G (Value.bool false) [some (Sum.inr (Sum.inr (Sum.inl (mR l)))), none, some (Sum.inr (Sum.inr (Sum.inr (Rt.tree zz5)))), none, some (Sum.inr (Sum.inl (42, mR (tmL zz2))))])))) ∧ (false = true → Vc True ∧ Post zz1)) ?_ (by kernel_rfl)
  intro zz1 zz2 zz3 zz4 zz5; subst zz5 zz4 zz3 zz2 zz1
  simp only [mRx_all, uM_mR]
  refine ⟨⟨trivial⟩, fun _ => ⟨fun h => ⟨⟨trivial⟩, ⟨hG _⟩⟩, fun h => ?_⟩, fun h => by cases h⟩
  have hb : l.length ≤ 60 := by have := of_decide_eq_false h; omega
  have hs := tc_ok l hb l.length (Nat.le_refl _)
  have few := few_trC l hb (Nat.le_refl _)
  have hL : (tmL l).length ≤ l.length := tmd_len l l.length
  have e1 : (lowI (trC l l.length).l p b == lowI (tmL l) p b) = true := by rw [hs.l]; exact beq_self_eq_true _
  have e2 : (legB (lwS (trC l l.length) p b).l == legB (tmL l)) = true := by rw [lwS_l, hs.l]; exact beq_self_eq_true _
  rw [e2]
  exact ⟨⟨vok hb⟩, ⟨vok hb⟩, ⟨few⟩, ⟨vok (Nat.le_trans hL hb)⟩, fun _ => ⟨⟨few_lwS few⟩, ⟨vok1 (by omega)⟩, ⟨hG _⟩⟩, fun h => by rw [e1] at h; cases h⟩
theorem edits_loop {G : Value → Hp Rt → Prop} {l m : List Mk} {s : Ts} (hs : Lt m s) (hG : ∀ hp, G (.bool true) hp) : At D2 Try.prog (codeOf Try.f4) 1 (retK Try.prog Try.f4.results.toList G) [.inl [1, 1, 1, 1, 1, 1]] ⟨frame [5, 6] [.slice (some ⟨1, 0, some 8000⟩) m.length 0, .pointer (some ⟨2, 0, none⟩)] 0 71, [], [vM l, oM m, oT s]⟩ := by
  refine rx_ok (T := TL) TL_ok mixed 200 ?_
  refine as_text (q := At D2 Try.prog (codeOf Try.f4) 1 (retK Try.prog (Array.toList (Func.results Try.f4)) G) [Sum.inl [1, 1, 1, 1, 1, 1, 0, 1, 0], Sum.inr (Sum.inl 0), Sum.inl [1, 1, 1, 1, 1, 1, 1]] (SS.mk [none, none, none, none, none, some (Value.slice (some (Addr.mk 1 0 (some 8000))) (List.length m) 0), some (Value.pointer (some (Addr.mk 2 0 none))), none, some (Value.int IntKind.i64 0), none, none, none, none, none, none, none, none, none, none, none, none, none, none, none, none, none, none, none, none, none, none, none, none, none, none, none, none, none, none, none, none, none, none, none, none, none, none, none, none, none, none, none, none, none, none, none, none, none, none, none, none, none, none, none, none, none, none, none, none, none, none] [] [some (Sum.inr (Sum.inr (Sum.inl (mR l)))), some (Sum.inr (Sum.inl (42, mR m))), some (Sum.inr (Sum.inr (Sum.inr (Rt.tree s))))])) ?_ (by kernel_rfl)
  refine loop_atM (by kernel_rfl) (ι := Nat × Ts) (fun q => q.1 ≤ m.length ∧ Lt m q.2) [5, 6, 8] (fun q => [.slice (some ⟨1, 0, some 8000⟩) m.length 0, .pointer (some ⟨2, 0, none⟩), .int .i64 q.1]) (fun q => [vM l, oM m, oT q.2]) (fun q => m.length - q.1) 71 (fun i hi => ⟨rfl, rfl, by simp⟩) ⟨(0, s), ⟨Nat.zero_le _, hs⟩, ⟨[0, 1, 2], rfl, ⟨rfl, ⟨_, rfl, .inl rfl⟩, rfl, trivial⟩, rfl, rfl, rfl, rfl⟩⟩ fun q hq => ?_
  obtain ⟨i, q⟩ := q
  obtain ⟨hi, hq⟩ := hq
  simp only at hi hq ⊢
  refine rx_ok (T := TL) TL_ok mixed 200 ?_
  refine as_text (q := let zz1 := (uM (mRx m 0 (List.length m))); let zz2 := (wout zz1 (Int.toNat (↑i : Int))); let zz3 := (uM (mRx zz2 0 (List.length zz2))); let zz4 := (List.getD (List.map Mk.t m) (0 + Int.toNat (↑i : Int)) (0 : Int)); (decide ((↑i : Int) < (↑(List.length m) : Int)) = true → Vc ((0 : Int) ≤ (↑i : Int) ∧ (↑i : Int) < (↑(List.length m) : Int) ∧ 0 + List.length m ≤ List.length m) ∧ Vc (0 + Int.toNat (↑i : Int) < List.length m) ∧ Vc (Gv.TS.Few q) ∧ Vc ((0 + List.length m ≤ List.length m ∧ True) ∧ mRx m 0 (List.length m) = mR zz1 ∧ List.length m = List.length zz1 ∧ List.length zz1 ≤ 100 ∧ (0 : Int) ≤ (↑i : Int) ∧ (↑i : Int) < (↑(List.length zz1) : Int)) ∧ Vc ((0 + List.length zz2 ≤ List.length zz2 ∧ True) ∧ mRx zz2 0 (List.length zz2) = mR zz3 ∧ List.length zz2 = List.length zz3 ∧ List.length zz3 ≤ 100) ∧ ((!mrB (Gv.TS.l q) zz4 == legB zz3) = true → Post (G (Value.bool false) [some (Sum.inr (Sum.inr (Sum.inl (mR l)))), some (Sum.inr (Sum.inl (42, mR m))), some (Sum.inr (Sum.inr (Sum.inr (Rt.tree (mrS q zz4))))), none, some (Sum.inr (Sum.inl (42, mR zz2)))])) ∧ ((!mrB (Gv.TS.l q) zz4 == legB zz3) = false → Vc True ∧ Post (∃ j, (Prod.fst j ≤ List.length m ∧ Lt m (Prod.snd j)) ∧ List.length m - Prod.fst j < List.length m - i ∧ FitsM Rt 1 71 [5, 6, 8] [Value.slice (some (Addr.mk 1 0 (some 8000))) (List.length m) 0, Value.pointer (some (Addr.mk 2 0 none)), Value.int IntKind.i64 (↑(Prod.fst j) : Int)] [vM l, oM m, oT (Prod.snd j)] [some (Value.slice (some (Addr.mk 1 0 (some 8000))) (List.length m) 0), some (Value.pointer (some (Addr.mk 2 0 none))), some (Value.int IntKind.i64 (IntKind.wrap IntKind.i64 ((↑i : Int) + (1 : Int))))] [some (Sum.inr (Sum.inr (Sum.inl (mR l)))), some (Sum.inr (Sum.inl (42, mR m))), some (Sum.inr (Sum.inr (Sum.inr (Rt.tree (mrS q zz4))))), none, some (Sum.inr (Sum.inl (42, mR zz2)))] 71))) ∧ (decide ((↑i : Int) < (↑(List.length m) : Int)) = false → Vc (Gv.TS.Few q) ∧ (legB (Gv.TS.l q) = true → Vc (Gv.TS.Few (rtS q)) ∧ Post (G (Value.bool ((↑(List.length (Gv.TS.l (rtS q))) : Int) == (↑(List.length m) : Int))) [some (Sum.inr (Sum.inr (Sum.inl (mR l)))), some (Sum.inr (Sum.inl (42, mR m))), some (Sum.inr (Sum.inr (Sum.inr (Rt.tree (Gv.TS.seen (rtS q))))))])) ∧ (legB (Gv.TS.l q) = false → Post (G (Value.bool false) [some (Sum.inr (Sum.inr (Sum.inl (mR l)))), some (Sum.inr (Sum.inl (42, mR m))), some (Sum.inr (Sum.inr (Sum.inr (Rt.tree (rtS q)))))])))) ?_ (by kernel_rfl)
  intro zz1 zz2 zz3 zz4; subst zz4 zz3 zz2 zz1
  simp only [mRx_all, uM_mR, Int.toNat_natCast, Nat.zero_add, gM Mk.t 0 rfl]
  have hm := hq.len
  refine ⟨fun h => ?_, fun h => ?_⟩
  · have hlt : i < m.length := by have := of_decide_eq_true h; omega
    have e1 : (!(mrB q.l (m.getD i mz).t == legB (wout m i))) = false := by rw [hq.l, mr_leg hq.srt hq.leg hlt, beq_self_eq_true]; rfl
    have hw := wout_len hlt
    have w1 : IntKind.i64.wrap ((i : Int) + 1) = (i : Int) + 1 := fits_wrap ⟨by omega, by omega⟩
    rw [w1]
    exact ⟨⟨by omega, by omega, by omega⟩, ⟨hlt⟩, ⟨hq.few⟩, ⟨⟨by omega, trivial⟩, trivial, trivial, by omega, by omega, by omega⟩, ⟨⟨Nat.le_refl _, trivial⟩, trivial, trivial, by omega⟩, fun c => (by rw [e1] at c; cases c), fun _ => ⟨⟨trivial⟩, ⟨(i + 1, mrS q (m.getD i mz).t), ⟨hlt, hq.mr⟩, by simp only; omega, ⟨[0, 1, 2], rfl, ⟨rfl, ⟨_, rfl, .inl rfl⟩, rfl, trivial⟩, rfl, rfl, rfl, rfl⟩⟩⟩⟩
  · have e0 : legB q.l = true := by rw [hq.l]; exact legB_iff.2 hq.leg
    have e1 : (((rtS q).l.length : Int) == (m.length : Int)) = true := by rw [rtS_l, hq.l]; exact beq_self_eq_true _
    rw [e1]
    exact ⟨⟨hq.few⟩, fun _ => ⟨⟨few_rtS hq.few⟩, ⟨hG _⟩⟩, fun c => (by rw [e0] at c; cases c)⟩
theorem edits_mid {G : Value → Hp Rt → Prop} {l m : List Mk} {s : Ts} {p : Int} (hs : Lt m s) (hG : ∀ hp, G (.bool true) hp) : At D2 Try.prog (codeOf Try.f4) 1 (retK Try.prog Try.f4.results.toList G) [.inl [1, 1, 1, 1]] ⟨frame [1, 5, 6] [.int .i64 p, .slice (some ⟨1, 0, some 8000⟩) m.length 0, .pointer (some ⟨2, 0, none⟩)] 0 71, [], [vM l, oM m, oT s]⟩ := by
  refine rxS_ok (T := TL) [[1, 1, 1, 1, 1, 1]] TL_ok mixed 200 ?_
  refine as_text (q := let zz9 := Value.int IntKind.i64; let zz1 := (uM (mRx m 0 (List.length m))); let zz2 := (wth zz1 (key p)); let zz3 := (uM (mRx zz2 0 (List.length zz2))); let zz4 := (Value.bool false); let zz5 := (zz9 p); let zz6 := (Value.slice (some (Addr.mk 1 0 (some 8000))) (List.length m) 0); let zz7 := (Value.pointer (some (Addr.mk 2 0 none))); let zz8 := (zz9 (atI zz1 p)); Vc ((0 + List.length m ≤ List.length m ∧ True) ∧ mRx m 0 (List.length m) = mR zz1 ∧ List.length m = List.length zz1 ∧ List.length zz1 ≤ 100) ∧ (decide (atI zz1 p < (0 : Int)) = true → Vc (Gv.TS.Few s) ∧ Vc True ∧ Vc ((0 + List.length m ≤ List.length m ∧ True) ∧ mRx m 0 (List.length m) = mR zz1 ∧ List.length m = List.length zz1 ∧ List.length zz1 ≤ 100) ∧ Vc ((0 + List.length zz2 ≤ List.length zz2 ∧ True) ∧ mRx zz2 0 (List.length zz2) = mR zz3 ∧ List.length zz2 = List.length zz3 ∧ List.length zz3 ≤ 100) ∧ ((!mdB (Gv.TS.l s) p == legB zz3) = false → Vc (Gv.TS.Few (mdS s p)) ∧ (mrB (Gv.TS.l (mdS s p)) p = true → Post (G zz4 [some (Sum.inr (Sum.inr (Sum.inl (mR l)))), some (Sum.inr (Sum.inl (42, mR m))), some (Sum.inr (Sum.inr (Sum.inr (Rt.tree (mrS (mdS s p) p))))), none, some (Sum.inr (Sum.inl (42, mR zz2)))])) ∧ (mrB (Gv.TS.l (mdS s p)) p = false → At D2 Try.prog (codeOf Try.f4) 1 (retK Try.prog (Array.toList (Func.results Try.f4)) G) [Sum.inl [1, 1, 1, 1, 1, 1]] (SS.mk [none, some zz5, none, none, none, some zz6, some zz7, some zz8, none, none, none, none, none, none, none, none, none, none, none, none, none, some zz6, some zz5, some zz8, some zz8, some (Value.bool true), some zz7, some zz5, some (Value.bool (mdB (Gv.TS.l s) p)), some zz6, some zz5, some (Value.agg (Array.mk [zz9 p, Value.bool false, zz9 0, zz9 0, Value.bool false, Value.bool false, zz9 0, zz9 0])), some (Value.slice (some (Addr.mk 4 0 (some 8000))) (List.length zz2) 0), some (Value.bool (legB zz3)), some (Value.bool !mdB (Gv.TS.l s) p == legB zz3), some zz4, some zz7, some zz5, some (Value.bool (mrB (Gv.TS.l (mdS s p)) p)), some zz4, none, none, none, none, none, none, none, none, none, none, none, none, none, none, none, none, none, none, none, none, none, none, none, none, none, none, none, none, none, none, none] [(39, false), (35, false), (25, true)] [some (Sum.inr (Sum.inr (Sum.inl (mR l)))), some (Sum.inr (Sum.inl (42, mR m))), some (Sum.inr (Sum.inr (Sum.inr (Rt.tree (mrS (mdS s p) p))))), none, some (Sum.inr (Sum.inl (42, mR zz2)))]))) ∧ ((!mdB (Gv.TS.l s) p == legB zz3) = true → Post (G zz4 [some (Sum.inr (Sum.inr (Sum.inl (mR l)))), some (Sum.inr (Sum.inl (42, mR m))), some (Sum.inr (Sum.inr (Sum.inr (Rt.tree (mdS s p))))), none, some (Sum.inr (Sum.inl (42, mR zz2)))]))) ∧ (decide (atI zz1 p < (0 : Int)) = false → Vc (Gv.TS.Few s) ∧ (mdB (Gv.TS.l s) p = true → Post (G zz4 [some (Sum.inr (Sum.inr (Sum.inl (mR l)))), some (Sum.inr (Sum.inl (42, mR m))), some (Sum.inr (Sum.inr (Sum.inr (Rt.tree (mdS s p)))))])) ∧ (mdB (Gv.TS.l s) p = false → At D2 Try.prog (codeOf Try.f4) 1 (retK Try.prog (Array.toList (Func.results Try.f4)) G) [Sum.inl [1, 1, 1, 1, 1, 1]] (SS.mk [none, some zz5, none, none, none, some zz6, some zz7, some zz8, none, none, none, none, none, none, none, none, none, none, none, none, none, some zz6, some zz5, some zz8, some zz8, some zz4, none, none, none, none, none, none, none, none, none, none, none, none, none, none, some zz7, some zz5, some zz4, none, none, none, none, none, none, none, none, none, none, none, none, none, none, none, none, none, none, none, none, none, none, none, none, none, none, none, none] [(42, false), (25, false)] [some (Sum.inr (Sum.inr (Sum.inl (mR l)))), some (Sum.inr (Sum.inl (42, mR m))), some (Sum.inr (Sum.inr (Sum.inr (Rt.tree (mdS s p)))))])))) ?_ (by kernel_rfl)
  intro zz9 zz1 zz2 zz3 zz4 zz5 zz6 zz7 zz8; subst zz8 zz7 zz6 zz5 zz4 zz3 zz2 zz1 zz9
  simp only [mRx_all, uM_mR]
  have hn := at_neg hs.srt p
  have hw := wth_len m (key p)
  have hm := hs.len
  have v1 := vok1 (l := m) (by omega)
  have v2 := vok1 (l := wth m (key p)) (by omega)
  refine ⟨⟨v1⟩, fun h => ?_, fun h => ?_⟩
  · have hh := hn.1 (of_decide_eq_true h)
    have e1 : (!(mdB s.l p == legB (wth m (key p)))) = false := by rw [hs.l, md_leg hs.leg hh, beq_self_eq_true]; rfl
    have e2 : mrB (mdS s p).l p = false := by rw [mdS_l, hs.l, mr_no hh]
    exact ⟨⟨hs.few⟩, ⟨trivial⟩, ⟨v1⟩, ⟨v2⟩, fun _ => ⟨⟨few_mdS hs.few⟩, fun c => (by rw [e2] at c; cases c), fun _ => At.fit [5, 6] [.slice (some ⟨1, 0, some 8000⟩) m.length 0, .pointer (some ⟨2, 0, none⟩)] [vM l, oM m, oT (mrS (mdS s p) p)] 71 ⟨rfl, rfl, by simp⟩ ⟨[0, 1, 2], rfl, ⟨rfl, ⟨_, rfl, .inl rfl⟩, rfl, trivial⟩, rfl, rfl, rfl, rfl⟩ (edits_loop hs.md.mr hG)⟩, fun c => (by rw [e1] at c; cases c)⟩
  · have hh : hit8 (key p) m = true := by
      cases c : hit8 (key p) m
      · exact absurd (hn.2 c) (of_decide_eq_false h)
      · rfl
    have e1 : mdB s.l p = false := by rw [hs.l]; exact md_hit hh
    exact ⟨⟨hs.few⟩, fun c => (by rw [e1] at c; cases c), fun _ => At.fit [5, 6] [.slice (some ⟨1, 0, some 8000⟩) m.length 0, .pointer (some ⟨2, 0, none⟩)] [vM l, oM m, oT (mdS s p)] 71 ⟨rfl, rfl, by simp⟩ ⟨[0, 1, 2], rfl, ⟨rfl, ⟨_, rfl, .inl rfl⟩, rfl, trivial⟩, rfl, rfl, rfl, rfl⟩ (edits_loop hs.md hG)⟩
theorem edits_run {G : Value → Hp Rt → Prop} {l : List Mk} {p : Int} (hG : ∀ hp, G (.bool true) hp) : At D2 Try.prog (codeOf Try.f4) 1 (retK Try.prog Try.f4.results.toList G) [.inl []] ⟨someL [.slice (some ⟨0, 0, some 8000⟩) l.length 0, .int .i64 p] ++ List.replicate (Try.f4.ntmps - 2) none, [], [vM l]⟩ := by
  refine rxS_ok (T := TL) [[1, 1, 1, 1]] TL_ok mixed 200 ?_
  refine as_text (q := let zz1 := (G (Value.bool true) [some (Sum.inr (Sum.inr (Sum.inl (mR l))))]); let zz2 := (uM (mRx l 0 (List.length l))); let zz3 := (uM (mRx (ofL zz2) 0 (List.length (ofL zz2)))); let zz4 := (Value.slice (some (Addr.mk 0 0 (some 8000))) (List.length l) 0); let zz5 := (Value.slice (some (Addr.mk 2 0 (some 8000))) (List.length (ofL zz2)) 0); Vc True ∧ (false = false → (decide ((↑(List.length l) : Int) > (60 : Int)) = true → Vc True ∧ Post zz1) ∧ (decide ((↑(List.length l) : Int) > (60 : Int)) = false → Vc ((0 + List.length l ≤ List.length l ∧ True) ∧ mRx l 0 (List.length l) = mR zz2 ∧ List.length l = List.length zz2 ∧ List.length zz2 ≤ 60) ∧ Vc ((0 + List.length (ofL zz2) ≤ List.length (ofL zz2) ∧ True) ∧ mRx (ofL zz2) 0 (List.length (ofL zz2)) = mR zz3 ∧ List.length (ofL zz2) = List.length zz3 ∧ List.length zz3 ≤ 60) ∧ At D2 Try.prog (codeOf Try.f4) 1 (retK Try.prog (Array.toList (Func.results Try.f4)) G) [Sum.inl [1, 1, 1, 1]] (SS.mk [some zz4, some (Value.int IntKind.i64 p), none, none, some (Value.bool false), some zz5, some (Value.pointer (some (Addr.mk 4 0 none))), none, none, some (Value.bool true), some (Value.bool false), some (Value.bool false), some zz4, some (Value.int IntKind.i64 (↑(List.length l) : Int)), some (Value.bool (decide ((↑(List.length l) : Int) > (60 : Int)))), some (Value.bool false), none, some zz4, some zz5, some zz5, some (Value.pointer (some (Addr.mk 4 0 none))), none, none, none, none, none, none, none, none, none, none, none, none, none, none, none, none, none, none, none, none, none, none, none, none, none, none, none, none, none, none, none, none, none, none, none, none, none, none, none, none, none, none, none, none, none, none, none, none, none, none] [(15, false), (11, false), (4, false)] [some (Sum.inr (Sum.inr (Sum.inl (mR l)))), none, some (Sum.inr (Sum.inl (42, mR (ofL zz2)))), none, some (Sum.inr (Sum.inr (Sum.inr (Rt.tree (trC zz3 (List.length zz3))))))]))) ∧ (false = true → Vc True ∧ Post zz1)) ?_ (by kernel_rfl)
  intro zz1 zz2 zz3 zz4 zz5; subst zz5 zz4 zz3 zz2 zz1
  simp only [mRx_all, uM_mR]
  refine ⟨⟨trivial⟩, fun _ => ⟨fun h => ⟨⟨trivial⟩, ⟨hG _⟩⟩, fun h => ?_⟩, fun h => by cases h⟩
  have hb : l.length ≤ 60 := by have := of_decide_eq_false h; omega
  have hs := Lt.of hb
  exact ⟨⟨vok hb⟩, ⟨vok hs.len⟩, At.fit [1, 5, 6] [.int .i64 p, .slice (some ⟨1, 0, some 8000⟩) (ofL l).length 0, .pointer (some ⟨2, 0, none⟩)] [vM l, oM (ofL l), oT (trC (ofL l) (ofL l).length)] 71 ⟨rfl, rfl, by simp⟩ ⟨[0, 2, 4], rfl, ⟨rfl, ⟨_, rfl, .inl rfl⟩, rfl, trivial⟩, rfl, rfl, rfl, rfl⟩ (edits_mid hs hG)⟩
theorem later_end {G : Value → Hp Rt → Prop} {l w : List Mk} {s : Ts} {p a : Int} (hs : Lt w s) (hp : mdB w p = true) (ha : mdB w a = true) (hG : ∀ hp, G (.bool true) hp) : At D2 Try.prog (codeOf Try.f5) 1 (retK Try.prog Try.f5.results.toList G) [.inl [1, 1, 1, 1, 1, 1, 1, 1]] ⟨frame [1, 9, 10] [.int .i64 p, .int .i64 a, .pointer (some ⟨1, 0, none⟩)] 0 78, [], [vM l, oT s]⟩ := by
  refine rx_ok (T := TL) TL_ok mixed 200 ?_
  refine as_text (q := Vc (Gv.TS.Few s) ∧ (legB (Gv.TS.l s) = true → Vc (Gv.TS.Few (rtS s)) ∧ (mdB (Gv.TS.l (rtS s)) p = true → Vc (Gv.TS.Few (mdS (rtS s) p)) ∧ Post (G (Value.bool (mdB (Gv.TS.l (mdS (rtS s) p)) a)) [some (Sum.inr (Sum.inr (Sum.inl (mR l)))), some (Sum.inr (Sum.inr (Sum.inr (Rt.tree (mdS (mdS (rtS s) p) a)))))])) ∧ (mdB (Gv.TS.l (rtS s)) p = false → Post (G (Value.bool false) [some (Sum.inr (Sum.inr (Sum.inl (mR l)))), some (Sum.inr (Sum.inr (Sum.inr (Rt.tree (mdS (rtS s) p)))))]))) ∧ (legB (Gv.TS.l s) = false → Post (G (Value.bool false) [some (Sum.inr (Sum.inr (Sum.inl (mR l)))), some (Sum.inr (Sum.inr (Sum.inr (Rt.tree (rtS s)))))]))) ?_ (by kernel_rfl)
  have e0 : legB s.l = true := by rw [hs.l]; exact legB_iff.2 hs.leg
  have e1 : mdB (rtS s).l p = true := by rw [rtS_l, hs.l]; exact hp
  have e2 : mdB (mdS (rtS s) p).l a = true := by rw [mdS_l, rtS_l, hs.l]; exact ha
  refine ⟨⟨hs.few⟩, fun _ => ⟨⟨few_rtS hs.few⟩, fun _ => ⟨⟨few_mdS (few_rtS hs.few)⟩, ⟨?_⟩⟩, fun c => by rw [e1] at c; cases c⟩, fun c => by rw [e0] at c; cases c⟩
  rw [e2]
  exact hG _
theorem later_cut {G : Value → Hp Rt → Prop} {l m : List Mk} {s : Ts} {p a : Int} (hs : Lt m s) (hp : mdB m p = true) (ha : mdB m a = true) (hpa : p ≤ a) (hp0 : -2305843009213693952 ≤ p) (hp1 : p ≤ 2305843009213693952) (h50 : m.length ≤ 50) (hG : ∀ hp, G (.bool true) hp) : At D2 Try.prog (codeOf Try.f5) 1 (retK Try.prog Try.f5.results.toList G) [.inl [1, 1, 1, 1, 1, 1]] ⟨frame [1, 7, 8, 9] [.int .i64 p, .slice (some ⟨1, 0, some 8000⟩) m.length 0, .pointer (some ⟨2, 0, none⟩), .int .i64 a] 0 78, [], [vM l, oM m, oT s]⟩ := by
  refine rxS_ok (T := TL) [[1, 1, 1, 1, 1, 1, 1, 1]] TL_ok mixed 200 ?_
  refine as_text (q := let zz6 := Value.int IntKind.i64; let zz1 := (uM (mRx m 0 (List.length m))); let zz2 := (IntKind.wrap IntKind.i64 (p - (1 : Int))); let zz3 := (wth zz1 (Mk.mk zz2 true (It.mk (0 : Int) (0 : Int)) false false (It.mk (0 : Int) (0 : Int)))); let zz4 := (uM (mRx zz3 0 (List.length zz3))); let zz5 := (Value.slice (some (Addr.mk 1 0 (some 8000))) (List.length m) 0); Vc (Gv.TS.Few s) ∧ ((!mdB (Gv.TS.l s) a) = false → Vc True ∧ Vc ((0 + List.length m ≤ List.length m ∧ True) ∧ mRx m 0 (List.length m) = mR zz1 ∧ List.length m = List.length zz1 ∧ List.length zz1 ≤ 100) ∧ (decide (atI zz1 zz2 ≥ (0 : Int)) = true → Vc (Gv.TS.Few (mdS s a)) ∧ Post (G (Value.bool (mdB (Gv.TS.l (mdS s a)) a)) [some (Sum.inr (Sum.inr (Sum.inl (mR l)))), some (Sum.inr (Sum.inl (42, mR m))), some (Sum.inr (Sum.inr (Sum.inr (Rt.tree (mdS (mdS s a) a)))))])) ∧ (decide (atI zz1 zz2 ≥ (0 : Int)) = false → Vc True ∧ Vc ((0 + List.length m ≤ List.length m ∧ True) ∧ mRx m 0 (List.length m) = mR zz1 ∧ List.length m = List.length zz1 ∧ List.length zz1 ≤ 100) ∧ Vc ((0 + List.length zz3 ≤ List.length zz3 ∧ True) ∧ mRx zz3 0 (List.length zz3) = mR zz4 ∧ List.length zz3 = List.length zz4 ∧ List.length zz4 ≤ 60) ∧ At D2 Try.prog (codeOf Try.f5) 1 (retK Try.prog (Array.toList (Func.results Try.f5)) G) [Sum.inl [1, 1, 1, 1, 1, 1, 1, 1]] (SS.mk [none, some (zz6 p), none, none, none, none, none, some zz5, some (Value.pointer (some (Addr.mk 2 0 none))), some (zz6 a), some (Value.pointer (some (Addr.mk 6 0 none))), none, none, none, none, none, none, none, none, none, none, none, none, none, none, none, none, none, none, none, none, none, none, none, none, none, none, none, none, none, none, none, none, none, none, some (Value.pointer (some (Addr.mk 2 0 none))), some (zz6 a), some (Value.bool (mdB (Gv.TS.l s) a)), some (Value.bool !mdB (Gv.TS.l s) a), some (Value.bool false), some zz5, some (zz6 p), some (zz6 zz2), some (zz6 (atI zz1 zz2)), some (Value.bool (decide (atI zz1 zz2 ≥ (0 : Int)))), some (Value.bool false), none, none, none, some zz5, some (zz6 p), some (zz6 zz2), some (Value.agg (Array.mk [zz6 zz2, Value.bool true, zz6 0, zz6 0])), some (Value.agg (Array.mk [zz6 zz2, Value.bool true, zz6 0, zz6 0, Value.bool false, Value.bool false, zz6 0, zz6 0])), some (Value.slice (some (Addr.mk 4 0 (some 8000))) (List.length zz3) 0), some (Value.pointer (some (Addr.mk 6 0 none))), none, none, none, none, none, none, none, none, none, none, none, none] [(55, false), (49, false)] [some (Sum.inr (Sum.inr (Sum.inl (mR l)))), some (Sum.inr (Sum.inl (42, mR m))), some (Sum.inr (Sum.inr (Sum.inr (Rt.tree (mdS s a))))), none, some (Sum.inr (Sum.inl (42, mR zz3))), none, some (Sum.inr (Sum.inr (Sum.inr (Rt.tree (trC zz4 (List.length zz4))))))]))) ∧ ((!mdB (Gv.TS.l s) a) = true → Vc (Gv.TS.Few (mdS s a)) ∧ Post (G (Value.bool (mdB (Gv.TS.l (mdS s a)) a)) [some (Sum.inr (Sum.inr (Sum.inl (mR l)))), some (Sum.inr (Sum.inl (42, mR m))), some (Sum.inr (Sum.inr (Sum.inr (Rt.tree (mdS (mdS s a) a)))))]))) ?_ (by kernel_rfl)
  intro zz6 zz1 zz2 zz3 zz4 zz5; subst zz5 zz4 zz3 zz2 zz1 zz6
  have w1 : IntKind.i64.wrap (p - 1) = p - 1 := fits_wrap ⟨by omega, by omega⟩
  have e0 : mdB s.l a = true := by rw [hs.l]; exact ha
  have e1 : mdB (mdS s a).l a = true := by rw [mdS_l, hs.l]; exact ha
  simp only [mRx_all, uM_mR, w1, e1]
  generalize hx : (⟨p - 1, true, ⟨0, 0⟩, false, false, ⟨0, 0⟩⟩ : Mk) = x
  have xt : x.t = p - 1 := by rw [← hx]
  have xi : x.ins = true := by rw [← hx]
  have hw := wth_len m x
  refine ⟨⟨hs.few⟩, fun _ => ⟨⟨trivial⟩, ⟨vok1 (by omega)⟩, fun _ => ⟨⟨few_mdS hs.few⟩, ⟨hG _⟩⟩, fun h => ?_⟩, fun _ => ⟨⟨few_mdS hs.few⟩, ⟨hG _⟩⟩⟩
  have hu : hit8 x m = false := by rw [hit_t (y := key (p - 1)) xt]; exact (at_neg hs.srt _).1 (by have := of_decide_eq_false h; omega)
  have ss := wth_srt hs.srt hu
  have lg := leg_more hs.leg xi
  have l60 : (wth m x).length ≤ 60 := by omega
  have t1 := md_more (t := p) hs.srt hs.leg xi hu (by omega) (md_nohit hp) (fun q _ h => hs.leg q h)
  have t2 := md_more (t := a) hs.srt hs.leg xi hu (by omega) (md_nohit ha) (fun q _ h => hs.leg q h)
  have hn : Lt (wth m x) (trC (wth m x) (wth m x).length) := ⟨few_trC _ l60 (Nat.le_refl _), by rw [(tc_ok _ l60 _ (Nat.le_refl _)).l]; exact tmL_srt ss, l60, ss, lg⟩
  exact ⟨⟨trivial⟩, ⟨vok1 (by omega)⟩, ⟨vok l60⟩, At.fit [1, 9, 10] [.int .i64 p, .int .i64 a, .pointer (some ⟨1, 0, none⟩)] [vM l, oT (trC (wth m x) (wth m x).length)] 78 ⟨rfl, rfl, by simp⟩ ⟨[0, 6], rfl, ⟨rfl, rfl, trivial⟩, rfl, rfl, rfl, rfl⟩ (later_end hn t1 t2 hG)⟩
theorem later_mid {G : Value → Hp Rt → Prop} {l m : List Mk} {s : Ts} {p : Int} {b : Int} (hs : Lt m s) (hb0 : 0 ≤ b) (hb16 : b < 65536) (hp0 : -2305843009213693952 ≤ p) (hp1 : p ≤ 2305843009213693952) (h50 : m.length ≤ 50) (hG : ∀ hp, G (.bool true) hp) : At D2 Try.prog (codeOf Try.f5) 1 (retK Try.prog Try.f5.results.toList G) [.inl [1, 1, 1, 1]] ⟨frame [1, 2, 7, 8] [.int .i64 p, .int .u16 b, .slice (some ⟨1, 0, some 8000⟩) m.length 0, .pointer (some ⟨2, 0, none⟩)] 0 78, [], [vM l, oM m, oT s]⟩ := by
  refine rxS_ok (T := TL) [[1, 1, 1, 1, 1, 1], [1, 1, 1, 1, 1, 1, 1, 1]] TL_ok mixed 200 ?_
  refine as_text (q := let zz4 := Value.int IntKind.i64; let zz1 := (uM (mRx m 0 (List.length m))); let zz2 := (IntKind.wrap IntKind.i64 (p + IntKind.wrap IntKind.i64 b)); let zz3 := (Value.slice (some (Addr.mk 1 0 (some 8000))) (List.length m) 0); Vc True ∧ Vc True ∧ Vc (Gv.TS.Few s) ∧ ((!mdB (Gv.TS.l s) p) = false → Vc ((0 + List.length m ≤ List.length m ∧ True) ∧ mRx m 0 (List.length m) = mR zz1 ∧ List.length m = List.length zz1 ∧ List.length zz1 ≤ 100) ∧ (decide (atI zz1 zz2 ≥ (0 : Int)) = true → Post (G (Value.bool true) [some (Sum.inr (Sum.inr (Sum.inl (mR l)))), some (Sum.inr (Sum.inl (42, mR m))), some (Sum.inr (Sum.inr (Sum.inr (Rt.tree (mdS s p)))))])) ∧ (decide (atI zz1 zz2 ≥ (0 : Int)) = false → At D2 Try.prog (codeOf Try.f5) 1 (retK Try.prog (Array.toList (Func.results Try.f5)) G) [Sum.inl [1, 1, 1, 1, 1, 1]] (SS.mk [none, some (zz4 p), some (Value.int IntKind.u16 b), none, none, none, none, some zz3, some (Value.pointer (some (Addr.mk 2 0 none))), some (zz4 zz2), none, none, none, none, none, none, none, none, none, none, none, none, none, none, none, none, none, none, none, none, none, some (zz4 p), some (Value.int IntKind.u16 b), some (zz4 (IntKind.wrap IntKind.i64 b)), some (zz4 zz2), some (Value.pointer (some (Addr.mk 2 0 none))), some (zz4 p), some (Value.bool (mdB (Gv.TS.l s) p)), some (Value.bool !mdB (Gv.TS.l s) p), some (Value.bool false), some zz3, some (zz4 zz2), some (zz4 (atI zz1 zz2)), some (Value.bool (decide (atI zz1 zz2 ≥ (0 : Int)))), some (Value.bool false), none, none, none, none, none, none, none, none, none, none, none, none, none, none, none, none, none, none, none, none, none, none, none, none, none, none, none, none, none, none, none, none, none] [(44, false), (39, false)] [some (Sum.inr (Sum.inr (Sum.inl (mR l)))), some (Sum.inr (Sum.inl (42, mR m))), some (Sum.inr (Sum.inr (Sum.inr (Rt.tree (mdS s p)))))]))) ∧ ((!mdB (Gv.TS.l s) p) = true → Post (G (Value.bool true) [some (Sum.inr (Sum.inr (Sum.inl (mR l)))), some (Sum.inr (Sum.inl (42, mR m))), some (Sum.inr (Sum.inr (Sum.inr (Rt.tree (mdS s p)))))]))) ?_ (by kernel_rfl)
  intro zz4 zz1 zz2 zz3; subst zz3 zz2 zz1 zz4
  have w1 : IntKind.i64.wrap b = b := fits_wrap ⟨by omega, by omega⟩
  have w2 : IntKind.i64.wrap (p + b) = p + b := fits_wrap ⟨by omega, by omega⟩
  simp only [mRx_all, uM_mR, w1, w2]
  refine ⟨⟨trivial⟩, ⟨trivial⟩, ⟨hs.few⟩, fun h => ⟨⟨vok1 (by omega)⟩, fun h2 => ⟨hG _⟩, fun h2 => ?_⟩, fun h => ⟨hG _⟩⟩
  have h : mdB m p = true := by rw [hs.l] at h; simpa using h
  have hu : hit8 (key (p + b)) m = false := (at_neg hs.srt _).1 (by have := of_decide_eq_false h2; omega)
  exact At.fit [1, 7, 8, 9] [.int .i64 p, .slice (some ⟨1, 0, some 8000⟩) m.length 0, .pointer (some ⟨2, 0, none⟩), .int .i64 (p + b)] [vM l, oM m, oT (mdS s p)] 78 ⟨rfl, rfl, by simp⟩ ⟨[0, 1, 2], rfl, ⟨rfl, ⟨_, rfl, .inl rfl⟩, rfl, trivial⟩, rfl, rfl, rfl, rfl⟩ (later_cut hs.md h (md_later h (by omega) hu) (by omega) hp0 hp1 h50 hG)
theorem later_run {G : Value → Hp Rt → Prop} {l : List Mk} {p : Int} {b : Int} (hb0 : 0 ≤ b) (hb16 : b < 65536) (hG : ∀ hp, G (.bool true) hp) : At D2 Try.prog (codeOf Try.f5) 1 (retK Try.prog Try.f5.results.toList G) [.inl []] ⟨someL [.slice (some ⟨0, 0, some 8000⟩) l.length 0, .int .i64 p, .int .u16 b] ++ List.replicate (Try.f5.ntmps - 3) none, [], [vM l]⟩ := by
  refine rxS_ok (T := TL) [[1, 1, 1, 1]] TL_ok mixed 200 ?_
  refine as_text (q := let zz1 := (p > (2305843009213693952 : Int)); let zz2 := (p < (-2305843009213693952 : Int)); let zz3 := (G (Value.bool true) [some (Sum.inr (Sum.inr (Sum.inl (mR l))))]); let zz4 := (uM (mRx l 0 (List.length l))); let zz5 := (uM (mRx (ofL zz4) 0 (List.length (ofL zz4)))); let zz6 := (Value.slice (some (Addr.mk 0 0 (some 8000))) (List.length l) 0); let zz7 := (Value.bool false); let zz8 := (Value.slice (some (Addr.mk 2 0 (some 8000))) (List.length (ofL zz4)) 0); let zz9 := (Value.bool (decide ((↑(List.length l) : Int) > (50 : Int)))); Vc True ∧ (false = false → (decide ((↑(List.length l) : Int) > (50 : Int)) = false → (decide zz1 = false → (decide zz2 = true → Vc True ∧ Post zz3) ∧ (decide zz2 = false → Vc ((0 + List.length l ≤ List.length l ∧ True) ∧ mRx l 0 (List.length l) = mR zz4 ∧ List.length l = List.length zz4 ∧ List.length zz4 ≤ 60) ∧ Vc ((0 + List.length (ofL zz4) ≤ List.length (ofL zz4) ∧ True) ∧ mRx (ofL zz4) 0 (List.length (ofL zz4)) = mR zz5 ∧ List.length (ofL zz4) = List.length zz5 ∧ List.length zz5 ≤ 60) ∧ At D2 Try.prog (codeOf Try.f5) 1 (retK Try.prog (Array.toList (Func.results Try.f5)) G) [Sum.inl [1, 1, 1, 1]] (SS.mk [some zz6, some (Value.int IntKind.i64 p), some (Value.int IntKind.u16 b), none, none, none, some zz7, some zz8, some (Value.pointer (some (Addr.mk 4 0 none))), none, none, some (Value.bool true), some zz7, some zz7, some zz6, some (Value.int IntKind.i64 (↑(List.length l) : Int)), some zz9, some zz9, some zz7, some (Value.int IntKind.i64 p), some (Value.bool (decide zz1)), some (Value.bool (decide zz1)), some zz7, some (Value.int IntKind.i64 p), some (Value.bool (decide zz2)), some zz7, none, some zz6, some zz8, some zz8, some (Value.pointer (some (Addr.mk 4 0 none))), none, none, none, none, none, none, none, none, none, none, none, none, none, none, none, none, none, none, none, none, none, none, none, none, none, none, none, none, none, none, none, none, none, none, none, none, none, none, none, none, none, none, none, none, none, none, none] [(25, false), (22, false), (18, false), (13, false), (6, false)] [some (Sum.inr (Sum.inr (Sum.inl (mR l)))), none, some (Sum.inr (Sum.inl (42, mR (ofL zz4)))), none, some (Sum.inr (Sum.inr (Sum.inr (Rt.tree (trC zz5 (List.length zz5))))))]))) ∧ (decide zz1 = true → Vc True ∧ Post zz3)) ∧ (decide ((↑(List.length l) : Int) > (50 : Int)) = true → Vc True ∧ Post zz3)) ∧ (false = true → Vc True ∧ Post zz3)) ?_ (by kernel_rfl)
  intro zz1 zz2 zz3 zz4 zz5 zz6 zz7 zz8 zz9; subst zz9 zz8 zz7 zz6 zz5 zz4 zz3 zz2 zz1
  simp only [mRx_all, uM_mR]
  refine ⟨⟨trivial⟩, fun _ => ⟨fun h => ⟨fun h2 => ⟨fun h3 => ⟨⟨trivial⟩, ⟨hG _⟩⟩, fun h3 => ?_⟩, fun h2 => ⟨⟨trivial⟩, ⟨hG _⟩⟩⟩, fun h => ⟨⟨trivial⟩, ⟨hG _⟩⟩⟩, fun h => by cases h⟩
  have hb : l.length ≤ 50 := by have := of_decide_eq_false h; omega
  have hp1 : p ≤ 2305843009213693952 := by have := of_decide_eq_false h2; omega
  have hp0 : -2305843009213693952 ≤ p := by have := of_decide_eq_false h3; omega
  have hs := Lt.of (l := l) (by omega)
  have hL : (ofL l).length ≤ l.length := (ofN_ok l l.length).1
  exact ⟨⟨vok (by omega)⟩, ⟨vok hs.len⟩, At.fit [1, 2, 7, 8] [.int .i64 p, .int .u16 b, .slice (some ⟨1, 0, some 8000⟩) (ofL l).length 0, .pointer (some ⟨2, 0, none⟩)] [vM l, oM (ofL l), oT (trC (ofL l) (ofL l).length)] 78 ⟨rfl, rfl, by simp⟩ ⟨[0, 2, 4], rfl, ⟨rfl, ⟨_, rfl, .inl rfl⟩, rfl, trivial⟩, rfl, rfl, rfl, rfl⟩ (later_mid hs hb0 hb16 hp0 hp1 (by omega) hG)⟩
abbrev tmM : List Value := [.int .i64 0, .bool false, .int .i64 0, .int .i64 0, .bool false, .bool false, .int .i64 0, .int .i64 0]
theorem col_i {c : Col} {n : Nat} (h : c = colI c.i) (l : c.i.length = n) : c = ⟨(List.range n).map fun i => c.i.getD i 0, [], []⟩ := by
  have e : (List.range n).map (fun i => c.i.getD i 0) = c.i := by
    subst l
    exact range_get fun i hi => by rw [List.getD_eq_getElem?_getD, List.getElem?_eq_getElem hi]; rfl
  rw [e]
  exact h
theorem col_b {c : Col} {n : Nat} (h : c = colB c.b) (l : c.b.length = n) : c = ⟨[], (List.range n).map fun i => c.b.getD i false, []⟩ := by
  have e : (List.range n).map (fun i => c.b.getD i false) = c.b := by
    subst l
    exact range_get fun i hi => by rw [List.getD_eq_getElem?_getD, List.getElem?_eq_getElem hi]; rfl
  rw [e]
  exact h
theorem rowM_of {r : Row} (hr : r.tm = tmM) (hw : wfCols tmM r.cols r.n) : ∃ l, r = mR l := by
  obtain ⟨tm, n, cols⟩ := r
  simp only at hr hw
  subst hr
  match cols, hw with
  | [a, b, c, d, e, f, g, h], hw =>
    obtain ⟨⟨a1, a2, _⟩, ⟨b1, b2⟩, ⟨c1, c2, _⟩, ⟨d1, d2, _⟩, ⟨e1, e2⟩, ⟨f1, f2⟩, ⟨g1, g2, _⟩, ⟨h1, h2, _⟩, _⟩ := hw
    refine ⟨uM ⟨tmM, n, [a, b, c, d, e, f, g, h]⟩, ?_⟩
    unfold uM mR
    simp only [List.map_map, List.length_map, List.length_range]
    refine congrArg (Row.mk tmM n) ?_
    rw [List.cons.injEq, List.cons.injEq, List.cons.injEq, List.cons.injEq, List.cons.injEq, List.cons.injEq, List.cons.injEq, List.cons.injEq]
    exact ⟨col_i a1 a2, col_b b1 b2, col_i c1 c2, col_i d1 d2, col_b e1 e2, col_b f1 f2, col_i g1 g2, col_i h1 h2, rfl⟩
theorem lows_law {x b : Int} {p : Rx.Place} {r : Row} {W : World} (hr : r.tm = tmM) (hw : wfCols tmM r.cols r.n) (hv : ViewOk W p r) :
    Calls Try.prog 3 #[ren (viewsE [(p, r)]) (.slice (some ⟨0, 0, some 8000⟩) r.n 0), .int .i64 x, .int .i64 b] W fun e W' => e = .returned (.bool true) ∧ Below W.heap.size W W' := by
  obtain ⟨l, rfl⟩ := rowM_of hr hw
  have := law_calls (D := D2) (W := W) (fn := Try.f3) (root := codeOf Try.f3) (args := [.slice (some ⟨0, 0, some 8000⟩) l.length 0, .int .i64 x, .int .i64 b]) [(p, mR l)] Try.func3 (by kernel_rfl) (by simpa using hv) rfl
    (lows_run fun _ => rfl)
  simpa [mR] using this
theorem edits_law {x : Int} {p : Rx.Place} {r : Row} {W : World} (hr : r.tm = tmM) (hw : wfCols tmM r.cols r.n) (hv : ViewOk W p r) :
    Calls Try.prog 4 #[ren (viewsE [(p, r)]) (.slice (some ⟨0, 0, some 8000⟩) r.n 0), .int .i64 x] W fun e W' => e = .returned (.bool true) ∧ Below W.heap.size W W' := by
  obtain ⟨l, rfl⟩ := rowM_of hr hw
  have := law_calls (D := D2) (W := W) (fn := Try.f4) (root := codeOf Try.f4) (args := [.slice (some ⟨0, 0, some 8000⟩) l.length 0, .int .i64 x]) [(p, mR l)] Try.func4 (by kernel_rfl) (by simpa using hv) rfl
    (edits_run fun _ => rfl)
  simpa [mR] using this
theorem later_law {x b : Int} {p : Rx.Place} {r : Row} {W : World} (hr : r.tm = tmM) (hw : wfCols tmM r.cols r.n) (hv : ViewOk W p r) (hx : (Lit.int .i64 x).wf = true) (hb : (Lit.int .u16 b).wf = true) :
    Calls Try.prog 5 #[ren (viewsE [(p, r)]) (.slice (some ⟨0, 0, some 8000⟩) r.n 0), .int .i64 x, .int .u16 b] W fun e W' => e = .returned (.bool true) ∧ Below W.heap.size W W' := by
  obtain ⟨l, rfl⟩ := rowM_of hr hw
  have hb' : 0 ≤ b ∧ b ≤ 65535 := by
    simp only [Lit.wf, Bool.and_eq_true, decide_eq_true_eq] at hb
    exact hb
  have := law_calls (D := D2) (W := W) (fn := Try.f5) (root := codeOf Try.f5) (args := [.slice (some ⟨0, 0, some 8000⟩) l.length 0, .int .i64 x, .int .u16 b]) [(p, mR l)] Try.func5 (by kernel_rfl) (by simpa using hv) rfl
    (later_run (p := x) (b := b) hb'.1 (by omega) fun _ => rfl)
  simpa [mR] using this
end Go.Proofs.Ytegekenkfomlbaa.Lg
