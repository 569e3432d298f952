/- legal: its functions, over trees of marks. -/
import Derived.Test.YtegekenkfomlbaaMtTre
import Derived.Test.YtegekenkfomlbaaLgRef
import Derived.Test.YtegekenkfomlbaaTiSmall
namespace Go.Proofs.Ytegekenkfomlbaa.Lg
open Go.Proofs.Ytegekenkfomlbaa.Rx Go.Proofs.Ytegekenkfomlbaa.Wv Go.Proofs.Ytegekenkfomlbaa.Br Go.Proofs.Ytegekenkfomlbaa.G8
set_option linter.unusedVariables false
set_option linter.unusedSimpArgs false
set_option maxRecDepth 100000
set_option maxHeartbeats 8000000
theorem sub_clp (l : List Mk) (f u : Int) : Gv.sub l f.toNat u.toNat = Gv.sub l (clp l.length f) (clp l.length u) := by
  show (l.drop f.toNat).take (u.toNat - f.toNat) = (l.drop (clp l.length f)).take (clp l.length u - clp l.length f)
  unfold clp
  rcases Nat.le_total f.toNat l.length with h | h
  · rw [Nat.min_eq_left h]
    rcases Nat.le_total u.toNat l.length with h2 | h2
    · rw [Nat.min_eq_left h2]
    · rw [Nat.min_eq_right h2, List.take_of_length_le (by rw [List.length_drop]; omega), List.take_of_length_le (by rw [List.length_drop]; omega)]
  · rw [Nat.min_eq_right h, List.drop_of_length_le h, List.drop_length, List.take_nil, List.take_nil]
theorem ahd_clp (l : List Mk) (f : Int) : (S8 (Gv.sub l 0 f.toNat)).c.s = cts l (clp l.length f) := by
  have e : Gv.sub l 0 f.toNat = l.take (clp l.length f) := by
    show (l.drop 0).take (f.toNat - 0) = _
    rw [List.drop_zero, Nat.sub_zero]
    unfold clp
    rcases Nat.le_total f.toNat l.length with h | h
    · rw [Nat.min_eq_left h]
    · rw [Nat.min_eq_right h, List.take_length, List.take_of_length_le h]
  rw [e, ahead_c]
theorem low_prog {l : List Mk} (hl : l.length ≤ 60) (f u : Int) : Ti.Td.least (S8 (Gv.sub l f.toNat u.toNat)).c (S8 (Gv.sub l 0 f.toNat)).c.s = lowI l f u := by
  have h := isLow_tide (clp_le l.length f) (clp_le l.length u)
  have e := isLow_eq h (lowI_is l f u)
  rw [sub_clp, ahd_clp, ← e]
  have hb := cts_b hl (clp_le l.length f)
  have hs : (Gv.sub l (clp l.length f) (clp l.length u)).length ≤ 60 := by
    show ((l.drop _).take _).length ≤ 60
    rw [List.length_take, List.length_drop]; omega
  have h2 : -65970697666560 ≤ (S8 (Gv.sub l (clp l.length f) (clp l.length u))).c.l ∧ (S8 (Gv.sub l (clp l.length f) (clp l.length u))).c.l ≤ 65970697666560 := Ti.lowTo_small (small_map cnt_b hs) _ (Nat.le_refl _)
  generalize (S8 (Gv.sub l (clp l.length f) (clp l.length u))).c = c at *
  unfold Ti.Td.least lstT
  split
  · rfl
  · have w : Ti.w64 (cts l (clp l.length f) + c.l) = cts l (clp l.length f) + c.l := Gv.W_of (by omega)
    rw [w]
theorem fnd2 (e : Mk) (l : List Mk) : (Gv.fndE O8 e l).2 = hit8 e l := by
  rw [← hit8_eq]
  unfold Gv.fndE
  cases Gv.hitE O8 e l <;> rfl
theorem fnd1 {e : Mk} {l : List Mk} (hs : Gv.SrtE O8 l) (h : hit8 e l = true) : (Gv.fndE O8 e l).1 = l.getD (rk8 e l) mz := by
  unfold hit8 at h
  rw [Bool.and_eq_true, decide_eq_true_eq, decide_eq_true_eq] at h
  have := Gv.srt_fnd laws8 hs h.1 ((cmp_zero _ _).2 h.2.symm)
  rw [this]
  rfl
/-- what the tree is behind each call -/
def lwS (s : Ts) (p b : Int) : Ts := (s.bet p b).bet 0 p
def rtS (s : Ts) : Ts := lwS s.seen 0 s.l.length
def mdS (s : Ts) (t : Int) : Ts := if hit8 (key t) s.l = true then s.find (key t) else lwS ((s.find (key t)).rank (key t)).seen (rk8 (key t) s.l : Int) s.l.length
def mrS (s : Ts) (t : Int) : Ts := if hit8 (key t) s.l = true then if (s.l.getD (rk8 (key t) s.l) mz).ins = true then lwS ((s.find (key t)).rank (s.l.getD (rk8 (key t) s.l) mz)).seen ((rk8 (key t) s.l + 1 : Nat) : Int) s.l.length else s.find (key t) else s.find (key t)
def somP : Prim Rt := fun args hh => match args, hh with
  | [.pointer (some ⟨0, 0, none⟩)], [some (.inr (.inr (.inr (.tree s))))] => some ⟨True, .pointer (some ⟨0, 0, none⟩), none, hh, [], []⟩
  | _, _ => none
theorem som_ok : ConOk D2 Try.prog 23 (con1 somP) := by
  refine con1_ok (prim_at (fn := Try.f23) (root := codeOf Try.f23) (by kernel_rfl) (by kernel_rfl) (by kernel_rfl) fun args hh x hx => ?_)
  unfold somP at hx
  split at hx
  · rename_i s
    injection hx with hx
    subst hx
    refine ⟨by first | exact Nat.le_refl _ | exact Nat.zero_le _ | exact Nat.le_succ _ | exact Nat.le_add_left 1 3 | exact Nat.le_add_left 2 2 | exact Nat.le_add_left 1 2, noLit rfl, (fun hw => by first | rfl | cases hw), fun _ hv => ?_⟩
    generalize hG : Rx.Ends (R := Rt) _ _ = G
    refine rx_ok (T := []) trivial mixed 200 ?_
    refine as_text (q := Post (G (Value.pointer (some (Addr.mk 0 0 none))) [some (Sum.inr (Sum.inr (Sum.inr (Rt.tree s))))])) ?_ (by kernel_rfl)
    subst hG
    exact ⟨⟨[0], rfl, rfl, ⟨rfl, trivial⟩, rfl, rfl, rfl, rfl⟩⟩
  · cases hx
def TLw : Tab Rt := [(1000000000, rdP2), (23, liftC zN 2 (con1 somP)), (24, liftC zN 2 (con1 tbetP)), (25, liftC zN 2 (con1 Ti.leastP))]
theorem TLw_ok : TabOk D2 Try.prog TLw := ⟨rdP2_ok, liftC_ok _ _ som_ok, liftC_ok _ _ tbet_ok, liftC_ok _ _ Ti.least_ok, trivial⟩
def lowrP : Prim Rt := fun args hh => match args, hh with
  | [.pointer (some ⟨0, 0, none⟩), .int .i64 p, .int .i64 b], [some (.inr (.inr (.inr (.tree s))))] => some ⟨s.Few, .int .i64 (lowI s.l p b), none, [oT (lwS s p b)], [], [(0, 0)]⟩
  | _, _ => none
theorem lowr_ok : ConOk D2 Try.prog 9 (con1 lowrP) := by
  refine con1_ok (prim_at (fn := Try.f9) (root := codeOf Try.f9) (by kernel_rfl) (by kernel_rfl) (by kernel_rfl) fun args hh x hx => ?_)
  unfold lowrP at hx
  split at hx
  · rename_i p b s
    injection hx with hx
    subst hx
    refine ⟨by first | exact Nat.le_refl _ | exact Nat.zero_le _ | exact Nat.le_succ _ | exact Nat.le_add_left 1 3 | exact Nat.le_add_left 2 2 | exact Nat.le_add_left 1 2, noLit rfl, (fun hw => by first | rfl | cases hw), fun _ hv => ?_⟩
    generalize hG : Rx.Ends (R := Rt) _ _ = G
    refine rx_ok (T := TLw) TLw_ok mixed 200 ?_
    refine as_text (q := Vc True ∧ Vc (Gv.TS.Few s) ∧ Vc (Gv.TS.Few (Gv.TS.bet s p b)) ∧ Vc True ∧ Post (G (Value.int IntKind.i64 (Ti.Td.least (Sw.c (S8 (Gv.sub (Gv.TS.l s) (Int.toNat p) (Int.toNat b)))) (Ti.Td.s (Sw.c (S8 (Gv.sub (Gv.TS.l (Gv.TS.bet s p b)) 0 (Int.toNat p))))))) [some (Sum.inr (Sum.inr (Sum.inr (Rt.tree (Gv.TS.bet (Gv.TS.bet s p b) (0 : Int) p)))))])) ?_ (by kernel_rfl)
    have e : Ti.Td.least (S8 (Gv.sub s.l p.toNat b.toNat)).c (S8 (Gv.sub (s.bet p b).l 0 p.toNat)).c.s = lowI s.l p b := low_prog (k60 s) p b
    rw [e]
    subst hG
    exact ⟨⟨trivial⟩, ⟨hv⟩, ⟨hv⟩, ⟨trivial⟩, ⟨⟨[0], rfl, rfl, ⟨rfl, trivial⟩, rfl, rfl, rfl, rfl⟩⟩⟩
  · cases hx
def TMk : Tab Rt := [(32, liftC zN 2 (con1 tfindP)), (31, liftC zN 2 (con1 keyP))]
theorem TMk_ok : TabOk D2 Try.prog TMk := ⟨liftC_ok _ _ tfind_ok, liftC_ok _ _ key_ok, trivial⟩
def mkdP : Prim Rt := fun args hh => match args, hh with
  | [.pointer (some ⟨0, 0, none⟩), .int .i64 t], [some (.inr (.inr (.inr (.tree s))))] => some ⟨s.Few, .bool (hit8 (key t) s.l), none, [oT (s.find (key t))], [], [(0, 0)]⟩
  | _, _ => none
theorem mkd_ok : ConOk D2 Try.prog 28 (con1 mkdP) := by
  refine con1_ok (prim_at (fn := Try.f28) (root := codeOf Try.f28) (by kernel_rfl) (by kernel_rfl) (by kernel_rfl) fun args hh x hx => ?_)
  unfold mkdP at hx
  split at hx
  · rename_i t s
    injection hx with hx
    subst hx
    refine ⟨by first | exact Nat.le_refl _ | exact Nat.zero_le _ | exact Nat.le_succ _ | exact Nat.le_add_left 1 3 | exact Nat.le_add_left 2 2 | exact Nat.le_add_left 1 2, noLit rfl, (fun hw => by first | rfl | cases hw), fun _ hv => ?_⟩
    generalize hG : Rx.Ends (R := Rt) _ _ = G
    refine rx_ok (T := TMk) TMk_ok mixed 200 ?_
    refine as_text (q := let zz2 := Value.int IntKind.i64; let zz1 := (Prod.fst (Gv.fndE O8 (key t) (Gv.TS.l s))); Vc True ∧ Vc (Gv.TS.Few s) ∧ Post (G (Value.bool (Prod.snd (Gv.fndE O8 (key t) (Gv.TS.l s)))) [some (Sum.inr (Sum.inr (Sum.inr (Rt.tree (Gv.TS.find s (key t)))))), some (Sum.inl (46, [zz2 (Mk.t zz1), Value.bool (Mk.ins zz1), zz2 (It.k (Mk.it zz1)), zz2 (It.i (Mk.it zz1)), Value.bool (Mk.here zz1), Value.bool (Mk.tf zz1), zz2 (It.k (Mk.tk zz1)), zz2 (It.i (Mk.tk zz1))]))])) ?_ (by kernel_rfl)
    intro zz2 zz1; subst zz1 zz2
    have e : (Gv.fndE O8 (key t) s.l).2 = hit8 (key t) s.l := fnd2 _ _
    subst hG
    rw [e]
    exact ⟨⟨trivial⟩, ⟨hv⟩, ⟨⟨[0], rfl, rfl, ⟨rfl, trivial⟩, rfl, rfl, rfl, rfl⟩⟩⟩
  · cases hx
def TSp : Tab Rt := [(9, liftC zN 2 (con1 lowrP))]
theorem TSp_ok : TabOk D2 Try.prog TSp := ⟨liftC_ok _ _ lowr_ok, trivial⟩
def sprP : Prim Rt := fun args hh => match args, hh with
  | [.pointer (some ⟨0, 0, none⟩), .int .i64 p, .int .i64 b], [some (.inr (.inr (.inr (.tree s))))] => some ⟨s.Few, .bool (decide (0 < lowI s.l p b)), none, [oT (lwS s p b)], [], [(0, 0)]⟩
  | _, _ => none
theorem spr_ok : ConOk D2 Try.prog 29 (con1 sprP) := by
  refine con1_ok (prim_at (fn := Try.f29) (root := codeOf Try.f29) (by kernel_rfl) (by kernel_rfl) (by kernel_rfl) fun args hh x hx => ?_)
  unfold sprP at hx
  split at hx
  · rename_i p b s
    injection hx with hx
    subst hx
    refine ⟨by first | exact Nat.le_refl _ | exact Nat.zero_le _ | exact Nat.le_succ _ | exact Nat.le_add_left 1 3 | exact Nat.le_add_left 2 2 | exact Nat.le_add_left 1 2, noLit rfl, (fun hw => by first | rfl | cases hw), fun _ hv => ?_⟩
    generalize hG : Rx.Ends (R := Rt) _ _ = G
    refine rx_ok (T := TSp) TSp_ok mixed 200 ?_
    refine as_text (q := Vc (Gv.TS.Few s) ∧ Post (G (Value.bool (decide (lowI (Gv.TS.l s) p b > (0 : Int)))) [some (Sum.inr (Sum.inr (Sum.inr (Rt.tree (lwS s p b)))))])) ?_ (by kernel_rfl)
    subst hG
    exact ⟨⟨hv⟩, ⟨⟨[0], rfl, rfl, ⟨rfl, trivial⟩, rfl, rfl, rfl, rfl⟩⟩⟩
  · cases hx
def TRg : Tab Rt := [(23, liftC zN 2 (con1 somP)), (20, liftC zN 2 (con1 tlenP)), (9, liftC zN 2 (con1 lowrP)), (28, liftC zN 2 (con1 mkdP)), (29, liftC zN 2 (con1 sprP)), (32, liftC zN 2 (con1 tfindP)), (30, liftC zN 2 (con1 trankP)), (31, liftC zN 2 (con1 keyP))]
theorem TRg_ok : TabOk D2 Try.prog TRg := ⟨liftC_ok _ _ som_ok, liftC_ok _ _ tlen_ok, liftC_ok _ _ lowr_ok, liftC_ok _ _ mkd_ok, liftC_ok _ _ spr_ok, liftC_ok _ _ tfind_ok, liftC_ok _ _ trank_ok, liftC_ok _ _ key_ok, trivial⟩
def rgtP : Prim Rt := fun args hh => match args, hh with
  | [.pointer (some ⟨0, 0, none⟩)], [some (.inr (.inr (.inr (.tree s))))] => some ⟨s.Few, .bool (legB s.l), none, [oT (rtS s)], [], [(0, 0)]⟩
  | _, _ => none
theorem rgt_ok : ConOk D2 Try.prog 11 (con1 rgtP) := by
  refine con1_ok (prim_at (fn := Try.f11) (root := codeOf Try.f11) (by kernel_rfl) (by kernel_rfl) (by kernel_rfl) fun args hh x hx => ?_)
  unfold rgtP at hx
  split at hx
  · rename_i s
    injection hx with hx
    subst hx
    refine ⟨by first | exact Nat.le_refl _ | exact Nat.zero_le _ | exact Nat.le_succ _ | exact Nat.le_add_left 1 3 | exact Nat.le_add_left 2 2 | exact Nat.le_add_left 1 2, noLit rfl, (fun hw => by first | rfl | cases hw), fun _ hv => ?_⟩
    generalize hG : Rx.Ends (R := Rt) _ _ = G
    refine rx_ok (T := TRg) TRg_ok mixed 200 ?_
    refine as_text (q := Vc True ∧ Vc (Gv.TS.Few s) ∧ Vc (Gv.TS.Few (Gv.TS.seen s)) ∧ Post (G (Value.bool (decide (lowI (Gv.TS.l (Gv.TS.seen s)) (0 : Int) (↑(List.length (Gv.TS.l s)) : Int) ≥ (0 : Int)))) [some (Sum.inr (Sum.inr (Sum.inr (Rt.tree (lwS (Gv.TS.seen s) (0 : Int) (↑(List.length (Gv.TS.l s)) : Int))))))])) ?_ (by kernel_rfl)
    have done : ∀ (x : Bool) (q : Ts) (rest : Hp Rt), x = legB s.l → q = rtS s → G (.bool x) (oT q :: rest) := by
      intro x q rest e e'
      subst e
      subst e'
      subst hG
      exact ⟨[0], rfl, rfl, ⟨rfl, trivial⟩, rfl, rfl, rfl, rfl⟩
    clear hG
    have hl := k60 s
    have hs := s.ok.srt
    have hr : ∀ e, rk8 e s.l ≤ s.l.length := fun e => Gv.rkE_le _ _
    have l0 : Gv.TS.l (Gv.TS.seen s) = s.l := rfl
    have l1 : ∀ e, Gv.TS.l (Gv.TS.find s e) = s.l := fun _ => rfl
    have l2 : ∀ e e', Gv.TS.l (Gv.TS.rank (Gv.TS.find s e) e') = s.l := fun _ _ => rfl
    have l3 : ∀ e e', Gv.TS.l (Gv.TS.seen (Gv.TS.rank (Gv.TS.find s e) e')) = s.l := fun _ _ => rfl
    have l4 : ∀ e, (Gv.loE O8 e s.l).length = rk8 e s.l := fun _ => rfl
    simp only [l0, l1, l2, l3, l4, fnd2]
    refine ⟨⟨trivial⟩, ⟨hv⟩, ⟨hv⟩, ⟨done _ _ _ ?_ rfl⟩⟩
    rw [Bool.eq_iff_iff, decide_eq_true_eq, legB_iff, ← low_leg]
  · cases hx
def mdlP : Prim Rt := fun args hh => match args, hh with
  | [.pointer (some ⟨0, 0, none⟩), .int .i64 t], [some (.inr (.inr (.inr (.tree s))))] => some ⟨s.Few, .bool (mdB s.l t), none, [oT (mdS s t)], [], [(0, 0)]⟩
  | _, _ => none
theorem mdl_ok : ConOk D2 Try.prog 15 (con1 mdlP) := by
  refine con1_ok (prim_at (fn := Try.f15) (root := codeOf Try.f15) (by kernel_rfl) (by kernel_rfl) (by kernel_rfl) fun args hh x hx => ?_)
  unfold mdlP at hx
  split at hx
  · rename_i t s
    injection hx with hx
    subst hx
    refine ⟨by first | exact Nat.le_refl _ | exact Nat.zero_le _ | exact Nat.le_succ _ | exact Nat.le_add_left 1 3 | exact Nat.le_add_left 2 2 | exact Nat.le_add_left 1 2, noLit rfl, (fun hw => by first | rfl | cases hw), fun _ hv => ?_⟩
    generalize hG : Rx.Ends (R := Rt) _ _ = G
    refine rx_ok (T := TRg) TRg_ok mixed 200 ?_
    refine as_text (q := let zz1 := (Gv.TS.rank (Gv.TS.find s (key t)) (key t)); let zz2 := (↑(List.length (Gv.loE O8 (key t) (Gv.TS.l (Gv.TS.find s (key t))))) : Int); Vc True ∧ Vc (Gv.TS.Few s) ∧ ((!hit8 (key t) (Gv.TS.l s)) = true → Vc True ∧ Vc (Gv.TS.Few (Gv.TS.find s (key t))) ∧ Vc (Gv.TS.Few zz1) ∧ Vc (Gv.TS.Few (Gv.TS.seen zz1)) ∧ Post (G (Value.bool (decide ((0 : Int) < lowI (Gv.TS.l (Gv.TS.seen zz1)) zz2 (↑(List.length (Gv.TS.l zz1)) : Int)))) [some (Sum.inr (Sum.inr (Sum.inr (Rt.tree (lwS (Gv.TS.seen zz1) zz2 (↑(List.length (Gv.TS.l zz1)) : Int))))))])) ∧ ((!hit8 (key t) (Gv.TS.l s)) = false → Post (G (Value.bool false) [some (Sum.inr (Sum.inr (Sum.inr (Rt.tree (Gv.TS.find s (key t))))))]))) ?_ (by kernel_rfl)
    intro zz1 zz2; subst zz2 zz1
    have done : ∀ (x : Bool) (q : Ts) (rest : Hp Rt), x = mdB s.l t → q = mdS s t → G (.bool x) (oT q :: rest) := by
      intro x q rest e e'
      subst e
      subst e'
      subst hG
      exact ⟨[0], rfl, rfl, ⟨rfl, trivial⟩, rfl, rfl, rfl, rfl⟩
    clear hG
    have hl := k60 s
    have hs := s.ok.srt
    have hr : ∀ e, rk8 e s.l ≤ s.l.length := fun e => Gv.rkE_le _ _
    have l0 : Gv.TS.l (Gv.TS.seen s) = s.l := rfl
    have l1 : ∀ e, Gv.TS.l (Gv.TS.find s e) = s.l := fun _ => rfl
    have l2 : ∀ e e', Gv.TS.l (Gv.TS.rank (Gv.TS.find s e) e') = s.l := fun _ _ => rfl
    have l3 : ∀ e e', Gv.TS.l (Gv.TS.seen (Gv.TS.rank (Gv.TS.find s e) e')) = s.l := fun _ _ => rfl
    have l4 : ∀ e, (Gv.loE O8 e s.l).length = rk8 e s.l := fun _ => rfl
    simp only [l0, l1, l2, l3, l4, fnd2]
    refine ⟨⟨trivial⟩, ⟨hv⟩, fun h => ?_, fun h => ?_⟩
    · have h : hit8 (key t) s.l = false := by simpa using h
      refine ⟨⟨trivial⟩, ⟨hv⟩, ⟨hv⟩, ⟨hv⟩, ⟨done _ _ _ ?_ ?_⟩⟩
      · unfold mdB; rw [h]; rfl
      · unfold mdS; rw [if_neg (by rw [h]; decide)]
    · have h : hit8 (key t) s.l = true := by simpa using h
      exact ⟨done _ _ _ (md_hit h).symm (by unfold mdS; rw [if_pos h])⟩
  · cases hx
def mrvP : Prim Rt := fun args hh => match args, hh with
  | [.pointer (some ⟨0, 0, none⟩), .int .i64 t], [some (.inr (.inr (.inr (.tree s))))] => some ⟨s.Few, .bool (mrB s.l t), none, [oT (mrS s t)], [], [(0, 0)]⟩
  | _, _ => none
theorem mrv_ok : ConOk D2 Try.prog 18 (con1 mrvP) := by
  refine con1_ok (prim_at (fn := Try.f18) (root := codeOf Try.f18) (by kernel_rfl) (by kernel_rfl) (by kernel_rfl) fun args hh x hx => ?_)
  unfold mrvP at hx
  split at hx
  · rename_i t s
    injection hx with hx
    subst hx
    refine ⟨by first | exact Nat.le_refl _ | exact Nat.zero_le _ | exact Nat.le_succ _ | exact Nat.le_add_left 1 3 | exact Nat.le_add_left 2 2 | exact Nat.le_add_left 1 2, noLit rfl, (fun hw => by first | rfl | cases hw), fun _ hv => ?_⟩
    generalize hG : Rx.Ends (R := Rt) _ _ = G
    refine rx_ok (T := TRg) TRg_ok mixed 200 ?_
    refine as_text (q := let zz3 := Value.int IntKind.i64; let zz1 := (Prod.fst (Gv.fndE O8 (key t) (Gv.TS.l s))); let zz2 := (Gv.TS.rank (Gv.TS.find s (key t)) zz1); Vc True ∧ Vc True ∧ Vc (Gv.TS.Few s) ∧ ((!Prod.snd (Gv.fndE O8 (key t) (Gv.TS.l s))) = true → Post (G (Value.bool false) [some (Sum.inr (Sum.inr (Sum.inr (Rt.tree (Gv.TS.find s (key t)))))), some (Sum.inl (46, [zz3 (Mk.t zz1), Value.bool (Mk.ins zz1), zz3 (It.k (Mk.it zz1)), zz3 (It.i (Mk.it zz1)), Value.bool (Mk.here zz1), Value.bool (Mk.tf zz1), zz3 (It.k (Mk.tk zz1)), zz3 (It.i (Mk.tk zz1))]))])) ∧ ((!Prod.snd (Gv.fndE O8 (key t) (Gv.TS.l s))) = false → ((!Mk.ins zz1) = false → Vc (Gv.TS.Few (Gv.TS.find s (key t))) ∧ Vc (fits ((↑(List.length (Gv.loE O8 zz1 (Gv.TS.l (Gv.TS.find s (key t))))) : Int) + (1 : Int))) ∧ Vc (Gv.TS.Few zz2) ∧ Vc (Gv.TS.Few (Gv.TS.seen zz2)) ∧ Post (G (Value.bool (decide ((0 : Int) < lowI (Gv.TS.l (Gv.TS.seen zz2)) ((↑(List.length (Gv.loE O8 zz1 (Gv.TS.l (Gv.TS.find s (key t))))) : Int) + (1 : Int)) (↑(List.length (Gv.TS.l zz2)) : Int)))) [some (Sum.inr (Sum.inr (Sum.inr (Rt.tree (lwS (Gv.TS.seen zz2) ((↑(List.length (Gv.loE O8 zz1 (Gv.TS.l (Gv.TS.find s (key t))))) : Int) + (1 : Int)) (↑(List.length (Gv.TS.l zz2)) : Int)))))), some (Sum.inl (46, [zz3 (Mk.t zz1), Value.bool (Mk.ins zz1), zz3 (It.k (Mk.it zz1)), zz3 (It.i (Mk.it zz1)), Value.bool (Mk.here zz1), Value.bool (Mk.tf zz1), zz3 (It.k (Mk.tk zz1)), zz3 (It.i (Mk.tk zz1))]))])) ∧ ((!Mk.ins zz1) = true → Post (G (Value.bool true) [some (Sum.inr (Sum.inr (Sum.inr (Rt.tree (Gv.TS.find s (key t)))))), some (Sum.inl (46, [zz3 (Mk.t zz1), Value.bool (Mk.ins zz1), zz3 (It.k (Mk.it zz1)), zz3 (It.i (Mk.it zz1)), Value.bool (Mk.here zz1), Value.bool (Mk.tf zz1), zz3 (It.k (Mk.tk zz1)), zz3 (It.i (Mk.tk zz1))]))])))) ?_ (by kernel_rfl)
    intro zz3 zz1 zz2; subst zz2 zz1 zz3
    have done : ∀ (x : Bool) (q : Ts) (rest : Hp Rt), x = mrB s.l t → q = mrS s t → G (.bool x) (oT q :: rest) := by
      intro x q rest e e'
      subst e
      subst e'
      subst hG
      exact ⟨[0], rfl, rfl, ⟨rfl, trivial⟩, rfl, rfl, rfl, rfl⟩
    clear hG
    have hl := k60 s
    have hs := s.ok.srt
    have hr : ∀ e, rk8 e s.l ≤ s.l.length := fun e => Gv.rkE_le _ _
    have l0 : Gv.TS.l (Gv.TS.seen s) = s.l := rfl
    have l1 : ∀ e, Gv.TS.l (Gv.TS.find s e) = s.l := fun _ => rfl
    have l2 : ∀ e e', Gv.TS.l (Gv.TS.rank (Gv.TS.find s e) e') = s.l := fun _ _ => rfl
    have l3 : ∀ e e', Gv.TS.l (Gv.TS.seen (Gv.TS.rank (Gv.TS.find s e) e')) = s.l := fun _ _ => rfl
    have l4 : ∀ e, (Gv.loE O8 e s.l).length = rk8 e s.l := fun _ => rfl
    simp only [l0, l1, l2, l3, l4, fnd2]
    have f1 : hit8 (key t) s.l = true → (Gv.fndE O8 (key t) s.l).1 = s.l.getD (rk8 (key t) s.l) mz := fnd1 hs
    refine ⟨⟨trivial⟩, ⟨trivial⟩, ⟨hv⟩, fun h => ?_, fun h => ?_⟩
    · have h : hit8 (key t) s.l = false := by simpa using h
      exact ⟨done _ _ _ (mr_no h).symm (by unfold mrS; rw [if_neg (by rw [h]; decide)])⟩
    · have h : hit8 (key t) s.l = true := by simpa using h
      have hrk : rk8 (s.l.getD (rk8 (key t) s.l) mz) s.l = rk8 (key t) s.l := by
        have h' := h
        unfold hit8 at h'
        rw [Bool.and_eq_true, decide_eq_true_eq, decide_eq_true_eq] at h'
        exact rk_at hs h'.1 rfl
      have hrl := hr (key t)
      simp only [f1 h, hrk]
      have done2 : ∀ (b : Bool) (q : Ts) (rest : Hp Rt), (s.l.getD (rk8 (key t) s.l) mz).ins = b → (b = false → q = s.find (key t)) → (b = true → q = lwS ((s.find (key t)).rank (s.l.getD (rk8 (key t) s.l) mz)).seen ((rk8 (key t) s.l + 1 : Nat) : Int) s.l.length) → ∀ x, (b = false → x = true) → (b = true → x = decide (0 < lowI s.l ((rk8 (key t) s.l + 1 : Nat) : Int) s.l.length)) → G (.bool x) (oT q :: rest) := by
        intro b q rest hb h1 h2 x h3 h4
        refine done _ _ _ ?_ ?_
        · unfold mrB
          rw [h, hb]
          cases b
          · rw [h3 rfl]; rfl
          · rw [h4 rfl]; rfl
        · unfold mrS
          rw [if_pos h, hb]
          cases b
          · rw [h1 rfl]; rfl
          · rw [h2 rfl]; rfl
      refine ⟨fun h2 => ⟨⟨hv⟩, ⟨by omega, by omega⟩, ⟨hv⟩, ⟨hv⟩, ⟨?_⟩⟩, fun h2 => ⟨?_⟩⟩
      · exact done2 true _ _ (by simpa using h2) (fun c => by cases c) (fun _ => rfl) _ (fun c => by cases c) (fun _ => rfl)
      · exact done2 false _ _ (by simpa using h2) (fun _ => rfl) (fun c => by cases c) _ (fun _ => rfl) (fun c => by cases c)
  · cases hx
end Go.Proofs.Ytegekenkfomlbaa.Lg
