/- bridge: its functions, over trees of marks. -/
import Derived.Test.YtdgglimfjfedaaaG8TC
import Derived.Test.YtdgglimfjfedaaaBrL
import Derived.Test.YtdgglimfjfedaaaBrRef
namespace Go.Proofs.Ytdgglimfjfedaaa.Br
open Go.Proofs.Ytdgglimfjfedaaa.Rx Go.Proofs.Ytdgglimfjfedaaa.Wv Go.Proofs.Ytdgglimfjfedaaa.G8
set_option linter.unusedVariables false
set_option linter.unusedSimpArgs false
set_option maxRecDepth 100000
set_option maxHeartbeats 8000000
/-- the tree after so many -/
def trC (l : List Mk) : Nat → Ts
  | 0 => Gv.TS.new k8 l.length
  | i + 1 => (trC l i).put (l.getD i mz)
structure TcOk (l : List Mk) (i : Nat) (s : Ts) : Prop where
  n : s.n = i
  c : s.c = l.length
  l : s.l = tmd l i
theorem TcOk.len {l : List Mk} {i : Nat} {s : Ts} (h : TcOk l i s) : s.l.length ≤ i := by rw [h.l]; exact tmd_len l i
theorem TcOk.putok {l : List Mk} {i : Nat} {s : Ts} (h : TcOk l i s) (hl : l.length ≤ 60) (hi : i < l.length) : s.PutOk (l.getD i mz) := ⟨by rw [h.n]; omega, by
  show (Gv.putE O8 (l.getD i mz) s.l).length ≤ 60
  rw [h.l]
  exact Nat.le_trans (tmd_len l (i + 1)) (by omega)⟩
theorem TcOk.putB {l : List Mk} {i : Nat} {s : Ts} (h : TcOk l i s) (hi : i < l.length) : s.putB (l.getD i mz) = true := by
  have := h.len
  unfold Gv.TS.putB
  rw [h.c, decide_eq_true (by omega), Bool.or_true]
theorem tc_ok (l : List Mk) (hl : l.length ≤ 60) : ∀ i, i ≤ l.length → TcOk l i (trC l i)
  | 0, _ => ⟨rfl, by show min (max (l.length : Int) 0) 16777216 = l.length; omega, rfl⟩
  | i + 1, h => by
    have ih := tc_ok l hl i (by omega)
    have hp := ih.putok hl (by omega)
    refine ⟨?_, ?_, ?_⟩
    · show ((trC l i).put (l.getD i mz)).n = i + 1
      rw [Gv.TS.put_n hp, ih.n]
    · show ((trC l i).put (l.getD i mz)).c = l.length
      rw [Gv.TS.put_c hp, ih.c]
    · show ((trC l i).put (l.getD i mz)).l = tmd l (i + 1)
      rw [Gv.TS.put_l hp]
      unfold Gv.TS.putL
      rw [if_pos (ih.putB (by omega)), ih.l]
      rfl
/-- ints wrap; the things' first blocks are cells -/
def rdP2 : Con Rt := ⟨fun _ _ => some true, fun _ _ => none, fun _ _ => some ⟨True, .bool false, none, [], [], []⟩⟩
theorem rdP2_ok : RdOk D2 rdP2 := by
  refine ⟨fun _ X p F w h => ?_, fun e X x p F w hx => by cases hx⟩
  obtain ⟨ρl, ftl, h1, h2, h3⟩ := h
  obtain ⟨t, cs, tl, hl⟩ : ∃ t cs tl, L2.lay X = some (.inl (t, cs)) :: tl := by cases X; exact ⟨_, _, _, rfl⟩
  obtain ⟨g1, g2, g3⟩ := (h3.at_ 0 (.inl (t, cs)) (by rw [hl]; rfl)).1
  subst h1
  exact ⟨(h2 _).2 ⟨0, (g2 _).2 rfl⟩, _, _, g3⟩
def TNw : Tab Rt := [(39, liftC zN 2 (con1 tnewP))]
theorem TNw_ok : TabOk D2 Try.prog TNw := ⟨liftC_ok _ _ tnew_ok, trivial⟩
def tnwP : Prim Rt := fun args hh => match args, hh with
  | [.int .i64 c], [] => some ⟨True, .pointer (some ⟨0, 0, none⟩), none, [oT (Gv.TS.new k8 c)], [], [(0, 0)]⟩
  | _, _ => none
theorem tnw_ok : ConOk D2 Try.prog 28 (con1 tnwP) := by
  refine con1_ok (prim_at (fn := Try.f28) (root := codeOf Try.f28) (by kernel_rfl) (by kernel_rfl) (by kernel_rfl) fun args hh x hx => ?_)
  unfold tnwP at hx
  split at hx
  · rename_i c
    injection hx with hx
    subst hx
    refine ⟨by first | exact Nat.le_refl _ | exact Nat.zero_le _ | exact Nat.le_succ _, noLit rfl, (fun hw => by first | rfl | cases hw), fun _ hv => ?_⟩
    generalize hG : Rx.Ends (R := Rt) _ _ = G
    refine rx_ok (T := TNw) TNw_ok mixed 200 ?_
    refine as_text (q := Vc True ∧ Post (G (Value.pointer (some (Addr.mk 0 0 none))) [some (Sum.inr (Sum.inr (Sum.inr (Rt.tree (Gv.TS.new k8 c)))))])) ?_ (by kernel_rfl)
    subst hG
    exact ⟨⟨trivial⟩, ⟨⟨[0], rfl, rfl, ⟨rfl, trivial⟩, rfl, rfl, rfl, rfl⟩⟩⟩
  · cases hx
def TTr : Tab Rt := [(28, liftC zN 2 (con1 tnwP)), (29, liftC zN 2 (con1 tputP))]
theorem TTr_ok : TabOk D2 Try.prog TTr := ⟨liftC_ok _ _ tnw_ok, liftC_ok _ _ tput_ok, trivial⟩
def treP : Prim Rt := fun args hh => match args, hh with
  | [.slice (some ⟨0, 0, some 8000⟩) n c], [some (.inr (.inr (.inl r)))] => some ⟨r = mR (uM r) ∧ n = (uM r).length ∧ (uM r).length ≤ 60, .pointer (some ⟨1, 0, none⟩), none, [some (.inr (.inr (.inl r))), oT (trC (uM r) (uM r).length)], [], [(0, 0)]⟩
  | _, _ => none
theorem tre_ok : ConOk D2 Try.prog 11 (con1 treP) := by
  refine con1_ok (prim_at (fn := Try.f11) (root := codeOf Try.f11) (by kernel_rfl) (by kernel_rfl) (by kernel_rfl) fun args hh x hx => ?_)
  unfold treP at hx
  split at hx
  · rename_i n c r
    injection hx with hx
    subst hx
    refine ⟨by first | exact Nat.le_refl _ | exact Nat.zero_le _ | exact Nat.le_succ _, noLit rfl, (fun hw => by first | rfl | cases hw), fun _ hv => ?_⟩
    obtain ⟨hr, rfl, hb⟩ := hv; generalize uM r = l at *; subst hr
    generalize hG : Rx.Ends (R := Rt) _ _ = G
    refine rx_ok (T := TTr) TTr_ok mixed 200 ?_
    refine as_text (q := let zz1 := (Value.slice (some (Addr.mk 0 0 (some 8000))) (List.length l) c); Vc True ∧ At D2 Try.prog (codeOf Try.f11) 1 (retK Try.prog (Array.toList (Func.results Try.f11)) G) [Sum.inl [1, 1, 0, 1, 0], Sum.inr (Sum.inl 0), Sum.inl [1, 1, 1]] (SS.mk [some zz1, none, some (Value.pointer none), some (Value.pointer (some (Addr.mk 1 0 none))), some (Value.int IntKind.i64 0), some zz1, some (Value.int IntKind.i64 (↑(List.length l) : Int)), some (Value.pointer (some (Addr.mk 1 0 none))), none, none, none, none, none, none, none, none, none, none, none, none, none, none, none, none, none, none, none, none, none, none, none, none, none] [] [some (Sum.inr (Sum.inr (Sum.inl (mR l)))), some (Sum.inr (Sum.inr (Sum.inr (Rt.tree (Gv.TS.new k8 (↑(List.length l) : Int))))))])) ?_ (by kernel_rfl)
    intro zz1; subst zz1
    refine ⟨⟨trivial⟩, ?_⟩
    refine loop_atM (by kernel_rfl) (ι := Nat) (fun i => i ≤ l.length) [0, 3, 4] (fun i => [.slice (some ⟨0, 0, some 8000⟩) l.length c, .pointer (some ⟨1, 0, none⟩), .int .i64 i]) (fun i => [vM l, oT (trC l i)]) (fun i => l.length - i) 33 (fun i hi => ⟨rfl, rfl, by simp⟩) ⟨0, Nat.zero_le _, ⟨[0, 1], rfl, ⟨rfl, rfl, trivial⟩, rfl, rfl, rfl, rfl⟩⟩ fun i hi => ?_
    refine rx_ok (T := TTr) TTr_ok mixed 200 ?_
    refine as_text (q := let zz1 := Value.pointer (some (Addr.mk 1 0 none)); (decide ((↑i : Int) < (↑(List.length l) : Int)) = true → Vc ((0 : Int) ≤ (↑i : Int) ∧ (↑i : Int) < (↑(List.length l) : Int) ∧ 0 + List.length l ≤ List.length l) ∧ Vc (0 + Int.toNat (↑i : Int) < List.length l) ∧ Vc ((0 : Int) ≤ (↑i : Int) ∧ (↑i : Int) < (↑(List.length l) : Int) ∧ 0 + List.length l ≤ List.length l) ∧ Vc (0 + Int.toNat (↑i : Int) < List.length l) ∧ Vc ((0 : Int) ≤ (↑i : Int) ∧ (↑i : Int) < (↑(List.length l) : Int) ∧ 0 + List.length l ≤ List.length l) ∧ Vc (0 + Int.toNat (↑i : Int) < List.length l) ∧ Vc (Gv.TS.PutOk (trC l i) (Mk.mk (List.getD (List.map Mk.t l) (0 + Int.toNat (↑i : Int)) (0 : Int)) (List.getD (List.map Mk.ins l) (0 + Int.toNat (↑i : Int)) false) (It.mk (List.getD (List.map (fun m => It.k (Mk.it m)) l) (0 + Int.toNat (↑i : Int)) (0 : Int)) (List.getD (List.map (fun m => It.i (Mk.it m)) l) (0 + Int.toNat (↑i : Int)) (0 : Int))) (List.getD (List.map Mk.here l) (0 + Int.toNat (↑i : Int)) false) (List.getD (List.map Mk.tf l) (0 + Int.toNat (↑i : Int)) false) (It.mk (List.getD (List.map (fun m => It.k (Mk.tk m)) l) (0 + Int.toNat (↑i : Int)) (0 : Int)) (List.getD (List.map (fun m => It.i (Mk.tk m)) l) (0 + Int.toNat (↑i : Int)) (0 : Int))))) ∧ Vc (fits ((↑i : Int) + (1 : Int))) ∧ Post (∃ j, j ≤ List.length l ∧ List.length l - j < List.length l - i ∧ FitsM Rt 1 33 [0, 3, 4] [Value.slice (some (Addr.mk 0 0 (some 8000))) (List.length l) c, zz1, Value.int IntKind.i64 (↑j : Int)] [vM l, oT (trC l j)] [some (Value.slice (some (Addr.mk 0 0 (some 8000))) (List.length l) c), some (zz1), some (Value.int IntKind.i64 ((↑i : Int) + (1 : Int)))] [some (Sum.inr (Sum.inr (Sum.inl (mR l)))), some (Sum.inr (Sum.inr (Sum.inr (Rt.tree (Gv.TS.put (trC l i) (Mk.mk (List.getD (List.map Mk.t l) (0 + Int.toNat (↑i : Int)) (0 : Int)) (List.getD (List.map Mk.ins l) (0 + Int.toNat (↑i : Int)) false) (It.mk (List.getD (List.map (fun m => It.k (Mk.it m)) l) (0 + Int.toNat (↑i : Int)) (0 : Int)) (List.getD (List.map (fun m => It.i (Mk.it m)) l) (0 + Int.toNat (↑i : Int)) (0 : Int))) (List.getD (List.map Mk.here l) (0 + Int.toNat (↑i : Int)) false) (List.getD (List.map Mk.tf l) (0 + Int.toNat (↑i : Int)) false) (It.mk (List.getD (List.map (fun m => It.k (Mk.tk m)) l) (0 + Int.toNat (↑i : Int)) (0 : Int)) (List.getD (List.map (fun m => It.i (Mk.tk m)) l) (0 + Int.toNat (↑i : Int)) (0 : Int)))))))))] 33)) ∧ (decide ((↑i : Int) < (↑(List.length l) : Int)) = false → Post (G (zz1) [some (Sum.inr (Sum.inr (Sum.inl (mR l)))), some (Sum.inr (Sum.inr (Sum.inr (Rt.tree (trC l i)))))]))) ?_ (by kernel_rfl)
    intro zz1; subst zz1
    have hs := tc_ok l hb i hi
    refine ⟨fun h => ?_, fun h => ⟨?_⟩⟩
    · have hlt : i < l.length := by have := of_decide_eq_true h; omega
      have b1 : (0 : Int) ≤ (i : Int) ∧ (i : Int) < (l.length : Int) ∧ 0 + l.length ≤ l.length := ⟨by omega, by omega, by omega⟩
      simp only [e_i, gM Mk.t 0 rfl, gM Mk.ins false rfl, gM Mk.here false rfl, gM Mk.tf false rfl, gM (fun m => m.it.k) 0 rfl, gM (fun m => m.it.i) 0 rfl, gM (fun m => m.tk.k) 0 rfl, gM (fun m => m.tk.i) 0 rfl]
      repeat' first | apply And.intro | exact ⟨b1⟩ | exact ⟨hlt⟩ | exact ⟨hs.putok hb hlt⟩ | exact ⟨⟨by omega, by omega⟩⟩ | apply Post.mk
      exact ⟨i + 1, hlt, by omega, ⟨[0, 1], rfl, ⟨rfl, rfl, trivial⟩, rfl, rfl, rfl, rfl⟩⟩
    · obtain rfl : i = l.length := by have := of_decide_eq_false h; omega
      subst hG
      exact ⟨[0, 1], rfl, rfl, ⟨rfl, rfl, trivial⟩, rfl, rfl, rfl, rfl⟩
  · cases hx
/-- what its closure tells -/
theorem asksB {L : List Mk} {b : Int} (hl : L.length ≤ 60) (hb0 : -1099511627776 ≤ b) (hb1 : b ≤ 1099511627776) : Gv.AsksX O8 S8 (mayB b) (fun i => decide (hgh L b (i + 1) ≤ 0)) L := asks_low fun p l q hL hne => by
  have hn := congrArg List.length hL
  simp only [List.length_append] at hn
  have hp : p.length ≤ 60 := by omega
  have hq : l.length ≤ 60 := by omega
  have h1 := Ti.psum_small (small_map wgt_b hp) _ (Nat.le_refl _)
  have h2 := Ti.lowTo_small (small_map wgt_b hq) _ (Nat.le_refl _)
  have e1 : (S8 p).w.s = Ti.psum (p.map wgt) (p.map wgt).length := rfl
  have e2 : (S8 l).w.l = Ti.lowTo (l.map wgt) (l.map wgt).length := rfl
  rw [← e1] at h1
  rw [← e2] at h2
  unfold mayB
  have w1 : Gv.W (b + (S8 p).w.s) = b + (S8 p).w.s := Gv.W_of (by omega)
  have w2 : Gv.W (b + (S8 p).w.s + (S8 l).w.l) = b + (S8 p).w.s + (S8 l).w.l := Gv.W_of (by omega)
  rw [w1, w2, decide_eq_true_eq]
theorem k60 (s : Ts) : s.l.length ≤ 60 := s.ok.good
/-- what the tree is behind each call -/
def hgS (s : Ts) (p : Int) : Ts := s.seen.bet 0 (clp s.l.length p)
def nxS (s : Ts) (p b : Int) : Ts := if clp s.l.length p = 0 ∧ b ≤ 0 then s.seen else s.seen.first (mayB b) ((clp s.l.length p : Int) - 1)
def prS (s : Ts) (p b : Int) : Ts := s.seen.last (mayB b) (clp s.l.length p)
def bsS (s : Ts) (p : Int) : Ts := s.seen.seen.bet (clp s.l.length p) s.l.length
def TCl : Tab Rt := [(22, liftC zN 2 (con1 tlenP)), (27, liftC zN 2 (con1 tbetP))]
theorem TCl_ok : TabOk D2 Try.prog TCl := ⟨liftC_ok _ _ tlen_ok, liftC_ok _ _ tbet_ok, trivial⟩
def clamP : Prim Rt := fun args hh => match args, hh with
  | [.pointer (some ⟨0, 0, none⟩), .int .i64 p], [some (.inr (.inr (.inr (.tree s))))] => some ⟨s.Few, .tuple ⟨[.pointer (some ⟨0, 0, none⟩), .int .i64 (clp s.l.length p)]⟩, none, [oT s.seen], [], [(0, 0)]⟩
  | _, _ => none
theorem clam_ok : ConOk D2 Try.prog 26 (con1 clamP) := by
  refine con1_ok (prim_at (fn := Try.f26) (root := codeOf Try.f26) (by kernel_rfl) (by kernel_rfl) (by kernel_rfl) fun args hh x hx => ?_)
  unfold clamP at hx
  split at hx
  · rename_i p s
    injection hx with hx
    subst hx
    refine ⟨by first | exact Nat.le_refl _ | exact Nat.zero_le _ | exact Nat.le_succ _, noLit rfl, (fun hw => by first | rfl | cases hw), fun _ hv => ?_⟩
    generalize hG : Rx.Ends (R := Rt) _ _ = G
    refine rx_ok (T := TCl) TCl_ok mixed 200 ?_
    refine as_text (q := Vc (Gv.TS.Few s) ∧ Post (G (Value.tuple (Array.mk [Value.pointer (some (Addr.mk 0 0 none)), Value.int IntKind.i64 (if (↑(List.length (Gv.TS.l s)) : Int) < if (0 : Int) > p then (0 : Int) else p then (↑(List.length (Gv.TS.l s)) : Int) else if (0 : Int) > p then (0 : Int) else p)])) [some (Sum.inr (Sum.inr (Sum.inr (Rt.tree (Gv.TS.seen s)))))])) ?_ (by kernel_rfl)
    have e : (if (s.l.length : Int) < (if 0 > p then 0 else p) then (s.l.length : Int) else (if 0 > p then 0 else p)) = (clp s.l.length p : Int) := by unfold clp; split <;> split at * <;> omega
    rw [e]
    subst hG
    exact ⟨⟨hv⟩, ⟨⟨[0], rfl, rfl, ⟨rfl, trivial⟩, rfl, rfl, rfl, rfl⟩⟩⟩
  · cases hx
def TCr : Tab Rt := (1000000000, rdP2) :: (26, liftC zN 2 (con1 clamP)) :: TCl
theorem TCr_ok : TabOk D2 Try.prog TCr := ⟨rdP2_ok, liftC_ok _ _ clam_ok, TCl_ok⟩
theorem sub_take (l : List Mk) (p : Int) : Gv.sub l 0 p.toNat = l.take (clp l.length p) := by
  show (l.drop 0).take (p.toNat - 0) = _
  rw [List.drop_zero, Nat.sub_zero]
  unfold clp
  rcases Nat.le_total p.toNat l.length with h | h
  · rw [Nat.min_eq_left h]
  · rw [Nat.min_eq_right h, List.take_length, List.take_of_length_le h]
theorem sub_w (l : List Mk) (p b : Int) : b + (S8 (Gv.sub l 0 p.toNat)).w.s = hgI l p b := by
  have h := hgh_pre (p := l.take (clp l.length p)) (q := l.drop (clp l.length p)) (base := b)
  rw [List.take_append_drop, List.length_take, Nat.min_eq_left (clp_le _ _)] at h
  rw [sub_take]
  exact h.symm
theorem sub_drop (l : List Mk) (p : Int) : Gv.sub l p.toNat l.length = l.drop (clp l.length p) := by
  show (l.drop p.toNat).take (l.length - p.toNat) = _
  rw [List.take_of_length_le (by rw [List.length_drop]; exact Nat.le_refl _)]
  unfold clp
  rcases Nat.le_total p.toNat l.length with h | h
  · rw [Nat.min_eq_left h]
  · rw [Nat.min_eq_right h, List.drop_length, List.drop_of_length_le h]
theorem sub_drop' (l : List Mk) (p : Int) : Gv.sub l (clp l.length p) l.length = l.drop (clp l.length p) := by
  show (l.drop _).take (l.length - _) = _
  rw [List.take_of_length_le (by rw [List.length_drop]; exact Nat.le_refl _)]
theorem sub_take' (l : List Mk) (p : Int) : Gv.sub l 0 (clp l.length p) = l.take (clp l.length p) := rfl
theorem few_seen {s : Ts} (h : s.Few) : s.seen.Few := h
theorem few_bet {s : Ts} {f u : Int} (h : s.Few) : (s.bet f u).Few := h
theorem hgI_b {l : List Mk} {p b : Int} (hl : l.length ≤ 60) : b - 60 ≤ hgI l p b ∧ hgI l p b ≤ b + 60 := hgh_b hl (clp_le _ _)
theorem hgI_clp (l : List Mk) (p b : Int) : hgI l (clp l.length p : Int) b = hgI l p b := by
  unfold hgI; rw [clp_nat (clp_le _ _)]
def bhgP : Prim Rt := fun args hh => match args, hh with
  | [.pointer (some ⟨0, 0, none⟩), .int .i64 p, .int .i64 b], [some (.inr (.inr (.inr (.tree s))))] => some ⟨s.Few ∧ -1099511627776 ≤ b ∧ b ≤ 1099511627776, .int .i64 (hgI s.l p b), none, [oT (hgS s p)], [], [(0, 0)]⟩
  | _, _ => none
theorem bhg_ok : ConOk D2 Try.prog 10 (con1 bhgP) := by
  refine con1_ok (prim_at (fn := Try.f10) (root := codeOf Try.f10) (by kernel_rfl) (by kernel_rfl) (by kernel_rfl) fun args hh x hx => ?_)
  unfold bhgP at hx
  split at hx
  · rename_i p b s
    injection hx with hx
    subst hx
    refine ⟨by first | exact Nat.le_refl _ | exact Nat.zero_le _ | exact Nat.le_succ _, noLit rfl, (fun hw => by first | rfl | cases hw), fun _ hv => ?_⟩
    generalize hG : Rx.Ends (R := Rt) _ _ = G
    refine rx_ok (T := TCr) TCr_ok mixed 200 ?_
    refine as_text (q := Vc (Gv.TS.Few s) ∧ Vc (Gv.TS.Few (Gv.TS.seen s)) ∧ Vc True ∧ Post (G (Value.int IntKind.i64 (IntKind.wrap IntKind.i64 (b + Ti.Td.s (Sw.w (S8 (Gv.sub (Gv.TS.l (Gv.TS.seen s)) 0 (Int.toNat (↑(clp (List.length (Gv.TS.l s)) p) : Int)))))))) [some (Sum.inr (Sum.inr (Sum.inr (Rt.tree (Gv.TS.bet (Gv.TS.seen s) (0 : Int) (↑(clp (List.length (Gv.TS.l s)) p) : Int))))))])) ?_ (by kernel_rfl)
    obtain ⟨few, hb0, hb1⟩ := hv
    have e := (sub_w s.l (clp s.l.length p : Int) b).trans (hgI_clp _ _ _)
    have hh := hgI_b (p := p) (b := b) (k60 s)
    have e3 : IntKind.i64.wrap (b + (S8 (Gv.sub s.l 0 (clp s.l.length p : Int).toNat)).w.s) = hgI s.l p b := by rw [e]; exact fits_wrap ⟨by omega, by omega⟩
    simp only [show Gv.TS.l (Gv.TS.seen s) = s.l from rfl]
    rw [e3]
    subst hG
    exact ⟨⟨few⟩, ⟨few_seen few⟩, ⟨trivial⟩, ⟨⟨[0], rfl, rfl, ⟨rfl, trivial⟩, rfl, rfl, rfl, rfl⟩⟩⟩
  · cases hx
def blowP : Prim Rt := fun args hh => match args, hh with
  | [.int .i64 b], [] => some ⟨True, .func (.func 46) ⟨[]⟩ ⟨[.pointer (some ⟨0, 0, none⟩)]⟩, none, [some (.inl (3, [.int .i64 b]))], [], [(0, 0)]⟩
  | _, _ => none
theorem blow_ok : ConOk D2 Try.prog 33 (con1 blowP) := by
  refine con1_ok (prim_at (fn := Try.f33) (root := codeOf Try.f33) (by kernel_rfl) (by kernel_rfl) (by kernel_rfl) fun args hh x hx => ?_)
  unfold blowP at hx
  split at hx
  · rename_i b
    injection hx with hx
    subst hx
    refine ⟨by first | exact Nat.le_refl _ | exact Nat.zero_le _ | exact Nat.le_succ _, noLit rfl, (fun hw => by first | rfl | cases hw), fun _ hv => ?_⟩
    generalize hG : Rx.Ends (R := Rt) _ _ = G
    refine rx_ok (T := []) trivial mixed 200 ?_
    refine as_text (q := Vc True ∧ Post (G (Value.func (Fn.func 46) (Array.mk []) (Array.mk [Value.pointer (some (Addr.mk 0 0 none))])) [some (Sum.inl (3, [Value.int IntKind.i64 b]))])) ?_ (by kernel_rfl)
    subst hG
    exact ⟨⟨trivial⟩, ⟨⟨[0], rfl, rfl, ⟨.inl rfl, trivial⟩, rfl, rfl, rfl, rfl⟩⟩⟩
  · cases hx
def TBr : Tab Rt := [(1000000000, rdP2), (26, liftC zN 2 (con1 clamP)), (10, liftC zN 2 (con1 bhgP)), (33, liftC zN 2 (con1 blowP)), (32, liftC zN 2 (con1 tfirstBP)), (34, liftC zN 2 (con1 tlastBP)), (22, liftC zN 2 (con1 tlenP)), (27, liftC zN 2 (con1 tbetP))]
theorem TBr_ok : TabOk D2 Try.prog TBr := ⟨rdP2_ok, liftC_ok _ _ clam_ok, liftC_ok _ _ bhg_ok, liftC_ok _ _ blow_ok, liftC_ok _ _ tfirstB_ok, liftC_ok _ _ tlastB_ok, liftC_ok _ _ tlen_ok, liftC_ok _ _ tbet_ok, trivial⟩
def bnxP : Prim Rt := fun args hh => match args, hh with
  | [.pointer (some ⟨0, 0, none⟩), .int .i64 p, .int .i64 b], [some (.inr (.inr (.inr (.tree s))))] => some ⟨s.Few ∧ -1099511627776 ≤ b ∧ b ≤ 1099511627776, .int .i64 (nxI s.l p b), none, [oT (nxS s p b)], [], [(0, 0)]⟩
  | _, _ => none
theorem bnx_ok : ConOk D2 Try.prog 14 (con1 bnxP) := by
  refine con1_ok (prim_at (fn := Try.f14) (root := codeOf Try.f14) (by kernel_rfl) (by kernel_rfl) (by kernel_rfl) fun args hh x hx => ?_)
  unfold bnxP at hx
  split at hx
  · rename_i p b s
    injection hx with hx
    subst hx
    refine ⟨by first | exact Nat.le_refl _ | exact Nat.zero_le _ | exact Nat.le_succ _, noLit rfl, (fun hw => by first | rfl | cases hw), fun _ hv => ?_⟩
    generalize hG : Rx.Ends (R := Rt) _ _ = G
    refine rx_ok (T := TBr) TBr_ok mixed 200 ?_
    refine as_text (q := let zz2 := Value.int IntKind.i64; let zz1 := (IntKind.wrap IntKind.i64 ((↑(clp (List.length (Gv.TS.l s)) p) : Int) - (1 : Int))); Vc (Gv.TS.Few s) ∧ (((↑(clp (List.length (Gv.TS.l s)) p) : Int) == (0 : Int)) = true → (decide (b ≤ (0 : Int)) = true → Post (G (zz2 0) [some (Sum.inr (Sum.inr (Sum.inr (Rt.tree (Gv.TS.seen s)))))])) ∧ (decide (b ≤ (0 : Int)) = false → Vc True ∧ Vc True ∧ Vc (Gv.TS.Few (Gv.TS.seen s)) ∧ (decide (Gv.TS.firstI (mayB b) (Gv.TS.seen s) zz1 < (0 : Int)) = true → Post (G (zz2 (-1 : Int)) [some (Sum.inr (Sum.inr (Sum.inr (Rt.tree (Gv.TS.first (mayB b) (Gv.TS.seen s) zz1))))), some (Sum.inl (3, [zz2 b]))])) ∧ (decide (Gv.TS.firstI (mayB b) (Gv.TS.seen s) zz1 < (0 : Int)) = false → Vc True ∧ Post (G (zz2 (IntKind.wrap IntKind.i64 (Gv.TS.firstI (mayB b) (Gv.TS.seen s) zz1 + (1 : Int)))) [some (Sum.inr (Sum.inr (Sum.inr (Rt.tree (Gv.TS.first (mayB b) (Gv.TS.seen s) zz1))))), some (Sum.inl (3, [zz2 b]))])))) ∧ (((↑(clp (List.length (Gv.TS.l s)) p) : Int) == (0 : Int)) = false → Vc True ∧ Vc True ∧ Vc (Gv.TS.Few (Gv.TS.seen s)) ∧ (decide (Gv.TS.firstI (mayB b) (Gv.TS.seen s) zz1 < (0 : Int)) = true → Post (G (zz2 (-1 : Int)) [some (Sum.inr (Sum.inr (Sum.inr (Rt.tree (Gv.TS.first (mayB b) (Gv.TS.seen s) zz1))))), some (Sum.inl (3, [zz2 b]))])) ∧ (decide (Gv.TS.firstI (mayB b) (Gv.TS.seen s) zz1 < (0 : Int)) = false → Vc True ∧ Post (G (zz2 (IntKind.wrap IntKind.i64 (Gv.TS.firstI (mayB b) (Gv.TS.seen s) zz1 + (1 : Int)))) [some (Sum.inr (Sum.inr (Sum.inr (Rt.tree (Gv.TS.first (mayB b) (Gv.TS.seen s) zz1))))), some (Sum.inl (3, [zz2 b]))])))) ?_ (by kernel_rfl)
    intro zz2 zz1; subst zz1 zz2
    obtain ⟨few, hb0, hb1⟩ := hv
    have done : ∀ (x : Int) (rest : Hp Rt), x = nxI s.l p b → G (.int .i64 x) (oT (nxS s p b) :: rest) := by
      intro x rest e
      subst e
      subst hG
      exact ⟨[0], rfl, rfl, ⟨rfl, trivial⟩, rfl, rfl, rfl, rfl⟩
    clear hG
    have hl := k60 s
    have hc := clp_le s.l.length p
    have hN := nxI_is s.l p b
    have hA := asksB (L := s.l) hl hb0 hb1
    have e1 : IntKind.i64.wrap ((clp s.l.length p : Int) - 1) = (clp s.l.length p : Int) - 1 := fits_wrap ⟨by omega, by omega⟩
    simp only [e1]
    refine ⟨⟨few⟩, fun h0 => ⟨fun h1 => ⟨?_⟩, fun h1 => ?_⟩, fun h0 => ?_⟩
    · have h0 : clp s.l.length p = 0 := by have := eq_of_beq h0; omega
      have h1 := of_decide_eq_true h1
      rw [nxS, if_pos ⟨h0, h1⟩] at done
      exact done _ _ (isN_eq (.inr ⟨0, rfl, by omega, by omega, by rw [hgh_zero]; exact h1, fun i g1 g2 => by omega⟩) hN)
    all_goals
      have cb : ¬ (clp s.l.length p = 0 ∧ b ≤ 0) := by
        first
        | exact fun c => absurd c.2 (of_decide_eq_false h1)
        | exact fun c => by have := beq_eq_false_iff_ne.1 h0; omega
      rw [nxS, if_neg cb] at done
      have hF := Gv.TS.first_is (s := s.seen) (f := (clp s.l.length p : Int) - 1) (may := mayB b) hA.toAsks
      have hI := isN_first' hc (fun c0 c1 => cb ⟨c0, c1⟩) hF
      generalize Gv.TS.firstI (mayB b) s.seen ((clp s.l.length p : Int) - 1) = r at *
      have hr : -1 ≤ r ∧ r < 60 := by
        rcases hF with ⟨h1, _⟩ | ⟨j, h1, _, h3, _⟩
        · omega
        · have h3 : j < s.l.length := h3
          omega
      refine ⟨⟨trivial⟩, ⟨trivial⟩, ⟨few_seen few⟩, fun h2 => ⟨?_⟩, fun h2 => ⟨⟨trivial⟩, ⟨?_⟩⟩⟩
      · rw [if_pos (of_decide_eq_true h2)] at hI
        exact done _ _ (isN_eq hI hN)
      · rw [if_neg (of_decide_eq_false h2)] at hI
        rw [show IntKind.i64.wrap (r + 1) = r + 1 from fits_wrap ⟨by omega, by omega⟩]
        exact done _ _ (isN_eq hI hN)
  · cases hx
def bprP : Prim Rt := fun args hh => match args, hh with
  | [.pointer (some ⟨0, 0, none⟩), .int .i64 p, .int .i64 b], [some (.inr (.inr (.inr (.tree s))))] => some ⟨s.Few ∧ -1099511627776 ≤ b ∧ b ≤ 1099511627776, .int .i64 (prI s.l p b), none, [oT (prS s p b)], [], [(0, 0)]⟩
  | _, _ => none
theorem bpr_ok : ConOk D2 Try.prog 16 (con1 bprP) := by
  refine con1_ok (prim_at (fn := Try.f16) (root := codeOf Try.f16) (by kernel_rfl) (by kernel_rfl) (by kernel_rfl) fun args hh x hx => ?_)
  unfold bprP at hx
  split at hx
  · rename_i p b s
    injection hx with hx
    subst hx
    refine ⟨by first | exact Nat.le_refl _ | exact Nat.zero_le _ | exact Nat.le_succ _, noLit rfl, (fun hw => by first | rfl | cases hw), fun _ hv => ?_⟩
    generalize hG : Rx.Ends (R := Rt) _ _ = G
    refine rx_ok (T := TBr) TBr_ok mixed 200 ?_
    refine as_text (q := let zz2 := Value.int IntKind.i64; let zz1 := (↑(clp (List.length (Gv.TS.l s)) p) : Int); Vc (Gv.TS.Few s) ∧ Vc True ∧ Vc (Gv.TS.Few (Gv.TS.seen s)) ∧ (decide (Gv.TS.lastI (mayB b) (Gv.TS.seen s) zz1 < (0 : Int)) = true → (decide (b > (0 : Int)) = true → Post (G (zz2 (-1 : Int)) [some (Sum.inr (Sum.inr (Sum.inr (Rt.tree (Gv.TS.last (mayB b) (Gv.TS.seen s) zz1))))), some (Sum.inl (3, [zz2 b]))])) ∧ (decide (b > (0 : Int)) = false → Vc True ∧ Post (G (zz2 (IntKind.wrap IntKind.i64 (Gv.TS.lastI (mayB b) (Gv.TS.seen s) zz1 + (1 : Int)))) [some (Sum.inr (Sum.inr (Sum.inr (Rt.tree (Gv.TS.last (mayB b) (Gv.TS.seen s) zz1))))), some (Sum.inl (3, [zz2 b]))]))) ∧ (decide (Gv.TS.lastI (mayB b) (Gv.TS.seen s) zz1 < (0 : Int)) = false → Vc True ∧ Post (G (zz2 (IntKind.wrap IntKind.i64 (Gv.TS.lastI (mayB b) (Gv.TS.seen s) zz1 + (1 : Int)))) [some (Sum.inr (Sum.inr (Sum.inr (Rt.tree (Gv.TS.last (mayB b) (Gv.TS.seen s) zz1))))), some (Sum.inl (3, [zz2 b]))]))) ?_ (by kernel_rfl)
    intro zz2 zz1; subst zz1 zz2
    obtain ⟨few, hb0, hb1⟩ := hv
    have done : ∀ (x : Int) (rest : Hp Rt), x = prI s.l p b → G (.int .i64 x) (oT (prS s p b) :: rest) := by
      intro x rest e
      subst e
      subst hG
      exact ⟨[0], rfl, rfl, ⟨rfl, trivial⟩, rfl, rfl, rfl, rfl⟩
    clear hG
    have hl := k60 s
    have hc := clp_le s.l.length p
    have hN := prI_is s.l p b
    have hA := asksB (L := s.l) hl hb0 hb1
    have hF := Gv.TS.last_is (s := s.seen) (f := (clp s.l.length p : Int)) (may := mayB b) hA.toAsks
    have hI := isP_last hc hF
    unfold prS at done
    generalize Gv.TS.lastI (mayB b) s.seen (clp s.l.length p) = r at *
    have hr : -1 ≤ r ∧ r < 60 := by
      rcases hF with ⟨h1, _⟩ | ⟨j, h1, _, h3, _⟩
      · omega
      · have h3 : j < s.l.length := h3
        omega
    refine ⟨⟨few⟩, ⟨trivial⟩, ⟨few_seen few⟩, fun h => ⟨fun h2 => ⟨?_⟩, fun h2 => ⟨⟨trivial⟩, ⟨?_⟩⟩⟩, fun h => ⟨⟨trivial⟩, ⟨?_⟩⟩⟩
    · have h := of_decide_eq_true h
      have h2 := of_decide_eq_true h2
      rw [if_neg (by omega), if_neg (by omega)] at hI
      exact done _ _ (isP_eq hI hN)
    · have h := of_decide_eq_true h
      have h2 := of_decide_eq_false h2
      rw [if_neg (by omega), if_pos (by omega)] at hI
      rw [show IntKind.i64.wrap (r + 1) = 0 from by rw [fits_wrap ⟨by omega, by omega⟩]; omega]
      exact done _ _ (isP_eq hI hN)
    · have h := of_decide_eq_false h
      rw [if_pos (by omega)] at hI
      rw [show IntKind.i64.wrap (r + 1) = r + 1 from fits_wrap ⟨by omega, by omega⟩]
      exact done _ _ (isP_eq hI hN)
  · cases hx
def bbsP : Prim Rt := fun args hh => match args, hh with
  | [.pointer (some ⟨0, 0, none⟩), .int .i64 p], [some (.inr (.inr (.inr (.tree s))))] => some ⟨s.Few, .agg ⟨tkL (bstI s.l p)⟩, none, [oT (bsS s p)], [], [(0, 0)]⟩
  | _, _ => none
theorem bbs_ok : ConOk D2 Try.prog 18 (con1 bbsP) := by
  refine con1_ok (prim_at (fn := Try.f18) (root := codeOf Try.f18) (by kernel_rfl) (by kernel_rfl) (by kernel_rfl) fun args hh x hx => ?_)
  unfold bbsP at hx
  split at hx
  · rename_i p s
    injection hx with hx
    subst hx
    refine ⟨by first | exact Nat.le_refl _ | exact Nat.zero_le _ | exact Nat.le_succ _, noLit rfl, (fun hw => by first | rfl | cases hw), fun _ hv => ?_⟩
    generalize hG : Rx.Ends (R := Rt) _ _ = G
    refine rx_ok (T := TBr) TBr_ok mixed 200 ?_
    refine as_text (q := let zz1 := (S8 (Gv.sub (Gv.TS.l (Gv.TS.seen (Gv.TS.seen s))) (Int.toNat (↑(clp (List.length (Gv.TS.l s)) p) : Int)) (Int.toNat (↑(List.length (Gv.TS.l (Gv.TS.seen s))) : Int)))); Vc (Gv.TS.Few s) ∧ Vc (Gv.TS.Few (Gv.TS.seen s)) ∧ Vc (Gv.TS.Few (Gv.TS.seen (Gv.TS.seen s))) ∧ Post (G (Value.agg (Array.mk [Value.bool (Sw.gf zz1), Value.int IntKind.i64 (It.k (Sw.g zz1)), Value.int IntKind.i64 (It.i (Sw.g zz1))])) [some (Sum.inr (Sum.inr (Sum.inr (Rt.tree (Gv.TS.bet (Gv.TS.seen (Gv.TS.seen s)) (↑(clp (List.length (Gv.TS.l s)) p) : Int) (↑(List.length (Gv.TS.l (Gv.TS.seen s))) : Int)))))), some (Sum.inl (34, [Value.bool (Sw.gf zz1), Value.int IntKind.i64 (It.k (Sw.g zz1)), Value.int IntKind.i64 (It.i (Sw.g zz1))]))])) ?_ (by kernel_rfl)
    intro zz1; subst zz1
    subst hG
    simp only [show Gv.TS.l (Gv.TS.seen s) = s.l from rfl, show Gv.TS.l (Gv.TS.seen (Gv.TS.seen s)) = s.l from rfl, Int.toNat_natCast, sub_drop']
    exact ⟨⟨hv⟩, ⟨few_seen hv⟩, ⟨few_seen (few_seen hv)⟩, ⟨⟨[0], rfl, rfl, ⟨rfl, trivial⟩, rfl, rfl, rfl, rfl⟩⟩⟩
  · cases hx
def blsP : Prim Rt := fun args hh => match args, hh with
  | [.pointer (some ⟨0, 0, none⟩), .int .i64 p], [some (.inr (.inr (.inr (.tree s))))] => some ⟨s.Few, .agg ⟨tkL (lstI s.l p)⟩, none, [oT (hgS s p)], [], [(0, 0)]⟩
  | _, _ => none
theorem bls_ok : ConOk D2 Try.prog 20 (con1 blsP) := by
  refine con1_ok (prim_at (fn := Try.f20) (root := codeOf Try.f20) (by kernel_rfl) (by kernel_rfl) (by kernel_rfl) fun args hh x hx => ?_)
  unfold blsP at hx
  split at hx
  · rename_i p s
    injection hx with hx
    subst hx
    refine ⟨by first | exact Nat.le_refl _ | exact Nat.zero_le _ | exact Nat.le_succ _, noLit rfl, (fun hw => by first | rfl | cases hw), fun _ hv => ?_⟩
    generalize hG : Rx.Ends (R := Rt) _ _ = G
    refine rx_ok (T := TBr) TBr_ok mixed 200 ?_
    refine as_text (q := let zz1 := (S8 (Gv.sub (Gv.TS.l (Gv.TS.seen s)) 0 (Int.toNat (↑(clp (List.length (Gv.TS.l s)) p) : Int)))); Vc (Gv.TS.Few s) ∧ Vc (Gv.TS.Few (Gv.TS.seen s)) ∧ Post (G (Value.agg (Array.mk [Value.bool (Sw.lf zz1), Value.int IntKind.i64 (It.k (Sw.l zz1)), Value.int IntKind.i64 (It.i (Sw.l zz1))])) [some (Sum.inr (Sum.inr (Sum.inr (Rt.tree (Gv.TS.bet (Gv.TS.seen s) (0 : Int) (↑(clp (List.length (Gv.TS.l s)) p) : Int)))))), some (Sum.inl (34, [Value.bool (Sw.lf zz1), Value.int IntKind.i64 (It.k (Sw.l zz1)), Value.int IntKind.i64 (It.i (Sw.l zz1))]))])) ?_ (by kernel_rfl)
    intro zz1; subst zz1
    subst hG
    simp only [show Gv.TS.l (Gv.TS.seen s) = s.l from rfl, Int.toNat_natCast, sub_take']
    exact ⟨⟨hv⟩, ⟨few_seen hv⟩, ⟨⟨[0], rfl, rfl, ⟨rfl, trivial⟩, rfl, rfl, rfl, rfl⟩⟩⟩
  · cases hx
end Go.Proofs.Ytdgglimfjfedaaa.Br
