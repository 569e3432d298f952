/- shelf: its calls of a tree that is a thing. -/
import Derived.Test.YtljdcboijegllaaG9TC
import Derived.Test.YtljdcboijegllaaShRef
namespace Go.Proofs.Ytljdcboijegllaa.G9
open Go.Proofs.Ytljdcboijegllaa.Rx Go.Proofs.Ytljdcboijegllaa.Wv Go.Proofs.Ytljdcboijegllaa.Sh
set_option linter.unusedVariables false
set_option linter.unusedSimpArgs false
set_option maxRecDepth 100000
set_option maxHeartbeats 16000000
/-- ints wrap; the things' first blocks are cells -/
def rdP2 : Con Rt := ⟨fun _ _ => some true, fun _ _ => none, fun _ _ => some ⟨True, .bool false, none, [], [], []⟩⟩
theorem rdP2_ok : RdOk D2 rdP2 := by
  refine ⟨fun _ X p F w h => ?_, fun e X x p F w hx => by cases hx⟩
  obtain ⟨ρl, ftl, h1, h2, h3⟩ := h
  obtain ⟨t, cs, tl, hl⟩ : ∃ t cs tl, L2.lay X = some (.inl (t, cs)) :: tl := by cases X; exact ⟨_, _, _, rfl⟩
  obtain ⟨g1, g2, g3⟩ := (h3.at_ 0 (.inl (t, cs)) (by rw [hl]; rfl)).1
  subst h1
  exact ⟨(h2 _).2 ⟨0, (g2 _).2 rfl⟩, _, _, g3⟩
/-- the items of a tree's slots -/
def its (s : Ts) : List It := s.l.map Sl.it
theorem its_sls {s : Ts} {l : List It} (h : s.l = sls l) : its s = l := by
  unfold its; rw [h]; unfold sls; rw [List.map_map]
  exact List.map_id'' (fun _ => rfl) l
theorem its_ord (s : Ts) : Sh.Ord (its s) := by
  have h : Gv.SrtE O9 s.l := s.ok.srt
  unfold Gv.SrtE at h
  unfold Sh.Ord its
  rw [List.pairwise_map]
  exact h.imp fun h => (icmp_lt _ _).1 h
abbrev oS (l : List Sl) : Option (SB Rt) := some (.inr (.inl (32, ⟨[.int .i64 0, .int .i64 0, .bool false, .int .i64 0], l.length, [⟨l.map fun e => e.it.k, [], []⟩, ⟨l.map fun e => e.it.i, [], []⟩, ⟨[], l.map fun e => e.eaten, []⟩, ⟨l.map fun e => e.time, [], []⟩]⟩)))
theorem c_one' {α : Type} (v : α) : cut [v] 0 1 = [v] := rfl
def TNw : Tab Rt := [(24, liftC zN 2 (con1 tnewP))]
theorem TNw_ok : TabOk D2 Try.prog TNw := ⟨liftC_ok _ _ tnew_ok, trivial⟩
def tnwP : Prim Rt := fun args hh => match args, hh with
  | [.int .i64 c], [] => some ⟨True, .pointer (some ⟨0, 0, none⟩), none, [oT (Gv.TS.new k9 c)], [], [(0, 0)]⟩
  | _, _ => none
theorem tnw_ok : ConOk D2 Try.prog 6 (con1 tnwP) := by
  refine con1_ok (prim_at (fn := Try.f6) (root := codeOf Try.f6) (by kernel_rfl) (by kernel_rfl) (by kernel_rfl) fun args hh x hx => ?_)
  unfold tnwP at hx
  split at hx
  · rename_i c
    injection hx with hx
    subst hx
    refine ⟨by first | exact Nat.le_refl _ | exact Nat.zero_le _ | exact Nat.le_succ _, noLit rfl, (fun hw => by first | rfl | cases hw), fun _ hv => ?_⟩
    generalize hG : Rx.Ends (R := Rt) _ _ = G
    refine rx_ok (T := TNw) TNw_ok mixed 200 ?_
    refine as_text (q := Vc True ∧ Post (G (Value.pointer (some (Addr.mk 0 0 none))) [some (Sum.inr (Sum.inr (Sum.inr (Rt.tree (Gv.TS.new k9 c)))))])) ?_ (by kernel_rfl)
    subst hG
    exact ⟨⟨trivial⟩, ⟨⟨[0], rfl, rfl, ⟨rfl, trivial⟩, rfl, rfl, rfl, rfl⟩⟩⟩
  · cases hx
def TIt : Tab Rt := [(1000000000, rdP2), (32, liftC zN 2 (con1 tallP)), (16, liftC zN 2 (con1 tlenP)), (35, liftC zN 2 (con1 trankP)), (19, liftC zN 2 (con1 tfindP)), (8, liftC zN 2 (con1 sofP))]
theorem TIt_ok : TabOk D2 Try.prog TIt := ⟨rdP2_ok, liftC_ok _ _ tall_ok, liftC_ok _ _ tlen_ok, liftC_ok _ _ trank_ok, liftC_ok _ _ tfind_ok, liftC_ok _ _ sof_ok, trivial⟩
def items0P : Prim Rt := fun args hh => match args, hh with
  | [.pointer none], [] => some ⟨True, .slice (some ⟨0, 0, some 2000⟩) 0 0, none, [oI []], [], [(0, 0)]⟩
  | _, _ => none
theorem items0_ok : ConOk D2 Try.prog 14 (con1 items0P) := by
  refine con1_ok (prim_at (fn := Try.f14) (root := codeOf Try.f14) (by kernel_rfl) (by kernel_rfl) (by kernel_rfl) fun args hh x hx => ?_)
  unfold items0P at hx
  split at hx
  · injection hx with hx
    subst hx
    refine ⟨by first | exact Nat.le_refl _ | exact Nat.zero_le _ | exact Nat.le_succ _, noLit rfl, (fun hw => by first | rfl | cases hw), fun _ hv => ?_⟩
    generalize hG : Rx.Ends (R := Rt) _ _ = G
    refine rx_ok (T := TIt) TIt_ok mixed 200 ?_
    refine as_text (q := Post (G (Value.slice (some (Addr.mk 1 0 (some 2000))) 0 0) [some (Sum.inr (Sum.inl (24, Row.mk [Value.int IntKind.i64 0, Value.int IntKind.i64 0] 0 [Col.mk [] [] [], Col.mk [] [] []]))), some (Sum.inr (Sum.inl (24, Row.mk [Value.int IntKind.i64 0, Value.int IntKind.i64 0] 0 [Col.mk [] [] [], Col.mk [] [] []])))])) ?_ (by kernel_rfl)
    subst hG
    exact ⟨⟨[1], rfl, rfl, ⟨⟨_, rfl, .inl rfl⟩, trivial⟩, rfl, rfl, rfl, rfl⟩⟩
  · cases hx
def above0P : Prim Rt := fun args hh => match args, hh with
  | [.pointer none, .agg ⟨[.int .i64 a, .int .i64 b]⟩], [] => some ⟨True, .int .i64 0, none, hh, [], []⟩
  | _, _ => none
theorem above0_ok : ConOk D2 Try.prog 17 (con1 above0P) := by
  refine con1_ok (prim_at (fn := Try.f17) (root := codeOf Try.f17) (by kernel_rfl) (by kernel_rfl) (by kernel_rfl) fun args hh x hx => ?_)
  unfold above0P at hx
  split at hx
  · rename_i a b
    injection hx with hx
    subst hx
    refine ⟨by first | exact Nat.le_refl _ | exact Nat.zero_le _ | exact Nat.le_succ _, noLit rfl, (fun hw => by first | rfl | cases hw), fun _ hv => ?_⟩
    generalize hG : Rx.Ends (R := Rt) _ _ = G
    refine rx_ok (T := TIt) TIt_ok mixed 200 ?_
    refine as_text (q := Post (G (Value.int IntKind.i64 0) [some (Sum.inl (24, [Value.int IntKind.i64 a, Value.int IntKind.i64 b]))])) ?_ (by kernel_rfl)
    subst hG
    exact ⟨⟨[], rfl, rfl, trivial, rfl, rfl, rfl, rfl⟩⟩
  · cases hx
def itemsP : Prim Rt := fun args hh => match args, hh with
  | [.pointer (some ⟨0, 0, none⟩)], [some (.inr (.inr (.inr (.tree s))))] => some ⟨s.Few, .slice (some ⟨1, 0, some 2000⟩) s.l.length 0, none, [oT s.seen.all, oI (its s)], [], [(0, 0)]⟩
  | _, _ => none
theorem items_ok : ConOk D2 Try.prog 14 (con1 itemsP) := by
  refine con1_ok (prim_at (fn := Try.f14) (root := codeOf Try.f14) (by kernel_rfl) (by kernel_rfl) (by kernel_rfl) fun args hh x hx => ?_)
  unfold itemsP at hx
  split at hx
  · rename_i s
    injection hx with hx
    subst hx
    refine ⟨by first | exact Nat.le_refl _ | exact Nat.zero_le _ | exact Nat.le_succ _, noLit rfl, (fun hw => by first | rfl | cases hw), fun _ hv => ?_⟩
    generalize hG : Rx.Ends (R := Rt) _ _ = G
    refine rx_ok (T := TIt) TIt_ok mixed 200 ?_
    refine as_text (q := let zz5 := Value.int IntKind.i64; let zz1 := (↑(List.length (Gv.TS.l s)) : Int); let zz2 := (Value.pointer (some (Addr.mk 0 0 none))); let zz3 := (Value.slice (some (Addr.mk 2 0 (some 2000))) 0 (Int.toNat zz1)); let zz4 := (Gv.TS.l (Gv.TS.seen s)); Vc (Gv.TS.Few s) ∧ Vc ((0 : Int) ≤ (0 : Int) ∧ (0 : Int) ≤ zz1 ∧ zz1 * (16 : Int) ≤ (140737488355328 : Int) ∧ zz1 ≤ (140737488355328 : Int)) ∧ Vc (Gv.TS.Few (Gv.TS.seen s)) ∧ At D2 Try.prog (codeOf Try.f14) 1 (retK Try.prog (Array.toList (Func.results Try.f14)) G) [Sum.inl [1, 1, 1, 0, 1, 0], Sum.inr (Sum.inl 0), Sum.inl [1, 1, 1, 1]] (SS.mk [some zz2, none, some (Value.slice (some (Addr.mk 1 0 (some 2000))) 0 0), some zz3, none, none, some zz2, some (Value.bool false), some zz2, some (zz5 zz1), some zz3, some zz2, some (Value.slice (some (Addr.mk 3 0 (some 4000))) (List.length zz4) 0), some (zz5 (↑(List.length zz4) : Int)), some (zz5 0), none, none, none, none, none, none, none, none, none, none] [(7, false)] [some (Sum.inr (Sum.inr (Sum.inr (Rt.tree (Gv.TS.all (Gv.TS.seen s)))))), some (Sum.inr (Sum.inl (24, Row.mk [zz5 0, zz5 0] 0 [Col.mk [] [] [], Col.mk [] [] []]))), some (Sum.inr (Sum.inl (24, Row.mk [zz5 0, zz5 0] 0 [Col.mk [] [] [], Col.mk [] [] []]))), some (Sum.inr (Sum.inl (32, Row.mk [zz5 0, zz5 0, Value.bool false, zz5 0] (List.length zz4) [Col.mk (List.map (fun e => It.k (Sl.it e)) zz4) [] [], Col.mk (List.map (fun e => It.i (Sl.it e)) zz4) [] [], Col.mk [] (List.map (fun e => Sl.eaten e) zz4) [], Col.mk (List.map (fun e => Sl.time e) zz4) [] []])))])) ?_ (by kernel_rfl)
    intro zz5 zz1 zz2 zz3 zz4; subst zz4 zz3 zz2 zz1 zz5
    have hb := s.len_le
    refine ⟨⟨hv⟩, ⟨⟨by omega, by omega, by omega, by omega⟩⟩, ⟨hv⟩, ?_⟩
    have hL : (its s).length = s.l.length := by unfold its; rw [List.length_map]
    refine loop_atM (by kernel_rfl) (ι := Nat × Nat) (fun x => x.1 ≤ s.l.length ∧ (x.1 = s.l.length → x.2 = 0)) [3, 12, 13, 14] (fun x => [.slice (some ⟨1, 0, some 2000⟩) ((its s).take x.1).length x.2, .slice (some ⟨2, 0, some 4000⟩) s.l.length 0, .int .i64 s.l.length, .int .i64 x.1]) (fun x => [oT s.seen.all, oI ((its s).take x.1), oS s.l]) (fun x => s.l.length - x.1) 25 (fun i hi => ⟨rfl, rfl, by simp⟩) ⟨(0, (s.l.length : Int).toNat), ⟨Nat.zero_le _, fun h => by rw [← h]; rfl⟩, ⟨[0, 2, 3], rfl, ⟨rfl, ⟨_, rfl, .inl rfl⟩, ⟨_, rfl, .inl rfl⟩, trivial⟩, rfl, rfl, rfl, rfl⟩⟩ fun x hx => ?_
    obtain ⟨i, cp⟩ := x
    obtain ⟨hi, hcp⟩ := hx
    simp only at hi hcp ⊢
    refine rx_ok (T := TIt) TIt_ok mixed 200 ?_
    refine as_text (q := let zz4 := Value.int IntKind.i64; let zz1 := (Gv.TS.l s); let zz2 := (↑(List.length zz1) : Int); let zz3 := (List.take i (its s)); (decide ((↑i : Int) < zz2) = true → Vc ((0 : Int) ≤ (↑i : Int) ∧ (↑i : Int) < zz2 ∧ 0 + List.length zz1 ≤ List.length zz1) ∧ Vc (0 + Int.toNat (↑i : Int) < List.length zz1) ∧ Vc (0 + List.length zz3 ≤ List.length zz3 ∧ 1 ≤ 1 ∧ (List.length zz3 + 1) * 16 ≤ 140737488355328 ∧ List.length zz3 + 1 ≤ 140737488355328) ∧ Vc True ∧ Post (∃ j, (Prod.fst j ≤ List.length zz1 ∧ (Prod.fst j = List.length zz1 → Prod.snd j = 0)) ∧ List.length zz1 - Prod.fst j < List.length zz1 - i ∧ FitsM Rt 1 25 [3, 12, 13, 14] [Value.slice (some (Addr.mk 1 0 (some 2000))) (List.length (List.take (Prod.fst j) (its s))) (Prod.snd j), Value.slice (some (Addr.mk 2 0 (some 4000))) (List.length zz1) 0, zz4 zz2, zz4 (↑(Prod.fst j) : Int)] [oT (Gv.TS.all (Gv.TS.seen s)), oI (List.take (Prod.fst j) (its s)), oS zz1] [some (Value.slice (some (Addr.mk 5 0 (some 2000))) (List.length zz3 + 1) 0), some (Value.slice (some (Addr.mk 2 0 (some 4000))) (List.length zz1) 0), some (zz4 zz2), some (zz4 (IntKind.wrap IntKind.i64 ((↑i : Int) + (1 : Int))))] [some (Sum.inr (Sum.inr (Sum.inr (Rt.tree (Gv.TS.all (Gv.TS.seen s)))))), none, some (Sum.inr (Sum.inl (32, Row.mk [zz4 0, zz4 0, Value.bool false, zz4 0] (List.length zz1) [Col.mk (List.map (fun e => It.k (Sl.it e)) zz1) [] [], Col.mk (List.map (fun e => It.i (Sl.it e)) zz1) [] [], Col.mk [] (List.map (fun e => Sl.eaten e) zz1) [], Col.mk (List.map (fun e => Sl.time e) zz1) [] []]))), some (Sum.inl (32, [zz4 (List.getD (List.map (fun e => It.k (Sl.it e)) zz1) (0 + Int.toNat (↑i : Int)) (0 : Int)), zz4 (List.getD (List.map (fun e => It.i (Sl.it e)) zz1) (0 + Int.toNat (↑i : Int)) (0 : Int)), Value.bool (List.getD (List.map (fun e => Sl.eaten e) zz1) (0 + Int.toNat (↑i : Int)) false), zz4 (List.getD (List.map (fun e => Sl.time e) zz1) (0 + Int.toNat (↑i : Int)) (0 : Int))])), some (Sum.inr (Sum.inl (24, Row.mk [zz4 0, zz4 0] 1 [Col.mk [List.getD (List.map (fun e => It.k (Sl.it e)) zz1) (0 + Int.toNat (↑i : Int)) (0 : Int)] [] [], Col.mk [List.getD (List.map (fun e => It.i (Sl.it e)) zz1) (0 + Int.toNat (↑i : Int)) (0 : Int)] [] []]))), some (Sum.inr (Sum.inl (24, Row.mk [zz4 0, zz4 0] (List.length zz3 + 1) [Col.mk (cut (List.map It.k zz3) 0 (List.length zz3) ++ cut [List.getD (List.map (fun e => It.k (Sl.it e)) zz1) (0 + Int.toNat (↑i : Int)) (0 : Int)] 0 1) [] [], Col.mk (cut (List.map It.i zz3) 0 (List.length zz3) ++ cut [List.getD (List.map (fun e => It.i (Sl.it e)) zz1) (0 + Int.toNat (↑i : Int)) (0 : Int)] 0 1) [] []])))] 25)) ∧ (decide ((↑i : Int) < zz2) = false → Post (G (Value.slice (some (Addr.mk 1 0 (some 2000))) (List.length zz3) cp) [some (Sum.inr (Sum.inr (Sum.inr (Rt.tree (Gv.TS.all (Gv.TS.seen s)))))), some (Sum.inr (Sum.inl (24, iR zz3))), some (Sum.inr (Sum.inl (32, Row.mk [zz4 0, zz4 0, Value.bool false, zz4 0] (List.length zz1) [Col.mk (List.map (fun e => It.k (Sl.it e)) zz1) [] [], Col.mk (List.map (fun e => It.i (Sl.it e)) zz1) [] [], Col.mk [] (List.map (fun e => Sl.eaten e) zz1) [], Col.mk (List.map (fun e => Sl.time e) zz1) [] []])))]))) ?_ (by kernel_rfl)
    intro zz4 zz1 zz2 zz3; subst zz3 zz2 zz1 zz4
    have gS : ∀ {β : Type} (f : Sl → β) (d : β), f slz = d → (s.l.map f).getD i d = f (s.l.getD i slz) := fun f d h => by
      subst h
      rw [List.getD_eq_getElem?_getD, List.getD_eq_getElem?_getD, List.getElem?_map]
      cases s.l[i]? <;> rfl
    have hS : i < s.l.length → (its s).take (i + 1) = (its s).take i ++ [(s.l.getD i slz).it] := fun h => by
      rw [take_succ_getD iz (by omega)]
      unfold its
      rw [List.getD_eq_getElem?_getD, List.getElem?_map, List.getD_eq_getElem?_getD, List.getElem?_eq_getElem h]; rfl
    have htl := List.length_take_le i (its s)
    simp only [gS (fun e => e.it.k) 0 rfl, gS (fun e => e.it.i) 0 rfl, gS (fun e => e.eaten) false rfl, gS (fun e => e.time) 0 rfl, cm, c_one', e_i']
    refine ⟨fun h => ?_, fun h => ?_⟩
    · have hlt : i < s.l.length := by have := of_decide_eq_true h; omega
      have hW : IntKind.i64.wrap ((i : Int) + 1) = ((i + 1 : Nat) : Int) := fits_wrap ⟨by omega, by omega⟩
      refine ⟨⟨by omega, by omega, by omega⟩, ⟨by omega⟩, ⟨by omega, by omega, by omega, by omega⟩, ⟨trivial⟩, ⟨(i + 1, 0), ⟨hlt, fun _ => rfl⟩, by simp only; omega, ?_⟩⟩
      rw [hS hlt, hW]
      simp only [oI, iR, List.length_append, List.length_cons, List.length_nil, List.map_append, List.map_cons, List.map_nil, Nat.zero_add]
      exact ⟨[0, 5, 2], rfl, ⟨rfl, ⟨_, rfl, .inl rfl⟩, ⟨_, rfl, .inl rfl⟩, trivial⟩, rfl, rfl, rfl, rfl⟩
    · obtain rfl : i = s.l.length := by have := of_decide_eq_false h; omega
      obtain rfl := hcp rfl
      refine ⟨?_⟩
      subst hG
      rw [← hL, List.take_length]
      exact ⟨[0, 1], rfl, rfl, ⟨rfl, ⟨_, rfl, .inl rfl⟩, trivial⟩, rfl, rfl, rfl, rfl⟩
  · cases hx
def aboveP : Prim Rt := fun args hh => match args, hh with
  | [.pointer (some ⟨0, 0, none⟩), .agg ⟨[.int .i64 a, .int .i64 b]⟩], [some (.inr (.inr (.inr (.tree s))))] => some ⟨s.Few ∧ s.l = sls (its s), .int .i64 (abI ⟨a, b⟩ (its s)), none, [oT ((s.seen.rank (sl ⟨a, b⟩)).find (sl ⟨a, b⟩))], [], [(0, 0)]⟩
  | _, _ => none
theorem above_ok : ConOk D2 Try.prog 17 (con1 aboveP) := by
  refine con1_ok (prim_at (fn := Try.f17) (root := codeOf Try.f17) (by kernel_rfl) (by kernel_rfl) (by kernel_rfl) fun args hh x hx => ?_)
  unfold aboveP at hx
  split at hx
  · rename_i a b s
    injection hx with hx
    subst hx
    refine ⟨by first | exact Nat.le_refl _ | exact Nat.zero_le _ | exact Nat.le_succ _, noLit rfl, (fun hw => by first | rfl | cases hw), fun _ hv => ?_⟩
    generalize hG : Rx.Ends (R := Rt) _ _ = G
    refine rx_ok (T := TIt) TIt_ok mixed 200 ?_
    refine as_text (q := let zz3 := Value.int IntKind.i64; let zz1 := (Sl.mk (It.mk a b) false (0 : Int)); let zz2 := (Gv.fndE O9 zz1 (Gv.TS.l (Gv.TS.rank (Gv.TS.seen s) zz1))); Vc (Gv.TS.Few s) ∧ Vc True ∧ Vc (Gv.TS.Few (Gv.TS.seen s)) ∧ Vc True ∧ Vc True ∧ Vc (Gv.TS.Few (Gv.TS.rank (Gv.TS.seen s) zz1)) ∧ (Prod.snd zz2 = true → Vc True ∧ Post (G (zz3 (IntKind.wrap IntKind.i64 (IntKind.wrap IntKind.i64 ((↑(List.length (Gv.TS.l s)) : Int) - (↑(List.length (Gv.loE O9 zz1 (Gv.TS.l (Gv.TS.seen s)))) : Int)) - (1 : Int)))) [some (Sum.inr (Sum.inr (Sum.inr (Rt.tree (Gv.TS.find (Gv.TS.rank (Gv.TS.seen s) zz1) zz1))))), some (Sum.inl (24, [zz3 a, zz3 b])), some (Sum.inl (32, [zz3 (It.k (Sl.it (Prod.fst zz2))), zz3 (It.i (Sl.it (Prod.fst zz2))), Value.bool (Sl.eaten (Prod.fst zz2)), zz3 (Sl.time (Prod.fst zz2))]))])) ∧ (Prod.snd zz2 = false → Post (G (zz3 (IntKind.wrap IntKind.i64 ((↑(List.length (Gv.TS.l s)) : Int) - (↑(List.length (Gv.loE O9 zz1 (Gv.TS.l (Gv.TS.seen s)))) : Int)))) [some (Sum.inr (Sum.inr (Sum.inr (Rt.tree (Gv.TS.find (Gv.TS.rank (Gv.TS.seen s) zz1) zz1))))), some (Sum.inl (24, [zz3 a, zz3 b])), some (Sum.inl (32, [zz3 (It.k (Sl.it (Prod.fst zz2))), zz3 (It.i (Sl.it (Prod.fst zz2))), Value.bool (Sl.eaten (Prod.fst zz2)), zz3 (Sl.time (Prod.fst zz2))]))]))) ?_ (by kernel_rfl)
    intro zz3 zz1 zz2; subst zz2 zz1 zz3
    obtain ⟨few, hl⟩ := hv
    have ho := its_ord s
    have hlen : s.l.length = (its s).length := by unfold its; rw [List.length_map]
    have hb := s.len_le
    generalize its s = L at *
    have hf : Gv.fndE O9 ⟨⟨a, b⟩, false, 0⟩ (Gv.TS.l (Gv.TS.rank (Gv.TS.seen s) ⟨⟨a, b⟩, false, 0⟩)) = if inI ⟨a, b⟩ L = true then (sl ⟨a, b⟩, true) else (slz, false) := by
      show Gv.fndE O9 (sl ⟨a, b⟩) s.l = _
      rw [hl]; exact fnd_sl ho
    have hr : (Gv.loE O9 ⟨⟨a, b⟩, false, 0⟩ (Gv.TS.l (Gv.TS.seen s))).length = rkI ⟨a, b⟩ L := by
      show Gv.rkE O9 (sl ⟨a, b⟩) s.l = _
      rw [hl]; exact rk_sl _ _
    have hn := ab_rk ho (x := ⟨a, b⟩)
    simp only [hf, hr]
    cases hc : inI ⟨a, b⟩ L with
    | true =>
      rw [hc] at hn
      simp only [if_true] at hn ⊢
      have e1 : IntKind.i64.wrap ((s.l.length : Int) - (rkI ⟨a, b⟩ L : Int)) = (abI ⟨a, b⟩ L : Int) + 1 := by rw [fits_wrap ⟨by omega, by omega⟩]; omega
      have e2 : IntKind.i64.wrap ((abI ⟨a, b⟩ L : Int) + 1 - 1) = (abI ⟨a, b⟩ L : Int) := by rw [fits_wrap ⟨by omega, by omega⟩]; omega
      simp only [e1, e2]
      refine ⟨⟨few⟩, ⟨trivial⟩, ⟨few⟩, ⟨trivial⟩, ⟨trivial⟩, ⟨few⟩, fun _ => ⟨⟨trivial⟩, ⟨?_⟩⟩, fun h => by cases h⟩
      subst hG
      exact ⟨[0], rfl, rfl, ⟨rfl, trivial⟩, rfl, rfl, rfl, rfl⟩
    | false =>
      rw [hc] at hn
      simp only [Bool.false_eq_true, if_false] at hn ⊢
      have e1 : IntKind.i64.wrap ((s.l.length : Int) - (rkI ⟨a, b⟩ L : Int)) = (abI ⟨a, b⟩ L : Int) := by rw [fits_wrap ⟨by omega, by omega⟩]; omega
      simp only [e1]
      refine ⟨⟨few⟩, ⟨trivial⟩, ⟨few⟩, ⟨trivial⟩, ⟨trivial⟩, ⟨few⟩, fun h => (by cases h), fun _ => ⟨?_⟩⟩
      subst hG
      exact ⟨[0], rfl, rfl, ⟨rfl, trivial⟩, rfl, rfl, rfl, rfl⟩
  · cases hx
end Go.Proofs.Ytljdcboijegllaa.G9
