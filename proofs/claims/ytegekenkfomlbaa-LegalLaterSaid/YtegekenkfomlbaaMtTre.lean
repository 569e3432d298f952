/- marks: the law's trees. -/
import Derived.Test.YtegekenkfomlbaaG8TC
import Derived.Test.YtegekenkfomlbaaBrL
import Derived.Test.YtegekenkfomlbaaTmRef
namespace Go.Proofs.Ytegekenkfomlbaa.Br
open Go.Proofs.Ytegekenkfomlbaa.Rx Go.Proofs.Ytegekenkfomlbaa.Wv Go.Proofs.Ytegekenkfomlbaa.G8
set_option linter.unusedVariables false
set_option linter.unusedSimpArgs false
set_option maxRecDepth 100000
set_option maxHeartbeats 8000000
/-- the tree after so many -/
def trC (l : List Mk) : Nat → Ts
  | 0 => Gv.TS.new k8 l.length
  | i + 1 => (trC l i).put (l.getD i mz)
structure TcOk (l : List Mk) (i : Nat) (s : Ts) : Prop where
  n : s.n = i
  c : s.c = l.length
  l : s.l = tmd l i
theorem TcOk.len {l : List Mk} {i : Nat} {s : Ts} (h : TcOk l i s) : s.l.length ≤ i := by rw [h.l]; exact tmd_len l i
theorem TcOk.putok {l : List Mk} {i : Nat} {s : Ts} (h : TcOk l i s) (hl : l.length ≤ 60) (hi : i < l.length) : s.PutOk (l.getD i mz) := ⟨by rw [h.n]; omega, by
  show (Gv.putE O8 (l.getD i mz) s.l).length ≤ 60
  rw [h.l]
  exact Nat.le_trans (tmd_len l (i + 1)) (by omega)⟩
theorem TcOk.putB {l : List Mk} {i : Nat} {s : Ts} (h : TcOk l i s) (hi : i < l.length) : s.putB (l.getD i mz) = true := by
  have := h.len
  unfold Gv.TS.putB
  rw [h.c, decide_eq_true (by omega), Bool.or_true]
theorem tc_ok (l : List Mk) (hl : l.length ≤ 60) : ∀ i, i ≤ l.length → TcOk l i (trC l i)
  | 0, _ => ⟨rfl, by show min (max (l.length : Int) 0) 16777216 = l.length; omega, rfl⟩
  | i + 1, h => by
    have ih := tc_ok l hl i (by omega)
    have hp := ih.putok hl (by omega)
    refine ⟨?_, ?_, ?_⟩
    · show ((trC l i).put (l.getD i mz)).n = i + 1
      rw [Gv.TS.put_n hp, ih.n]
    · show ((trC l i).put (l.getD i mz)).c = l.length
      rw [Gv.TS.put_c hp, ih.c]
    · show ((trC l i).put (l.getD i mz)).l = tmd l (i + 1)
      rw [Gv.TS.put_l hp]
      unfold Gv.TS.putL
      rw [if_pos (ih.putB (by omega)), ih.l]
      rfl
/-- ints wrap; the things' first blocks are cells -/
def rdP2 : Con Rt := ⟨fun _ _ => some true, fun _ _ => none, fun _ _ => some ⟨True, .bool false, none, [], [], []⟩⟩
theorem rdP2_ok : RdOk D2 rdP2 := by
  refine ⟨fun _ X p F w h => ?_, fun e X x p F w hx => by cases hx⟩
  obtain ⟨ρl, ftl, h1, h2, h3⟩ := h
  obtain ⟨t, cs, tl, hl⟩ : ∃ t cs tl, L2.lay X = some (.inl (t, cs)) :: tl := by cases X; exact ⟨_, _, _, rfl⟩
  obtain ⟨g1, g2, g3⟩ := (h3.at_ 0 (.inl (t, cs)) (by rw [hl]; rfl)).1
  subst h1
  exact ⟨(h2 _).2 ⟨0, (g2 _).2 rfl⟩, _, _, g3⟩
def TNw : Tab Rt := [(34, liftC zN 2 (con1 tnewP))]
theorem TNw_ok : TabOk D2 Try.prog TNw := ⟨liftC_ok _ _ tnew_ok, trivial⟩
def tnwP : Prim Rt := fun args hh => match args, hh with
  | [.int .i64 c], [] => some ⟨True, .pointer (some ⟨0, 0, none⟩), none, [oT (Gv.TS.new k8 c)], [], [(0, 0)]⟩
  | _, _ => none
theorem tnw_ok : ConOk D2 Try.prog 21 (con1 tnwP) := by
  refine con1_ok (prim_at (fn := Try.f21) (root := codeOf Try.f21) (by kernel_rfl) (by kernel_rfl) (by kernel_rfl) fun args hh x hx => ?_)
  unfold tnwP at hx
  split at hx
  · rename_i c
    injection hx with hx
    subst hx
    refine ⟨by first | exact Nat.le_refl _ | exact Nat.zero_le _ | exact Nat.le_succ _ | exact Nat.le_add_left 1 3 | exact Nat.le_add_left 2 2 | exact Nat.le_add_left 1 2, noLit rfl, (fun hw => by first | rfl | cases hw), fun _ hv => ?_⟩
    generalize hG : Rx.Ends (R := Rt) _ _ = G
    refine rx_ok (T := TNw) TNw_ok mixed 200 ?_
    refine as_text (q := Vc True ∧ Post (G (Value.pointer (some (Addr.mk 0 0 none))) [some (Sum.inr (Sum.inr (Sum.inr (Rt.tree (Gv.TS.new k8 c)))))])) ?_ (by kernel_rfl)
    subst hG
    exact ⟨⟨trivial⟩, ⟨⟨[0], rfl, rfl, ⟨rfl, trivial⟩, rfl, rfl, rfl, rfl⟩⟩⟩
  · cases hx
def TTr : Tab Rt := [(21, liftC zN 2 (con1 tnwP)), (22, liftC zN 2 (con1 tputP))]
theorem TTr_ok : TabOk D2 Try.prog TTr := ⟨liftC_ok _ _ tnw_ok, liftC_ok _ _ tput_ok, trivial⟩
def treP : Prim Rt := fun args hh => match args, hh with
  | [.slice (some ⟨0, 0, some 8000⟩) n c], [some (.inr (.inr (.inl r)))] => some ⟨r = mR (uM r) ∧ n = (uM r).length ∧ (uM r).length ≤ 60, .pointer (some ⟨1, 0, none⟩), none, [some (.inr (.inr (.inl r))), oT (trC (uM r) (uM r).length)], [], [(0, 0)]⟩
  | _, _ => none
theorem tre_ok : ConOk D2 Try.prog 7 (con1 treP) := by
  refine con1_ok (prim_at (fn := Try.f7) (root := codeOf Try.f7) (by kernel_rfl) (by kernel_rfl) (by kernel_rfl) fun args hh x hx => ?_)
  unfold treP at hx
  split at hx
  · rename_i n c r
    injection hx with hx
    subst hx
    refine ⟨by first | exact Nat.le_refl _ | exact Nat.zero_le _ | exact Nat.le_succ _ | exact Nat.le_add_left 1 3 | exact Nat.le_add_left 2 2 | exact Nat.le_add_left 1 2, noLit rfl, (fun hw => by first | rfl | cases hw), fun _ hv => ?_⟩
    obtain ⟨hr, rfl, hb⟩ := hv; generalize uM r = l at *; subst hr
    generalize hG : Rx.Ends (R := Rt) _ _ = G
    refine rx_ok (T := TTr) TTr_ok mixed 200 ?_
    refine as_text (q := let zz1 := (Value.slice (some (Addr.mk 0 0 (some 8000))) (List.length l) c); Vc True ∧ At D2 Try.prog (codeOf Try.f7) 1 (retK Try.prog (Array.toList (Func.results Try.f7)) G) [Sum.inl [1, 1, 0, 1, 0], Sum.inr (Sum.inl 0), Sum.inl [1, 1, 1]] (SS.mk [some zz1, none, some (Value.pointer none), some (Value.pointer (some (Addr.mk 1 0 none))), some (Value.int IntKind.i64 0), some zz1, some (Value.int IntKind.i64 (↑(List.length l) : Int)), some (Value.pointer (some (Addr.mk 1 0 none))), none, none, none, none, none, none, none, none, none, none, none, none, none, none, none, none, none, none, none, none, none, none, none, none, none] [] [some (Sum.inr (Sum.inr (Sum.inl (mR l)))), some (Sum.inr (Sum.inr (Sum.inr (Rt.tree (Gv.TS.new k8 (↑(List.length l) : Int))))))])) ?_ (by kernel_rfl)
    intro zz1; subst zz1
    refine ⟨⟨trivial⟩, ?_⟩
    refine loop_atM (by kernel_rfl) (ι := Nat) (fun i => i ≤ l.length) [0, 3, 4] (fun i => [.slice (some ⟨0, 0, some 8000⟩) l.length c, .pointer (some ⟨1, 0, none⟩), .int .i64 i]) (fun i => [vM l, oT (trC l i)]) (fun i => l.length - i) 33 (fun i hi => ⟨rfl, rfl, by simp⟩) ⟨0, Nat.zero_le _, ⟨[0, 1], rfl, ⟨rfl, rfl, trivial⟩, rfl, rfl, rfl, rfl⟩⟩ fun i hi => ?_
    refine rx_ok (T := TTr) TTr_ok mixed 200 ?_
    refine as_text (q := let zz1 := Value.pointer (some (Addr.mk 1 0 none)); (decide ((↑i : Int) < (↑(List.length l) : Int)) = true → Vc ((0 : Int) ≤ (↑i : Int) ∧ (↑i : Int) < (↑(List.length l) : Int) ∧ 0 + List.length l ≤ List.length l) ∧ Vc (0 + Int.toNat (↑i : Int) < List.length l) ∧ Vc ((0 : Int) ≤ (↑i : Int) ∧ (↑i : Int) < (↑(List.length l) : Int) ∧ 0 + List.length l ≤ List.length l) ∧ Vc (0 + Int.toNat (↑i : Int) < List.length l) ∧ Vc ((0 : Int) ≤ (↑i : Int) ∧ (↑i : Int) < (↑(List.length l) : Int) ∧ 0 + List.length l ≤ List.length l) ∧ Vc (0 + Int.toNat (↑i : Int) < List.length l) ∧ Vc (Gv.TS.PutOk (trC l i) (Mk.mk (List.getD (List.map Mk.t l) (0 + Int.toNat (↑i : Int)) (0 : Int)) (List.getD (List.map Mk.ins l) (0 + Int.toNat (↑i : Int)) false) (It.mk (List.getD (List.map (fun m => It.k (Mk.it m)) l) (0 + Int.toNat (↑i : Int)) (0 : Int)) (List.getD (List.map (fun m => It.i (Mk.it m)) l) (0 + Int.toNat (↑i : Int)) (0 : Int))) (List.getD (List.map Mk.here l) (0 + Int.toNat (↑i : Int)) false) (List.getD (List.map Mk.tf l) (0 + Int.toNat (↑i : Int)) false) (It.mk (List.getD (List.map (fun m => It.k (Mk.tk m)) l) (0 + Int.toNat (↑i : Int)) (0 : Int)) (List.getD (List.map (fun m => It.i (Mk.tk m)) l) (0 + Int.toNat (↑i : Int)) (0 : Int))))) ∧ Vc (fits ((↑i : Int) + (1 : Int))) ∧ Post (∃ j, j ≤ List.length l ∧ List.length l - j < List.length l - i ∧ FitsM Rt 1 33 [0, 3, 4] [Value.slice (some (Addr.mk 0 0 (some 8000))) (List.length l) c, zz1, Value.int IntKind.i64 (↑j : Int)] [vM l, oT (trC l j)] [some (Value.slice (some (Addr.mk 0 0 (some 8000))) (List.length l) c), some (zz1), some (Value.int IntKind.i64 ((↑i : Int) + (1 : Int)))] [some (Sum.inr (Sum.inr (Sum.inl (mR l)))), some (Sum.inr (Sum.inr (Sum.inr (Rt.tree (Gv.TS.put (trC l i) (Mk.mk (List.getD (List.map Mk.t l) (0 + Int.toNat (↑i : Int)) (0 : Int)) (List.getD (List.map Mk.ins l) (0 + Int.toNat (↑i : Int)) false) (It.mk (List.getD (List.map (fun m => It.k (Mk.it m)) l) (0 + Int.toNat (↑i : Int)) (0 : Int)) (List.getD (List.map (fun m => It.i (Mk.it m)) l) (0 + Int.toNat (↑i : Int)) (0 : Int))) (List.getD (List.map Mk.here l) (0 + Int.toNat (↑i : Int)) false) (List.getD (List.map Mk.tf l) (0 + Int.toNat (↑i : Int)) false) (It.mk (List.getD (List.map (fun m => It.k (Mk.tk m)) l) (0 + Int.toNat (↑i : Int)) (0 : Int)) (List.getD (List.map (fun m => It.i (Mk.tk m)) l) (0 + Int.toNat (↑i : Int)) (0 : Int)))))))))] 33)) ∧ (decide ((↑i : Int) < (↑(List.length l) : Int)) = false → Post (G (zz1) [some (Sum.inr (Sum.inr (Sum.inl (mR l)))), some (Sum.inr (Sum.inr (Sum.inr (Rt.tree (trC l i)))))]))) ?_ (by kernel_rfl)
    intro zz1; subst zz1
    have hs := tc_ok l hb i hi
    refine ⟨fun h => ?_, fun h => ⟨?_⟩⟩
    · have hlt : i < l.length := by have := of_decide_eq_true h; omega
      have b1 : (0 : Int) ≤ (i : Int) ∧ (i : Int) < (l.length : Int) ∧ 0 + l.length ≤ l.length := ⟨by omega, by omega, by omega⟩
      simp only [e_i, gM Mk.t 0 rfl, gM Mk.ins false rfl, gM Mk.here false rfl, gM Mk.tf false rfl, gM (fun m => m.it.k) 0 rfl, gM (fun m => m.it.i) 0 rfl, gM (fun m => m.tk.k) 0 rfl, gM (fun m => m.tk.i) 0 rfl]
      repeat' first | apply And.intro | exact ⟨b1⟩ | exact ⟨hlt⟩ | exact ⟨hs.putok hb hlt⟩ | exact ⟨⟨by omega, by omega⟩⟩ | apply Post.mk
      exact ⟨i + 1, hlt, by omega, ⟨[0, 1], rfl, ⟨rfl, rfl, trivial⟩, rfl, rfl, rfl, rfl⟩⟩
    · obtain rfl : i = l.length := by have := of_decide_eq_false h; omega
      subst hG
      exact ⟨[0, 1], rfl, rfl, ⟨rfl, rfl, trivial⟩, rfl, rfl, rfl, rfl⟩
  · cases hx
theorem k60 (s : Ts) : s.l.length ≤ 60 := s.ok.good
end Go.Proofs.Ytegekenkfomlbaa.Br
