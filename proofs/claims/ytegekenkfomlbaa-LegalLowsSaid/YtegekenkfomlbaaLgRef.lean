/- legal: the document's counts and legal lists. -/
import Derived.Test.YtegekenkfomlbaaLgL
namespace Go.Proofs.Ytegekenkfomlbaa.Lg
open Go.Proofs.Ytegekenkfomlbaa.Rx Go.Proofs.Ytegekenkfomlbaa.Wv Go.Proofs.Ytegekenkfomlbaa.Br
set_option linter.unusedVariables false
set_option linter.unusedSimpArgs false
set_option maxRecDepth 100000
set_option maxHeartbeats 8000000
/-- a mark of a row, cell by cell -/
def mkG (l : List Mk) (i : Int) : Mk := ⟨(l.map Mk.t).getD (0 + i.toNat) 0, (l.map Mk.ins).getD (0 + i.toNat) false, ⟨(l.map fun m => m.it.k).getD (0 + i.toNat) 0, (l.map fun m => m.it.i).getD (0 + i.toNat) 0⟩, (l.map Mk.here).getD (0 + i.toNat) false, (l.map Mk.tf).getD (0 + i.toNat) false, ⟨(l.map fun m => m.tk.k).getD (0 + i.toNat) 0, (l.map fun m => m.tk.i).getD (0 + i.toNat) 0⟩⟩
theorem mkG_eq (l : List Mk) (i : Nat) : mkG l (i : Int) = l.getD i mz := by
  unfold mkG
  simp only [e_i, gM Mk.t 0 rfl, gM Mk.ins false rfl, gM Mk.here false rfl, gM Mk.tf false rfl, gM (fun m => m.it.k) 0 rfl, gM (fun m => m.it.i) 0 rfl, gM (fun m => m.tk.k) 0 rfl, gM (fun m => m.tk.i) 0 rfl]
def legP {R : Type} : Prim R := fun args hh => match args, hh with
  | [.slice (some ⟨0, 0, some 8000⟩) n c], [some (.inr (.inr (.inl r)))] => some ⟨r = mR (uM r) ∧ n = (uM r).length ∧ (uM r).length ≤ 100, .bool (legB (uM r)), none, hh, [], []⟩
  | _, _ => none
theorem leg_ok {R : Type} {D : Res R} : ConOk D Try.prog 12 (con1 legP) := by
  refine con1_ok (prim_at (fn := Try.f12) (root := codeOf Try.f12) (by kernel_rfl) (by kernel_rfl) (by kernel_rfl) fun args hh x hx => ?_)
  unfold legP at hx
  split at hx
  · rename_i n c r
    injection hx with hx
    subst hx
    refine ⟨by first | exact Nat.le_refl _ | exact Nat.zero_le _ | exact Nat.le_succ _ | exact Nat.le_add_left 1 3 | exact Nat.le_add_left 2 2 | exact Nat.le_add_left 1 2, noLit rfl, (fun hw => by first | rfl | cases hw), fun _ hv => ?_⟩
    obtain ⟨hr, rfl, hb⟩ := hv; generalize uM r = l at *; subst hr
    generalize hG : Rx.Ends (R := R) _ _ = G
    refine rx_ok (T := []) trivial mixed 200 ?_
    refine as_text (q := At D Try.prog (codeOf Try.f12) 1 (retK Try.prog (Array.toList (Func.results Try.f12)) G) [Sum.inl [1, 1, 0, 1, 0], Sum.inr (Sum.inl 0), Sum.inl [1, 1, 1]] (SS.mk [some (Value.slice (some (Addr.mk 0 0 (some 8000))) (List.length l) c), none, some (Value.bool false), some (Value.int IntKind.i64 0), some (Value.int IntKind.i64 0), none, none, none, none, none, none, none, none, none, none, none, none, none, none, none, none, none, none] [(2, false)] [some (Sum.inr (Sum.inr (Sum.inl (mR l))))])) ?_ (by kernel_rfl)
    refine loop_atM (by kernel_rfl) (ι := Nat) (fun i => i ≤ l.length ∧ legN l i = true) [0, 3, 4] (fun i => [.slice (some ⟨0, 0, some 8000⟩) l.length c, .int .i64 (cts l i), .int .i64 i]) (fun i => [vM l]) (fun i => l.length - i) 23 (fun i hi => ⟨rfl, rfl, by simp⟩) ⟨0, ⟨Nat.zero_le _, rfl⟩, ⟨[0], by simp only [cts_zero]; rfl, ⟨rfl, trivial⟩, rfl, rfl, rfl, rfl⟩⟩ fun i hx => ?_
    obtain ⟨hi, hn⟩ := hx
    refine rx_ok (T := []) trivial mixed 200 ?_
    refine as_text (q := let zz3 := Value.int IntKind.i64; let zz1 := (G (Value.bool false) [some (Sum.inr (Sum.inr (Sum.inl (mR l))))]); let zz2 := (Value.slice (some (Addr.mk 0 0 (some 8000))) (List.length l) c); (decide ((↑i : Int) < (↑(List.length l) : Int)) = true → Vc ((0 : Int) ≤ (↑i : Int) ∧ (↑i : Int) < (↑(List.length l) : Int) ∧ 0 + List.length l ≤ List.length l) ∧ Vc (0 + Int.toNat (↑i : Int) < List.length l) ∧ (List.getD (List.map Mk.ins l) (0 + Int.toNat (↑i : Int)) false = true → Vc (fits (cts l i + (1 : Int))) ∧ (decide (cts l i + (1 : Int) < (0 : Int)) = true → Post zz1) ∧ (decide (cts l i + (1 : Int) < (0 : Int)) = false → Vc (fits ((↑i : Int) + (1 : Int))) ∧ Post (∃ j, (j ≤ List.length l ∧ legN l j = true) ∧ List.length l - j < List.length l - i ∧ FitsM R 1 23 [0, 3, 4] [Value.slice (some (Addr.mk 0 0 (some 8000))) (List.length l) c, zz3 (cts l j), zz3 (↑j : Int)] [vM l] [some zz2, some (zz3 (cts l i + (1 : Int))), some (zz3 ((↑i : Int) + (1 : Int)))] [some (Sum.inr (Sum.inr (Sum.inl (mR l))))] 23))) ∧ (List.getD (List.map Mk.ins l) (0 + Int.toNat (↑i : Int)) false = false → Vc (fits (cts l i - (1 : Int))) ∧ (decide (cts l i - (1 : Int) < (0 : Int)) = true → Post zz1) ∧ (decide (cts l i - (1 : Int) < (0 : Int)) = false → Vc (fits ((↑i : Int) + (1 : Int))) ∧ Post (∃ j, (j ≤ List.length l ∧ legN l j = true) ∧ List.length l - j < List.length l - i ∧ FitsM R 1 23 [0, 3, 4] [Value.slice (some (Addr.mk 0 0 (some 8000))) (List.length l) c, zz3 (cts l j), zz3 (↑j : Int)] [vM l] [some zz2, some (zz3 (cts l i - (1 : Int))), some (zz3 ((↑i : Int) + (1 : Int)))] [some (Sum.inr (Sum.inr (Sum.inl (mR l))))] 23)))) ∧ (decide ((↑i : Int) < (↑(List.length l) : Int)) = false → Post (G (Value.bool true) [some (Sum.inr (Sum.inr (Sum.inl (mR l))))]))) ?_ (by kernel_rfl)
    intro zz3 zz1 zz2; subst zz2 zz1 zz3
    have hcb := cts_b' hi
    refine ⟨fun h => ?_, fun h => ⟨?_⟩⟩
    · have hlt : i < l.length := by have := of_decide_eq_true h; omega
      have b1 : (0 : Int) ≤ (i : Int) ∧ (i : Int) < (l.length : Int) ∧ 0 + l.length ≤ l.length := ⟨by omega, by omega, by omega⟩
      have hs := cts_succ hlt
      have hc1 := cts_b' (i := i + 1) hlt
      have e1 : ∀ x : Int, x = cts l (i + 1) → decide (x < 0) = false → ∃ j, (j ≤ l.length ∧ legN l j = true) ∧ l.length - j < l.length - i ∧ FitsM R 1 23 [0, 3, 4] [.slice (some ⟨0, 0, some 8000⟩) l.length c, .int .i64 (cts l j), .int .i64 j] [vM l] [some (.slice (some ⟨0, 0, some 8000⟩) l.length c), some (.int .i64 x), some (.int .i64 ((i : Int) + 1))] [vM l] 23 := fun x hx hd => by
        subst hx
        have hd := of_decide_eq_false hd
        exact ⟨i + 1, ⟨hlt, by rw [legN, hn, decide_eq_true (by omega)]; rfl⟩, by omega, ⟨[0], rfl, ⟨rfl, trivial⟩, rfl, rfl, rfl, rfl⟩⟩
      have e2 : ∀ x : Int, x = cts l (i + 1) → decide (x < 0) = true → G (.bool false) [vM l] := fun x hx hd => by
        have hd := of_decide_eq_true hd
        subst hG
        rw [show (false : Bool) = legB l from (legB_no (j := i + 1) hlt (by omega)).symm]
        exact ⟨[0], rfl, rfl, ⟨rfl, trivial⟩, rfl, rfl, rfl, rfl⟩
      simp only [e_i, gM Mk.ins false rfl]
      refine ⟨⟨b1⟩, ⟨hlt⟩, fun h2 => ?_, fun h2 => ?_⟩
      · have hc : cnt (l.getD i mz) = 1 := by unfold cnt; rw [h2]; rfl
        exact ⟨⟨by omega, by omega⟩, fun h3 => ⟨e2 _ (by omega) h3⟩, fun h3 => ⟨⟨by omega, by omega⟩, ⟨e1 _ (by omega) h3⟩⟩⟩
      · have hc : cnt (l.getD i mz) = -1 := by unfold cnt; rw [h2]; rfl
        exact ⟨⟨by omega, by omega⟩, fun h3 => ⟨e2 _ (by omega) h3⟩, fun h3 => ⟨⟨by omega, by omega⟩, ⟨e1 _ (by omega) h3⟩⟩⟩
    · obtain rfl : i = l.length := by have := of_decide_eq_false h; omega
      subst hG
      rw [show (true : Bool) = legB l from hn.symm]
      exact ⟨[0], rfl, rfl, ⟨rfl, trivial⟩, rfl, rfl, rfl, rfl⟩
  · cases hx
def TLo {R : Type} : Tab R := [(26, liftV z0 2 (con1 cntsP)), (27, liftV z0 2 (con1 Ti.sumP))]
theorem TLo_ok {R : Type} {D : Res R} : TabOk D Try.prog (TLo : Tab R) := ⟨liftV_ok _ _ cnts_ok, liftV_ok _ _ Ti.sum_ok, trivial⟩
def lwrP {R : Type} : Prim R := fun args hh => match args, hh with
  | [.slice (some ⟨0, 0, some 8000⟩) n c, .int .i64 p, .int .i64 b], [some (.inr (.inr (.inl r)))] => some ⟨r = mR (uM r) ∧ n = (uM r).length ∧ (uM r).length ≤ 60, .int .i64 (lowI (uM r) p b), none, hh, [], []⟩
  | _, _ => none
theorem lwr_ok {R : Type} {D : Res R} : ConOk D Try.prog 10 (con1 lwrP) := by
  refine con1_ok (prim_at (fn := Try.f10) (root := codeOf Try.f10) (by kernel_rfl) (by kernel_rfl) (by kernel_rfl) fun args hh x hx => ?_)
  unfold lwrP at hx
  split at hx
  · rename_i n c p b r
    injection hx with hx
    subst hx
    refine ⟨by first | exact Nat.le_refl _ | exact Nat.zero_le _ | exact Nat.le_succ _ | exact Nat.le_add_left 1 3 | exact Nat.le_add_left 2 2 | exact Nat.le_add_left 1 2, noLit rfl, (fun hw => by first | rfl | cases hw), fun _ hv => ?_⟩
    obtain ⟨hr, rfl, hb⟩ := hv; generalize uM r = l at *; subst hr
    generalize hG : Rx.Ends (R := R) _ _ = G
    refine rx_ok (T := TLo) TLo_ok mixed 200 ?_
    refine as_text (q := let zz10 := Value.int IntKind.i64; let zz1 := (uM (mRx l 0 (List.length l))); let zz2 := (cut (List.map cnt zz1) 0 (List.length zz1)); let zz3 := (0 : Int); let zz4 := (↑(List.length l) : Int); let zz5 := (if zz4 < if zz3 > p then zz3 else p then zz4 else if zz3 > p then zz3 else p); let zz6 := (Value.slice (some (Addr.mk 0 0 (some 8000))) (List.length l) c); let zz7 := (zz10 zz5); let zz8 := (zz10 (if zz4 < if zz3 > b then zz3 else b then zz4 else if zz3 > b then zz3 else b)); let zz9 := (Value.slice (some (Addr.mk 2 0 (some 1000))) (List.length zz1) 0); Vc ((0 + List.length l ≤ List.length l ∧ True) ∧ mRx l 0 (List.length l) = mR zz1 ∧ List.length l = List.length zz1 ∧ List.length zz1 ≤ 60) ∧ Vc ((0 + List.length zz1 ≤ List.length zz1 ∧ True) ∧ List.length zz1 = List.length zz2 ∧ List.length zz1 = List.length zz2 ∧ Ti.Small zz2 ∧ (zz3 ≤ if zz4 < if zz3 > p then zz3 else p then zz4 else if zz3 > p then zz3 else p) ∧ zz5 ≤ (↑(List.length zz2) : Int)) ∧ At D Try.prog (codeOf Try.f10) 1 (retK Try.prog (Array.toList (Func.results Try.f10)) G) [Sum.inl [1, 1, 1, 1, 1, 0, 1, 0], Sum.inr (Sum.inl 0), Sum.inl [1, 1, 1, 1, 1, 1]] (SS.mk [some zz6, some zz7, some zz8, none, none, none, some (zz10 0), some zz9, some (zz10 (Ti.psum zz2 (Int.toNat zz5))), some zz7, some zz6, some zz9, some (zz10 p), some (zz10 (if zz3 > p then zz3 else p)), some zz6, some (zz10 zz4), some zz7, some (zz10 b), some (zz10 (if zz3 > b then zz3 else b)), some zz6, some (zz10 zz4), some zz8, some zz9, some zz7, some (zz10 (Ti.psum zz2 (Int.toNat zz5))), some zz7, none, none, none, none, none, none, none, none, none, none, none] [] [some (Sum.inr (Sum.inr (Sum.inl (mR l)))), none, some (Sum.inr (Sum.inl (3, Row.mk [zz10 0] (List.length zz1) [Col.mk (List.map cnt zz1) [] []])))])) ?_ (by kernel_rfl)
    intro zz10 zz1 zz2 zz3 zz4 zz5 zz6 zz7 zz8 zz9; subst zz9 zz8 zz7 zz6 zz5 zz4 zz3 zz2 zz1 zz10
    have ep : ∀ q : Int, (if (l.length : Int) < (if 0 > q then 0 else q) then (l.length : Int) else (if 0 > q then 0 else q)) = (clp l.length q : Int) := fun q => by unfold clp; split <;> split at * <;> omega
    have ec : cut (l.map cnt) 0 l.length = l.map cnt := cut_eq (by simp)
    simp only [mR_cut, mRx_all, uM_mR, ep, ec, Int.toNat_natCast]
    have hf := clp_le l.length p
    have hu := clp_le l.length b
    have hlow : lowI l p b = lwN l (clp l.length p) (clp l.length b + 1 - clp l.length p) := rfl
    rw [hlow] at hG
    generalize clp l.length p = f at *
    generalize clp l.length b = u at *
    clear ep
    refine ⟨⟨⟨by omega, trivial⟩, trivial, trivial, hb⟩, ⟨⟨by omega, trivial⟩, by simp, by simp, small_map cnt_b hb, by omega, by simp; omega⟩, ?_⟩
    refine loop_atM (by kernel_rfl) (ι := Nat) (fun k => k ≤ u + 1 - f) [2, 7, 8, 9] (fun k => [.int .i64 u, .slice (some ⟨1, 0, some 1000⟩) l.length 0, .int .i64 (lwN l f k), .int .i64 ((f + k : Nat) : Int)]) (fun k => [vM l, oN l.length (l.map cnt)]) (fun k => u + 1 - (f + k)) 37 (fun i hi => ⟨rfl, rfl, by simp⟩) ⟨0, Nat.zero_le _, ⟨[0, 2], rfl, ⟨rfl, ⟨_, rfl, .inl rfl⟩, trivial⟩, rfl, rfl, rfl, rfl⟩⟩ fun k hk => ?_
    refine rx_ok (T := TLo) TLo_ok mixed 200 ?_
    refine as_text (q := let zz2 := Value.int IntKind.i64; let zz1 := (cut (List.map cnt l) 0 (List.length l)); (decide ((↑(f + k) : Int) ≤ (↑u : Int)) = true → Vc ((0 + List.length l ≤ List.length l ∧ True) ∧ List.length l = List.length zz1 ∧ List.length l = List.length zz1 ∧ Ti.Small zz1 ∧ (0 : Int) ≤ (↑(f + k) : Int) ∧ (↑(f + k) : Int) ≤ (↑(List.length zz1) : Int)) ∧ Vc (fits ((↑(f + k) : Int) + (1 : Int))) ∧ Post (∃ j, j ≤ u + 1 - f ∧ u + 1 - (f + j) < u + 1 - (f + k) ∧ FitsM R 1 37 [2, 7, 8, 9] [zz2 (↑u : Int), Value.slice (some (Addr.mk 1 0 (some 1000))) (List.length l) 0, zz2 (lwN l f j), zz2 (↑(f + j) : Int)] [vM l, oN (List.length l) (List.map cnt l)] [some (zz2 (↑u : Int)), some (Value.slice (some (Addr.mk 1 0 (some 1000))) (List.length l) 0), some (zz2 (if Ti.psum zz1 (Int.toNat (↑(f + k) : Int)) < lwN l f k then Ti.psum zz1 (Int.toNat (↑(f + k) : Int)) else lwN l f k)), some (zz2 ((↑(f + k) : Int) + (1 : Int)))] [some (Sum.inr (Sum.inr (Sum.inl (mR l)))), some (Sum.inr (Sum.inl (3, Row.mk [zz2 0] (List.length l) [Col.mk (List.map cnt l) [] []])))] 37)) ∧ (decide ((↑(f + k) : Int) ≤ (↑u : Int)) = false → Post (G (zz2 (lwN l f k)) [some (Sum.inr (Sum.inr (Sum.inl (mR l)))), some (Sum.inr (Sum.inl (3, Row.mk [zz2 0] (List.length l) [Col.mk (List.map cnt l) [] []])))]))) ?_ (by kernel_rfl)
    intro zz2 zz1; subst zz1 zz2
    refine ⟨fun h => ?_, fun h => ⟨?_⟩⟩
    · have hle : f + k ≤ u := by have := of_decide_eq_true h; omega
      simp only [ec, Int.toNat_natCast]
      have e1 : (if Ti.psum (l.map cnt) (f + k) < lwN l f k then Ti.psum (l.map cnt) (f + k) else lwN l f k) = lwN l f (k + 1) := by
        show (if cts l (f + k) < _ then cts l (f + k) else _) = min (lwN l f k) (cts l (f + k))
        split <;> omega
      simp only [e1]
      exact ⟨⟨⟨by omega, trivial⟩, by simp, by simp, small_map cnt_b hb, by omega, by simp; omega⟩, ⟨by omega, by omega⟩, ⟨k + 1, by omega, by omega, ⟨[0, 1], rfl, ⟨rfl, ⟨_, rfl, .inl rfl⟩, trivial⟩, rfl, rfl, rfl, rfl⟩⟩⟩
    · have hk2 : k = u + 1 - f := by have := of_decide_eq_false h; omega
      subst hk2
      subst hG
      exact ⟨[0], rfl, rfl, ⟨rfl, trivial⟩, rfl, rfl, rfl, rfl⟩
  · cases hx
def attP {R : Type} : Prim R := fun args hh => match args, hh with
  | [.slice (some ⟨0, 0, some 8000⟩) n c, .int .i64 p], [some (.inr (.inr (.inl r)))] => some ⟨r = mR (uM r) ∧ n = (uM r).length ∧ (uM r).length ≤ 100, .int .i64 (atI (uM r) p), none, hh, [], []⟩
  | _, _ => none
theorem att_ok {R : Type} {D : Res R} : ConOk D Try.prog 14 (con1 attP) := by
  refine con1_ok (prim_at (fn := Try.f14) (root := codeOf Try.f14) (by kernel_rfl) (by kernel_rfl) (by kernel_rfl) fun args hh x hx => ?_)
  unfold attP at hx
  split at hx
  · rename_i n c p r
    injection hx with hx
    subst hx
    refine ⟨by first | exact Nat.le_refl _ | exact Nat.zero_le _ | exact Nat.le_succ _ | exact Nat.le_add_left 1 3 | exact Nat.le_add_left 2 2 | exact Nat.le_add_left 1 2, noLit rfl, (fun hw => by first | rfl | cases hw), fun _ hv => ?_⟩
    obtain ⟨hr, rfl, hb⟩ := hv; generalize uM r = l at *; subst hr
    generalize hG : Rx.Ends (R := R) _ _ = G
    refine rx_ok (T := []) trivial mixed 200 ?_
    refine as_text (q := At D Try.prog (codeOf Try.f14) 1 (retK Try.prog (Array.toList (Func.results Try.f14)) G) [Sum.inl [1, 0, 1, 0], Sum.inr (Sum.inl 0), Sum.inl [1, 1]] (SS.mk [some (Value.slice (some (Addr.mk 0 0 (some 8000))) (List.length l) c), some (Value.int IntKind.i64 p), none, none, some (Value.int IntKind.i64 0), some (Value.int IntKind.i64 0), none, none, none, none, none, none, none, none, none, none, none, none, none, none, none] [] [some (Sum.inr (Sum.inr (Sum.inl (mR l))))])) ?_ (by kernel_rfl)
    refine loop_atM (by kernel_rfl) (ι := Nat) (fun i => i ≤ l.findIdx (fun m => m.t == p)) [0, 1, 5] (fun i => [.slice (some ⟨0, 0, some 8000⟩) l.length c, .int .i64 p, .int .i64 i]) (fun i => [vM l]) (fun i => l.length - i) 21 (fun i hi => ⟨rfl, rfl, by simp⟩) ⟨0, Nat.zero_le _, ⟨[0], rfl, ⟨rfl, trivial⟩, rfl, rfl, rfl, rfl⟩⟩ fun i hi => ?_
    refine rx_ok (T := []) trivial mixed 200 ?_
    refine as_text (q := let zz2 := Value.int IntKind.i64; let zz1 := (List.getD (List.map Mk.t l) (0 + Int.toNat (↑i : Int)) (0 : Int) == p); (decide ((↑i : Int) < (↑(List.length l) : Int)) = true → Vc ((0 : Int) ≤ (↑i : Int) ∧ (↑i : Int) < (↑(List.length l) : Int) ∧ 0 + List.length l ≤ List.length l) ∧ Vc (0 + Int.toNat (↑i : Int) < List.length l) ∧ (zz1 = true → Post (G (zz2 (↑i : Int)) [some (Sum.inr (Sum.inr (Sum.inl (mR l))))])) ∧ (zz1 = false → Vc (fits ((↑i : Int) + (1 : Int))) ∧ Post (∃ j, j ≤ List.findIdx (fun m => Mk.t m == p) l ∧ List.length l - j < List.length l - i ∧ FitsM R 1 21 [0, 1, 5] [Value.slice (some (Addr.mk 0 0 (some 8000))) (List.length l) c, zz2 p, zz2 (↑j : Int)] [vM l] [some (Value.slice (some (Addr.mk 0 0 (some 8000))) (List.length l) c), some (zz2 p), some (zz2 ((↑i : Int) + (1 : Int)))] [some (Sum.inr (Sum.inr (Sum.inl (mR l))))] 21))) ∧ (decide ((↑i : Int) < (↑(List.length l) : Int)) = false → Post (G (zz2 (-1 : Int)) [some (Sum.inr (Sum.inr (Sum.inl (mR l))))]))) ?_ (by kernel_rfl)
    intro zz2 zz1; subst zz1 zz2
    have hle : l.findIdx (fun m => m.t == p) ≤ l.length := List.findIdx_le_length
    refine ⟨fun h => ?_, fun h => ⟨?_⟩⟩
    · have hlt : i < l.length := by have := of_decide_eq_true h; omega
      have b1 : (0 : Int) ≤ (i : Int) ∧ (i : Int) < (l.length : Int) ∧ 0 + l.length ≤ l.length := ⟨by omega, by omega, by omega⟩
      simp only [e_i, gM Mk.t 0 rfl]
      have eg : l.getD i mz = l[i] := by rw [List.getD_eq_getElem?_getD, List.getElem?_eq_getElem hlt]; rfl
      refine ⟨⟨b1⟩, ⟨hlt⟩, fun h2 => ⟨?_⟩, fun h2 => ⟨⟨by omega, by omega⟩, i + 1, ?_, by omega, ⟨[0], rfl, ⟨rfl, trivial⟩, rfl, rfl, rfl, rfl⟩⟩⟩
      · have e : l.findIdx (fun m => m.t == p) = i := by
          rcases Nat.lt_or_ge i (l.findIdx (fun m => m.t == p)) with c | c
          · rw [eg] at h2; have h3 : ((l[i]'hlt).t == p) = false := List.not_of_lt_findIdx (p := fun m : Mk => m.t == p) c; exact Bool.noConfusion (h2.symm.trans h3)
          · omega
        have e2 : atI l p = i := by unfold atI; rw [e, if_pos hlt]
        subst hG
        rw [← e2]
        exact ⟨[0], rfl, rfl, ⟨rfl, trivial⟩, rfl, rfl, rfl, rfl⟩
      · rcases Nat.lt_or_ge i (l.findIdx (fun m => m.t == p)) with c | c
        · exact c
        · have e : l.findIdx (fun m => m.t == p) = i := by omega
          have h3 : ((l[l.findIdx (fun m => m.t == p)]'(by omega)).t == p) = true := List.findIdx_getElem (p := fun m : Mk => m.t == p) (xs := l) (w := by omega)
          have e3 : l.getD (l.findIdx (fun m => m.t == p)) mz = l[l.findIdx (fun m => m.t == p)]'(by omega) := by rw [List.getD_eq_getElem?_getD, List.getElem?_eq_getElem (by omega)]; rfl
          rw [← e3, e] at h3
          rw [h3] at h2; cases h2
    · have e : l.findIdx (fun m => m.t == p) = l.length := by have := of_decide_eq_false h; omega
      have e2 : atI l p = -1 := by unfold atI; rw [e, if_neg (Nat.lt_irrefl _)]
      subst hG
      rw [← e2]
      exact ⟨[0], rfl, rfl, ⟨rfl, trivial⟩, rfl, rfl, rfl, rfl⟩
  · cases hx
def wtoP {R : Type} : Prim R := fun args hh => match args, hh with
  | [.slice (some ⟨0, 0, some 8000⟩) n c, .int .i64 p], [some (.inr (.inr (.inl r)))] => some ⟨r = mR (uM r) ∧ n = (uM r).length ∧ (uM r).length ≤ 100 ∧ 0 ≤ p ∧ p < (uM r).length, .slice (some ⟨1, 0, some 8000⟩) (wout (uM r) p.toNat).length 0, none, [some (.inr (.inr (.inl r))), oM (wout (uM r) p.toNat)], [], [(0, 0)]⟩
  | _, _ => none
theorem wto_ok {R : Type} {D : Res R} : ConOk D Try.prog 19 (con1 wtoP) := by
  refine con1_ok (prim_at (fn := Try.f19) (root := codeOf Try.f19) (by kernel_rfl) (by kernel_rfl) (by kernel_rfl) fun args hh x hx => ?_)
  unfold wtoP at hx
  split at hx
  · rename_i n c p r
    injection hx with hx
    subst hx
    refine ⟨by first | exact Nat.le_refl _ | exact Nat.zero_le _ | exact Nat.le_succ _ | exact Nat.le_add_left 1 3 | exact Nat.le_add_left 2 2 | exact Nat.le_add_left 1 2, noLit rfl, (fun hw => by first | rfl | cases hw), fun _ hv => ?_⟩
    obtain ⟨hr, rfl, hb, hp0, hp1⟩ := hv; generalize uM r = l at *; subst hr
    generalize hG : Rx.Ends (R := R) _ _ = G
    refine rx_ok (T := []) trivial mixed 200 ?_
    refine as_text (q := let zz4 := Value.int IntKind.i64; let zz1 := (↑(List.length l) : Int); let zz2 := (Int.toNat p); let zz3 := (Int.toNat (zz1 - (p + (1 : Int)))); Vc ((0 : Int) ≤ p ∧ p ≤ zz1 ∧ 0 + List.length l ≤ List.length l) ∧ Vc (0 ≤ 0 ∧ 0 + Int.toNat p ≤ List.length l ∧ (0 + Int.toNat p) * 64 ≤ 140737488355328 ∧ 0 + Int.toNat p ≤ 140737488355328) ∧ Vc (fits (p + (1 : Int))) ∧ Vc (0 = 0 ∧ (0 : Int) ≤ p + (1 : Int) ∧ p + (1 : Int) ≤ zz1 ∧ zz1 ≤ zz1 ∧ 0 + List.length l ≤ List.length l) ∧ Vc (0 + (0 + Int.toNat p) ≤ 0 + Int.toNat p ∧ 0 + Int.toNat (p + (1 : Int)) + Int.toNat (zz1 - (p + (1 : Int))) ≤ List.length l ∧ (0 + Int.toNat p + Int.toNat (zz1 - (p + (1 : Int)))) * 64 ≤ 140737488355328 ∧ 0 + Int.toNat p + Int.toNat (zz1 - (p + (1 : Int))) ≤ 140737488355328) ∧ Post (G (Value.slice (some (Addr.mk 4 0 (some 8000))) (0 + Int.toNat p + Int.toNat (zz1 - (p + (1 : Int)))) 0) [some (Sum.inr (Sum.inr (Sum.inl (mR l)))), some (Sum.inr (Sum.inl (42, Row.mk [zz4 0, Value.bool false, zz4 0, zz4 0, Value.bool false, Value.bool false, zz4 0, zz4 0] 0 [Col.mk [] [] [], Col.mk [] [] [], Col.mk [] [] [], Col.mk [] [] [], Col.mk [] [] [], Col.mk [] [] [], Col.mk [] [] [], Col.mk [] [] []]))), none, none, some (Sum.inr (Sum.inl (42, Row.mk [zz4 0, Value.bool false, zz4 0, zz4 0, Value.bool false, Value.bool false, zz4 0, zz4 0] (0 + Int.toNat p + Int.toNat (zz1 - (p + (1 : Int)))) [Col.mk (cut ([] ++ cut (List.map Mk.t l) 0 zz2) 0 (0 + Int.toNat p) ++ cut (List.map Mk.t l) (0 + Int.toNat (p + (1 : Int))) zz3) [] [], Col.mk [] (cut ([] ++ cut (List.map Mk.ins l) 0 zz2) 0 (0 + Int.toNat p) ++ cut (List.map Mk.ins l) (0 + Int.toNat (p + (1 : Int))) zz3) [], Col.mk (cut ([] ++ cut (List.map (fun m => It.k (Mk.it m)) l) 0 zz2) 0 (0 + Int.toNat p) ++ cut (List.map (fun m => It.k (Mk.it m)) l) (0 + Int.toNat (p + (1 : Int))) zz3) [] [], Col.mk (cut ([] ++ cut (List.map (fun m => It.i (Mk.it m)) l) 0 zz2) 0 (0 + Int.toNat p) ++ cut (List.map (fun m => It.i (Mk.it m)) l) (0 + Int.toNat (p + (1 : Int))) zz3) [] [], Col.mk [] (cut ([] ++ cut (List.map Mk.here l) 0 zz2) 0 (0 + Int.toNat p) ++ cut (List.map Mk.here l) (0 + Int.toNat (p + (1 : Int))) zz3) [], Col.mk [] (cut ([] ++ cut (List.map Mk.tf l) 0 zz2) 0 (0 + Int.toNat p) ++ cut (List.map Mk.tf l) (0 + Int.toNat (p + (1 : Int))) zz3) [], Col.mk (cut ([] ++ cut (List.map (fun m => It.k (Mk.tk m)) l) 0 zz2) 0 (0 + Int.toNat p) ++ cut (List.map (fun m => It.k (Mk.tk m)) l) (0 + Int.toNat (p + (1 : Int))) zz3) [] [], Col.mk (cut ([] ++ cut (List.map (fun m => It.i (Mk.tk m)) l) 0 zz2) 0 (0 + Int.toNat p) ++ cut (List.map (fun m => It.i (Mk.tk m)) l) (0 + Int.toNat (p + (1 : Int))) zz3) [] []])))])) ?_ (by kernel_rfl)
    intro zz4 zz1 zz2 zz3; subst zz3 zz2 zz1 zz4
    obtain ⟨i, rfl⟩ : ∃ i : Nat, p = i := ⟨p.toNat, by omega⟩
    have hlt : i < l.length := by omega
    have e0 : ((l.length : Int) - ((i : Int) + 1)).toNat = l.length - (i + 1) := by omega
    have e1 : ((i : Int) + 1).toNat = i + 1 := by omega
    have P : ∀ {β : Type} (f : Mk → β), cut ([] ++ cut (l.map f) 0 i) 0 i ++ cut (l.map f) (i + 1) (l.length - (i + 1)) = (wout l i).map f := fun {β} f => by
      have h1 : cut (l.map f) 0 i = (l.take i).map f := by rw [cut_map, cut_front]
      have h2 : cut (l.map f) (i + 1) (l.length - (i + 1)) = (l.drop (i + 1)).map f := by rw [cut_map, cut_rest]
      have h3 : cut ((l.take i).map f) 0 i = (l.take i).map f := cut_eq (by rw [List.length_map, List.length_take]; omega)
      rw [h1, h2, List.nil_append, h3, wout, List.map_append]
    have N : i + (l.length - (i + 1)) = (wout l i).length := by rw [wout_len hlt]; omega
    simp only [e0, e1, Int.toNat_natCast, Nat.zero_add, P, N]
    refine ⟨⟨by omega, by omega, by omega⟩, ⟨by omega, by omega, by omega, by omega⟩, ⟨by omega, by omega⟩, ⟨by trivial, by omega, by omega, by omega, by omega⟩, ⟨by omega, by omega, by rw [← N]; omega, by rw [← N]; omega⟩, ⟨?_⟩⟩
    subst hG
    exact ⟨[0, 4], rfl, rfl, ⟨rfl, ⟨_, rfl, .inl rfl⟩, trivial⟩, rfl, rfl, rfl, rfl⟩
  · cases hx
abbrev mkC (x : Mk) : List Value := [.int .i64 x.t, .bool x.ins, .int .i64 x.it.k, .int .i64 x.it.i, .bool x.here, .bool x.tf, .int .i64 x.tk.k, .int .i64 x.tk.i]
abbrev oK {R : Type} (x : Mk) : Option (SB R) := some (.inl (42, [.int .i64 x.t, .bool x.ins, .int .i64 x.it.k, .int .i64 x.it.i, .bool x.here, .bool x.tf, .int .i64 x.tk.k, .int .i64 x.tk.i]))
theorem wit_tail {R : Type} {D : Res R} {G : Value → Hp R → Prop} {l : List Mk} {x : Mk} {c r : Nat} {vc : Prop} (hb : l.length ≤ 100) (hr : rk8 x l = r) (hG : Rx.Ends [vM (R := R) l].length ⟨vc, .slice (some ⟨1, 0, some 8000⟩) (wth l x).length 0, none, [vM l, oM (wth l x)], [], [(0, 0)]⟩ = G) :
    At D Try.prog (codeOf Try.f16) 1 (retK Try.prog Try.f16.results.toList G) [.inl [1, 1, 1]] ⟨frame [0, 3, 5] [.slice (some ⟨0, 0, some 8000⟩) l.length c, .pointer (some ⟨1, 0, none⟩), .int .i64 r] 0 39, [], [vM l, oK x]⟩ := by
  refine rx_ok (T := []) trivial mixed 200 ?_
  refine as_text (q := let zz5 := Value.int IntKind.i64; let zz1 := (↑r : Int); let zz2 := (↑(List.length l) : Int); let zz3 := (Int.toNat zz1); let zz4 := (Int.toNat (zz2 - zz1)); Vc ((0 : Int) ≤ zz1 ∧ zz1 ≤ zz2 ∧ 0 + List.length l ≤ List.length l) ∧ Vc (0 ≤ 0 ∧ 0 + Int.toNat zz1 ≤ List.length l ∧ (0 + Int.toNat zz1) * 64 ≤ 140737488355328 ∧ 0 + Int.toNat zz1 ≤ 140737488355328) ∧ Vc (0 + (0 + Int.toNat zz1) ≤ 0 + Int.toNat zz1 ∧ 1 ≤ 1 ∧ (0 + Int.toNat zz1 + 1) * 64 ≤ 140737488355328 ∧ 0 + Int.toNat zz1 + 1 ≤ 140737488355328) ∧ Vc (0 = 0 ∧ (0 : Int) ≤ zz1 ∧ zz1 ≤ zz2 ∧ zz2 ≤ zz2 ∧ 0 + List.length l ≤ List.length l) ∧ Vc (0 + (0 + Int.toNat zz1 + 1) ≤ 0 + Int.toNat zz1 + 1 ∧ 0 + Int.toNat zz1 + Int.toNat (zz2 - zz1) ≤ List.length l ∧ (0 + Int.toNat zz1 + 1 + Int.toNat (zz2 - zz1)) * 64 ≤ 140737488355328 ∧ 0 + Int.toNat zz1 + 1 + Int.toNat (zz2 - zz1) ≤ 140737488355328) ∧ Post (G (Value.slice (some (Addr.mk 6 0 (some 8000))) (0 + Int.toNat zz1 + 1 + Int.toNat (zz2 - zz1)) 0) [some (Sum.inr (Sum.inr (Sum.inl (mR l)))), some (Sum.inl (42, [zz5 (Mk.t x), Value.bool (Mk.ins x), zz5 (It.k (Mk.it x)), zz5 (It.i (Mk.it x)), Value.bool (Mk.here x), Value.bool (Mk.tf x), zz5 (It.k (Mk.tk x)), zz5 (It.i (Mk.tk x))])), none, none, some (Sum.inr (Sum.inl (42, Row.mk [zz5 0, Value.bool false, zz5 0, zz5 0, Value.bool false, Value.bool false, zz5 0, zz5 0] 1 [Col.mk [Mk.t x] [] [], Col.mk [] [Mk.ins x] [], Col.mk [It.k (Mk.it x)] [] [], Col.mk [It.i (Mk.it x)] [] [], Col.mk [] [Mk.here x] [], Col.mk [] [Mk.tf x] [], Col.mk [It.k (Mk.tk x)] [] [], Col.mk [It.i (Mk.tk x)] [] []]))), none, some (Sum.inr (Sum.inl (42, Row.mk [zz5 0, Value.bool false, zz5 0, zz5 0, Value.bool false, Value.bool false, zz5 0, zz5 0] (0 + Int.toNat zz1 + 1 + Int.toNat (zz2 - zz1)) [Col.mk (cut (cut ([] ++ cut (List.map Mk.t l) 0 zz3) 0 (0 + Int.toNat zz1) ++ cut [Mk.t x] 0 1) 0 (0 + Int.toNat zz1 + 1) ++ cut (List.map Mk.t l) (0 + Int.toNat zz1) zz4) [] [], Col.mk [] (cut (cut ([] ++ cut (List.map Mk.ins l) 0 zz3) 0 (0 + Int.toNat zz1) ++ cut [Mk.ins x] 0 1) 0 (0 + Int.toNat zz1 + 1) ++ cut (List.map Mk.ins l) (0 + Int.toNat zz1) zz4) [], Col.mk (cut (cut ([] ++ cut (List.map (fun m => It.k (Mk.it m)) l) 0 zz3) 0 (0 + Int.toNat zz1) ++ cut [It.k (Mk.it x)] 0 1) 0 (0 + Int.toNat zz1 + 1) ++ cut (List.map (fun m => It.k (Mk.it m)) l) (0 + Int.toNat zz1) zz4) [] [], Col.mk (cut (cut ([] ++ cut (List.map (fun m => It.i (Mk.it m)) l) 0 zz3) 0 (0 + Int.toNat zz1) ++ cut [It.i (Mk.it x)] 0 1) 0 (0 + Int.toNat zz1 + 1) ++ cut (List.map (fun m => It.i (Mk.it m)) l) (0 + Int.toNat zz1) zz4) [] [], Col.mk [] (cut (cut ([] ++ cut (List.map Mk.here l) 0 zz3) 0 (0 + Int.toNat zz1) ++ cut [Mk.here x] 0 1) 0 (0 + Int.toNat zz1 + 1) ++ cut (List.map Mk.here l) (0 + Int.toNat zz1) zz4) [], Col.mk [] (cut (cut ([] ++ cut (List.map Mk.tf l) 0 zz3) 0 (0 + Int.toNat zz1) ++ cut [Mk.tf x] 0 1) 0 (0 + Int.toNat zz1 + 1) ++ cut (List.map Mk.tf l) (0 + Int.toNat zz1) zz4) [], Col.mk (cut (cut ([] ++ cut (List.map (fun m => It.k (Mk.tk m)) l) 0 zz3) 0 (0 + Int.toNat zz1) ++ cut [It.k (Mk.tk x)] 0 1) 0 (0 + Int.toNat zz1 + 1) ++ cut (List.map (fun m => It.k (Mk.tk m)) l) (0 + Int.toNat zz1) zz4) [] [], Col.mk (cut (cut ([] ++ cut (List.map (fun m => It.i (Mk.tk m)) l) 0 zz3) 0 (0 + Int.toNat zz1) ++ cut [It.i (Mk.tk x)] 0 1) 0 (0 + Int.toNat zz1 + 1) ++ cut (List.map (fun m => It.i (Mk.tk m)) l) (0 + Int.toNat zz1) zz4) [] []])))])) ?_ (by kernel_rfl)
  intro zz5 zz1 zz2 zz3 zz4; subst zz4 zz3 zz2 zz1 zz5
  have hle : r ≤ l.length := by rw [← hr]; exact Gv.rkE_le _ _
  have P : ∀ {β : Type} (f : Mk → β), (l.map f).take r ++ f x :: (l.map f).drop r = (wth l x).map f := fun {β} f => by
    rw [wth, hr, insM]; simp [List.map_take, List.map_drop]
  have A0 : ∀ {β : Type} (f : Mk → β) (v : β), cut (cut ([] ++ cut (l.map f) 0 r) 0 r ++ cut [v] 0 1) 0 (r + 1) ++ cut (l.map f) r ((l.length : Int) - (r : Int)).toNat = (l.map f).take r ++ v :: (l.map f).drop r := fun f v => put_row0 (List.length_map ..) hle
  have hwl := wth_len l x
  have N : r + 1 + ((l.length : Int) - (r : Int)).toNat = (wth l x).length := by omega
  simp only [Int.toNat_natCast, Nat.zero_add, A0, N, P Mk.t, P Mk.ins, P Mk.here, P Mk.tf, P (fun m => m.it.k), P (fun m => m.it.i), P (fun m => m.tk.k), P (fun m => m.tk.i)]
  refine ⟨⟨by omega, by omega, by omega⟩, ⟨by omega, by omega, by omega, by omega⟩, ⟨by omega, by omega, by omega, by omega⟩, ⟨by trivial, by omega, by omega, by omega, by omega⟩, ⟨by omega, by omega, by omega, by omega⟩, ⟨?_⟩⟩
  subst hG
  exact ⟨[0, 6], rfl, rfl, ⟨rfl, ⟨_, rfl, .inl rfl⟩, trivial⟩, rfl, rfl, rfl, rfl⟩
def witP {R : Type} : Prim R := fun args hh => match args, hh with
  | [.slice (some ⟨0, 0, some 8000⟩) n c, .agg ⟨[.int .i64 k0, .bool k1, .int .i64 k2, .int .i64 k3, .bool k4, .bool k5, .int .i64 k6, .int .i64 k7]⟩], [some (.inr (.inr (.inl r)))] => some ⟨r = mR (uM r) ∧ n = (uM r).length ∧ (uM r).length ≤ 100, .slice (some ⟨1, 0, some 8000⟩) (wth (uM r) (⟨k0, k1, ⟨k2, k3⟩, k4, k5, ⟨k6, k7⟩⟩ : Mk)).length 0, none, [some (.inr (.inr (.inl r))), oM (wth (uM r) (⟨k0, k1, ⟨k2, k3⟩, k4, k5, ⟨k6, k7⟩⟩ : Mk))], [], [(0, 0)]⟩
  | _, _ => none
theorem wit_ok {R : Type} {D : Res R} : ConOk D Try.prog 16 (con1 witP) := by
  refine con1_ok (prim_at (fn := Try.f16) (root := codeOf Try.f16) (by kernel_rfl) (by kernel_rfl) (by kernel_rfl) fun args hh x hx => ?_)
  unfold witP at hx
  split at hx
  · rename_i n c k0 k1 k2 k3 k4 k5 k6 k7 r
    injection hx with hx
    subst hx
    refine ⟨by first | exact Nat.le_refl _ | exact Nat.zero_le _ | exact Nat.le_succ _ | exact Nat.le_add_left 1 3 | exact Nat.le_add_left 2 2 | exact Nat.le_add_left 1 2, noLit rfl, (fun hw => by first | rfl | cases hw), fun _ hv => ?_⟩
    obtain ⟨hr, rfl, hb⟩ := hv; generalize uM r = l at *; subst hr
    generalize hG : Rx.Ends (R := R) _ _ = G
    refine rx_ok (T := []) trivial mixed 200 ?_
    refine as_text (q := let zz1 := Value.int IntKind.i64; At D Try.prog (codeOf Try.f16) 1 (retK Try.prog (Array.toList (Func.results Try.f16)) G) [Sum.inl [1, 1, 0, 0], Sum.inr (Sum.inl 0), Sum.inl [1, 1, 1]] (SS.mk [some (Value.slice (some (Addr.mk 0 0 (some 8000))) (List.length l) c), some (Value.agg (Array.mk [zz1 k0, Value.bool k1, zz1 k2, zz1 k3, Value.bool k4, Value.bool k5, zz1 k6, zz1 k7])), none, some (Value.pointer (some (Addr.mk 1 0 none))), some (Value.slice (some (Addr.mk 2 0 (some 8000))) 0 0), some (zz1 0), none, none, none, none, none, none, none, none, none, none, none, none, none, none, none, none, none, none, none, none, none, none, none, none, none, none, none, none, none, none, none, none, none] [] [some (Sum.inr (Sum.inr (Sum.inl (mR l)))), some (Sum.inl (42, [zz1 k0, Value.bool k1, zz1 k2, zz1 k3, Value.bool k4, Value.bool k5, zz1 k6, zz1 k7])), some (Sum.inr (Sum.inl (42, Row.mk [zz1 0, Value.bool false, zz1 0, zz1 0, Value.bool false, Value.bool false, zz1 0, zz1 0] 0 [Col.mk [] [] [], Col.mk [] [] [], Col.mk [] [] [], Col.mk [] [] [], Col.mk [] [] [], Col.mk [] [] [], Col.mk [] [] [], Col.mk [] [] []])))])) ?_ (by kernel_rfl)
    intro zz1; subst zz1
    generalize hx : (⟨k0, k1, ⟨k2, k3⟩, k4, k5, ⟨k6, k7⟩⟩ : Mk) = x at *
    refine loop_atM (by kernel_rfl) (ι := Nat) (fun k => k ≤ rk8 x l) [0, 3, 5] (fun k => [.slice (some ⟨0, 0, some 8000⟩) l.length c, .pointer (some ⟨1, 0, none⟩), .int .i64 k]) (fun k => [vM l, oK x]) (fun k => l.length - k) 39 (fun i hi => ⟨rfl, rfl, by simp⟩) ⟨0, Nat.zero_le _, ⟨[0, 1], rfl, ⟨rfl, .inl (by subst hx; rfl), trivial⟩, rfl, rfl, rfl, rfl⟩⟩ fun k hk => ?_
    refine rxS_ok (T := []) [[1, 1, 1]] trivial mixed 200 ?_
    refine as_text (q := let zz8 := Value.int IntKind.i64; let zz1 := (decide ((↑k : Int) < (↑(List.length l) : Int))); let zz2 := (List.getD (List.map Mk.t l) (0 + Int.toNat (↑k : Int)) (0 : Int) < Mk.t x); let zz3 := (Value.slice (some (Addr.mk 0 0 (some 8000))) (List.length l) c); let zz4 := (Value.pointer (some (Addr.mk 1 0 none))); let zz5 := (zz8 (↑k : Int)); let zz6 := (Value.pointer (some (Addr.mk 0 (0 + Int.toNat (↑k : Int)) (some 8000)))); let zz7 := (Value.tuple (Array.mk [])); (decide ((↑k : Int) < (↑(List.length l) : Int)) = true → Vc (Value.bool zz1 = Value.bool true) ∧ Vc ((0 : Int) ≤ (↑k : Int) ∧ (↑k : Int) < (↑(List.length l) : Int) ∧ 0 + List.length l ≤ List.length l) ∧ Vc (0 + Int.toNat (↑k : Int) < List.length l) ∧ (decide zz2 = true → Vc (fits ((↑k : Int) + (1 : Int))) ∧ Post (∃ j, j ≤ rk8 x l ∧ List.length l - j < List.length l - k ∧ FitsM R 1 39 [0, 3, 5] [Value.slice (some (Addr.mk 0 0 (some 8000))) (List.length l) c, Value.pointer (some (Addr.mk 1 0 none)), zz8 (↑j : Int)] [vM l, oK x] [some zz3, some zz4, some (zz8 ((↑k : Int) + (1 : Int)))] [some (Sum.inr (Sum.inr (Sum.inl (mR l)))), some (Sum.inl (42, [zz8 (Mk.t x), Value.bool (Mk.ins x), zz8 (It.k (Mk.it x)), zz8 (It.i (Mk.it x)), Value.bool (Mk.here x), Value.bool (Mk.tf x), zz8 (It.k (Mk.tk x)), zz8 (It.i (Mk.tk x))]))] 39)) ∧ (decide zz2 = false → At D Try.prog (codeOf Try.f16) 1 (retK Try.prog (Array.toList (Func.results Try.f16)) G) [Sum.inl [1, 1, 1]] (SS.mk [some zz3, none, none, some zz4, none, some zz5, none, some zz5, some zz3, some (zz8 (↑(List.length l) : Int)), some (Value.bool zz1), some (Value.bool true), some zz3, some zz5, some zz6, some zz6, some zz6, some (zz8 (List.getD (List.map Mk.t l) (0 + Int.toNat (↑k : Int)) (0 : Int))), some zz4, some zz4, some (zz8 (Mk.t x)), some (Value.bool (decide zz2)), some (Value.bool false), none, none, none, none, none, none, none, none, none, none, none, none, none, none, none, none] [(22, false), (11, true)] [some (Sum.inr (Sum.inr (Sum.inl (mR l)))), some (Sum.inl (42, [zz8 (Mk.t x), Value.bool (Mk.ins x), zz8 (It.k (Mk.it x)), zz8 (It.i (Mk.it x)), Value.bool (Mk.here x), Value.bool (Mk.tf x), zz8 (It.k (Mk.tk x)), zz8 (It.i (Mk.tk x))]))]))) ∧ (decide ((↑k : Int) < (↑(List.length l) : Int)) = false → Vc (Value.bool zz1 = Value.bool false) ∧ At D Try.prog (codeOf Try.f16) 1 (retK Try.prog (Array.toList (Func.results Try.f16)) G) [Sum.inl [1, 1, 1]] (SS.mk [some zz3, none, none, some zz4, none, some zz5, none, some zz5, some zz3, some (zz8 (↑(List.length l) : Int)), some (Value.bool zz1), some (Value.bool false), some zz7, some zz7, some zz7, some zz7, some zz7, some zz7, some zz7, some zz7, some zz7, some zz7, some (Value.bool false), none, none, none, none, none, none, none, none, none, none, none, none, none, none, none, none] [(11, false), (22, false)] [some (Sum.inr (Sum.inr (Sum.inl (mR l)))), some (Sum.inl (42, [zz8 (Mk.t x), Value.bool (Mk.ins x), zz8 (It.k (Mk.it x)), zz8 (It.i (Mk.it x)), Value.bool (Mk.here x), Value.bool (Mk.tf x), zz8 (It.k (Mk.tk x)), zz8 (It.i (Mk.tk x))]))]))) ?_ (by kernel_rfl)
    intro zz8 zz1 zz2 zz3 zz4 zz5 zz6 zz7; subst zz7 zz6 zz5 zz4 zz3 zz2 zz1 zz8
    have hle : rk8 x l ≤ l.length := Gv.rkE_le _ _
    refine ⟨fun h => ?_, fun h => ?_⟩
    · have hlt : k < l.length := by have := of_decide_eq_true h; omega
      simp only [e_i, gM Mk.t 0 rfl]
      refine ⟨⟨congrArg Value.bool h⟩, ⟨by omega, by omega, by omega⟩, ⟨hlt⟩, fun h2 => ⟨⟨by omega, by omega⟩, ⟨k + 1, ?_, by omega, ⟨[0, 1], rfl, ⟨rfl, .inl rfl, trivial⟩, rfl, rfl, rfl, rfl⟩⟩⟩, fun h2 => ?_⟩
      · have h3 := of_decide_eq_true h2
        rcases Nat.lt_or_ge k (rk8 x l) with c | c
        · exact c
        · obtain rfl : k = rk8 x l := by omega
          exact absurd h3 (rk8_ge hlt)
      · have h3 := of_decide_eq_false h2
        have hr : rk8 x l = k := by
          rcases Nat.lt_or_ge k (rk8 x l) with c | c
          · exact absurd (rk8_lt c) h3
          · omega
        exact At.fit [0, 3, 5] [.slice (some ⟨0, 0, some 8000⟩) l.length c, .pointer (some ⟨1, 0, none⟩), .int .i64 k] [vM l, oK x] 39 ⟨rfl, rfl, by simp⟩ ⟨[0, 1], rfl, ⟨rfl, .inl rfl, trivial⟩, rfl, rfl, rfl, rfl⟩ (wit_tail hb hr hG)
    · have h3 := of_decide_eq_false h
      have hr : rk8 x l = k := by omega
      exact ⟨⟨congrArg Value.bool h⟩, At.fit [0, 3, 5] [.slice (some ⟨0, 0, some 8000⟩) l.length c, .pointer (some ⟨1, 0, none⟩), .int .i64 k] [vM l, oK x] 39 ⟨rfl, rfl, by simp⟩ ⟨[0, 1], rfl, ⟨rfl, .inl rfl, trivial⟩, rfl, rfl, rfl, rfl⟩ (wit_tail hb hr hG)⟩
  · cases hx
def dltP {R : Type} : Prim R := fun args hh => match args, hh with
  | [.int .i64 p], [] => some ⟨True, .agg ⟨[.int .i64 p, .bool false, .int .i64 0, .int .i64 0, .bool false, .bool false, .int .i64 0, .int .i64 0]⟩, none, hh, [], []⟩
  | _, _ => none
theorem dlt_ok {R : Type} {D : Res R} : ConOk D Try.prog 17 (con1 dltP) := by
  refine con1_ok (prim_at (fn := Try.f17) (root := codeOf Try.f17) (by kernel_rfl) (by kernel_rfl) (by kernel_rfl) fun args hh x hx => ?_)
  unfold dltP at hx
  split at hx
  · rename_i p
    injection hx with hx
    subst hx
    refine ⟨by first | exact Nat.le_refl _ | exact Nat.zero_le _ | exact Nat.le_succ _ | exact Nat.le_add_left 1 3 | exact Nat.le_add_left 2 2 | exact Nat.le_add_left 1 2, noLit rfl, (fun hw => by first | rfl | cases hw), fun _ hv => ?_⟩
    generalize hG : Rx.Ends (R := R) _ _ = G
    refine rx_ok (T := []) trivial mixed 200 ?_
    refine as_text (q := let zz1 := Value.int IntKind.i64; Post (G (Value.agg (Array.mk [zz1 p, Value.bool false, zz1 0, zz1 0, Value.bool false, Value.bool false, zz1 0, zz1 0])) [some (Sum.inl (42, [zz1 p, Value.bool false, zz1 0, zz1 0, Value.bool false, Value.bool false, zz1 0, zz1 0]))])) ?_ (by kernel_rfl)
    intro zz1; subst zz1
    subst hG
    exact ⟨⟨[], rfl, rfl, trivial, rfl, rfl, rfl, rfl⟩⟩
  · cases hx
def TOf {R : Type} : Tab R := [(16, liftV z0 2 (con1 witP)), (14, liftV z0 2 (con1 attP)), (12, liftV z0 2 (con1 legP))]
theorem TOf_ok {R : Type} {D : Res R} : TabOk D Try.prog (TOf : Tab R) := ⟨liftV_ok _ _ wit_ok, liftV_ok _ _ att_ok, liftV_ok _ _ leg_ok, trivial⟩
def oofP {R : Type} : Prim R := fun args hh => match args, hh with
  | [.slice (some ⟨0, 0, some 8000⟩) n c], [some (.inr (.inr (.inl r)))] => some ⟨r = mR (uM r) ∧ n = (uM r).length ∧ (uM r).length ≤ 60, .slice (some ⟨1, 0, some 8000⟩) (ofL (uM r)).length 0, none, [some (.inr (.inr (.inl r))), oM (ofL (uM r))], [], [(0, 0)]⟩
  | _, _ => none
theorem oof_ok {R : Type} {D : Res R} : ConOk D Try.prog 13 (con1 oofP) := by
  refine con1_ok (prim_at (fn := Try.f13) (root := codeOf Try.f13) (by kernel_rfl) (by kernel_rfl) (by kernel_rfl) fun args hh x hx => ?_)
  unfold oofP at hx
  split at hx
  · rename_i n c r
    injection hx with hx
    subst hx
    refine ⟨by first | exact Nat.le_refl _ | exact Nat.zero_le _ | exact Nat.le_succ _ | exact Nat.le_add_left 1 3 | exact Nat.le_add_left 2 2 | exact Nat.le_add_left 1 2, noLit rfl, (fun hw => by first | rfl | cases hw), fun _ hv => ?_⟩
    obtain ⟨hr, rfl, hb⟩ := hv; generalize uM r = l at *; subst hr
    generalize hG : Rx.Ends (R := R) _ _ = G
    refine rx_ok (T := TOf) TOf_ok mixed 200 ?_
    refine as_text (q := let zz1 := Value.int IntKind.i64; At D Try.prog (codeOf Try.f13) 1 (retK Try.prog (Array.toList (Func.results Try.f13)) G) [Sum.inl [1, 1, 0, 1, 0], Sum.inr (Sum.inl 0), Sum.inl [1, 1, 1]] (SS.mk [some (Value.slice (some (Addr.mk 0 0 (some 8000))) (List.length l) c), none, some (Value.slice (some (Addr.mk 1 0 (some 8000))) 0 0), some (Value.slice (some (Addr.mk 2 0 (some 8000))) 0 0), some (zz1 0), none, none, none, none, none, none, none, none, none, none, none, none, none, none, none, none, none, none, none, none, none, none, none, none, none, none, none, none] [] [some (Sum.inr (Sum.inr (Sum.inl (mR l)))), some (Sum.inr (Sum.inl (42, Row.mk [zz1 0, Value.bool false, zz1 0, zz1 0, Value.bool false, Value.bool false, zz1 0, zz1 0] 0 [Col.mk [] [] [], Col.mk [] [] [], Col.mk [] [] [], Col.mk [] [] [], Col.mk [] [] [], Col.mk [] [] [], Col.mk [] [] [], Col.mk [] [] []]))), some (Sum.inr (Sum.inl (42, Row.mk [zz1 0, Value.bool false, zz1 0, zz1 0, Value.bool false, Value.bool false, zz1 0, zz1 0] 0 [Col.mk [] [] [], Col.mk [] [] [], Col.mk [] [] [], Col.mk [] [] [], Col.mk [] [] [], Col.mk [] [] [], Col.mk [] [] [], Col.mk [] [] []])))])) ?_ (by kernel_rfl)
    intro zz1; subst zz1
    refine loop_atM (by kernel_rfl) (ι := Nat) (fun i => i ≤ l.length) [0, 3, 4] (fun i => [.slice (some ⟨0, 0, some 8000⟩) l.length c, .slice (some ⟨1, 0, some 8000⟩) (ofN l i).length 0, .int .i64 i]) (fun i => [vM l, oM (ofN l i)]) (fun i => l.length - i) 33 (fun i hi => ⟨rfl, rfl, by simp⟩) ⟨0, Nat.zero_le _, ⟨[0, 2], rfl, ⟨rfl, ⟨_, rfl, .inl rfl⟩, trivial⟩, rfl, rfl, rfl, rfl⟩⟩ fun i hi => ?_
    refine rx_ok (T := TOf) TOf_ok mixed 200 ?_
    refine as_text (q := let zz7 := Value.int IntKind.i64; let zz1 := (uM (mRx (ofN l i) 0 (List.length (ofN l i)))); let zz2 := (atI zz1 (List.getD (List.map Mk.t l) (0 + Int.toNat (↑i : Int)) (0 : Int)) < (0 : Int)); let zz3 := (wth zz1 (mkG l (↑i : Int))); let zz4 := (uM (mRx zz3 0 (List.length zz3))); let zz5 := (Value.slice (some (Addr.mk 0 0 (some 8000))) (List.length l) c); let zz6 := (Value.slice (some (Addr.mk 1 0 (some 8000))) (List.length (ofN l i)) 0); (decide ((↑i : Int) < (↑(List.length l) : Int)) = true → Vc ((0 : Int) ≤ (↑i : Int) ∧ (↑i : Int) < (↑(List.length l) : Int) ∧ 0 + List.length l ≤ List.length l) ∧ Vc (0 + Int.toNat (↑i : Int) < List.length l) ∧ Vc ((0 + List.length (ofN l i) ≤ List.length (ofN l i) ∧ True) ∧ mRx (ofN l i) 0 (List.length (ofN l i)) = mR zz1 ∧ List.length (ofN l i) = List.length zz1 ∧ List.length zz1 ≤ 100) ∧ Vc ((0 : Int) ≤ (↑i : Int) ∧ (↑i : Int) < (↑(List.length l) : Int) ∧ 0 + List.length l ≤ List.length l) ∧ Vc (0 + Int.toNat (↑i : Int) < List.length l) ∧ Vc ((0 + List.length (ofN l i) ≤ List.length (ofN l i) ∧ True) ∧ mRx (ofN l i) 0 (List.length (ofN l i)) = mR zz1 ∧ List.length (ofN l i) = List.length zz1 ∧ List.length zz1 ≤ 100) ∧ (decide zz2 = true → Vc ((0 + List.length zz3 ≤ List.length zz3 ∧ True) ∧ mRx zz3 0 (List.length zz3) = mR zz4 ∧ List.length zz3 = List.length zz4 ∧ List.length zz4 ≤ 100) ∧ (legB zz4 = true → Vc (fits ((↑i : Int) + (1 : Int))) ∧ Post (∃ j, j ≤ List.length l ∧ List.length l - j < List.length l - i ∧ FitsM R 1 33 [0, 3, 4] [Value.slice (some (Addr.mk 0 0 (some 8000))) (List.length l) c, Value.slice (some (Addr.mk 1 0 (some 8000))) (List.length (ofN l j)) 0, zz7 (↑j : Int)] [vM l, oM (ofN l j)] [some zz5, some (Value.slice (some (Addr.mk 3 0 (some 8000))) (List.length zz3) 0), some (zz7 ((↑i : Int) + (1 : Int)))] [some (Sum.inr (Sum.inr (Sum.inl (mR l)))), some (Sum.inr (Sum.inl (42, mR (ofN l i)))), none, some (Sum.inr (Sum.inl (42, mR zz3)))] 33)) ∧ (legB zz4 = false → Vc (fits ((↑i : Int) + (1 : Int))) ∧ Post (∃ j, j ≤ List.length l ∧ List.length l - j < List.length l - i ∧ FitsM R 1 33 [0, 3, 4] [Value.slice (some (Addr.mk 0 0 (some 8000))) (List.length l) c, Value.slice (some (Addr.mk 1 0 (some 8000))) (List.length (ofN l j)) 0, zz7 (↑j : Int)] [vM l, oM (ofN l j)] [some zz5, some zz6, some (zz7 ((↑i : Int) + (1 : Int)))] [some (Sum.inr (Sum.inr (Sum.inl (mR l)))), some (Sum.inr (Sum.inl (42, mR (ofN l i)))), none, some (Sum.inr (Sum.inl (42, mR zz3)))] 33))) ∧ (decide zz2 = false → Vc (fits ((↑i : Int) + (1 : Int))) ∧ Post (∃ j, j ≤ List.length l ∧ List.length l - j < List.length l - i ∧ FitsM R 1 33 [0, 3, 4] [Value.slice (some (Addr.mk 0 0 (some 8000))) (List.length l) c, Value.slice (some (Addr.mk 1 0 (some 8000))) (List.length (ofN l j)) 0, zz7 (↑j : Int)] [vM l, oM (ofN l j)] [some zz5, some zz6, some (zz7 ((↑i : Int) + (1 : Int)))] [some (Sum.inr (Sum.inr (Sum.inl (mR l)))), some (Sum.inr (Sum.inl (42, mR (ofN l i)))), none, some (Sum.inr (Sum.inl (42, mR zz3)))] 33))) ∧ (decide ((↑i : Int) < (↑(List.length l) : Int)) = false → Post (G zz6 [some (Sum.inr (Sum.inr (Sum.inl (mR l)))), some (Sum.inr (Sum.inl (42, mR (ofN l i))))]))) ?_ (by kernel_rfl)
    intro zz7 zz1 zz2 zz3 zz4 zz5 zz6; subst zz6 zz5 zz4 zz3 zz2 zz1 zz7
    refine ⟨fun h => ?_, fun h => ⟨?_⟩⟩
    · have hlt : i < l.length := by have := of_decide_eq_true h; omega
      have ho := (ofN_ok l i).1
      have hw := wth_len (ofN l i) (l.getD i mz)
      simp only [mRx_all, uM_mR, mkG_eq, e_i, gM Mk.t 0 rfl]
      have b1 : (0 : Int) ≤ (i : Int) ∧ (i : Int) < (l.length : Int) ∧ 0 + l.length ≤ l.length := ⟨by omega, by omega, by omega⟩
      have b2 : (0 + (ofN l i).length ≤ (ofN l i).length ∧ True) ∧ True ∧ True ∧ (ofN l i).length ≤ 100 := ⟨⟨by omega, trivial⟩, trivial, trivial, by omega⟩
      have no : ∀ (hn : ¬ (atI (ofN l i) (l.getD i mz).t < 0 ∧ legB (wth (ofN l i) (l.getD i mz)) = true)), ofN l (i + 1) = ofN l i := fun hn => by rw [ofN, if_neg hn]
      refine ⟨⟨b1⟩, ⟨hlt⟩, ⟨b2⟩, ⟨b1⟩, ⟨hlt⟩, ⟨b2⟩, fun h2 => ⟨⟨⟨by omega, trivial⟩, trivial, trivial, by omega⟩, fun h3 => ⟨⟨by omega, by omega⟩, ⟨i + 1, hlt, by omega, ?_⟩⟩, fun h3 => ⟨⟨by omega, by omega⟩, ⟨i + 1, hlt, by omega, ?_⟩⟩⟩, fun h2 => ⟨⟨by omega, by omega⟩, ⟨i + 1, hlt, by omega, ?_⟩⟩⟩
      · have e : ofN l (i + 1) = wth (ofN l i) (l.getD i mz) := by rw [ofN, if_pos ⟨of_decide_eq_true h2, h3⟩]
        rw [e]
        exact ⟨[0, 3], rfl, ⟨rfl, ⟨_, rfl, .inl rfl⟩, trivial⟩, rfl, rfl, rfl, rfl⟩
      · rw [no fun c => by rw [c.2] at h3; cases h3]
        exact ⟨[0, 1], rfl, ⟨rfl, ⟨_, rfl, .inl rfl⟩, trivial⟩, rfl, rfl, rfl, rfl⟩
      · rw [no fun c => of_decide_eq_false h2 c.1]
        exact ⟨[0, 1], rfl, ⟨rfl, ⟨_, rfl, .inl rfl⟩, trivial⟩, rfl, rfl, rfl, rfl⟩
    · obtain rfl : i = l.length := by have := of_decide_eq_false h; omega
      subst hG
      exact ⟨[0, 1], rfl, rfl, ⟨rfl, ⟨_, rfl, .inl rfl⟩, trivial⟩, rfl, rfl, rfl, rfl⟩
  · cases hx
end Go.Proofs.Ytegekenkfomlbaa.Lg
