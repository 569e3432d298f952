/- bridge: its laws. -/
import Derived.Test.YtdgglimfjfedaaaBrFn
namespace Go.Proofs.Ytdgglimfjfedaaa.Br
open Go.Proofs.Ytdgglimfjfedaaa.Rx Go.Proofs.Ytdgglimfjfedaaa.Wv Go.Proofs.Ytdgglimfjfedaaa.G8
set_option linter.unusedVariables false
set_option linter.unusedSimpArgs false
set_option maxRecDepth 100000
set_option maxHeartbeats 8000000
def heightP {R : Type} : Prim R := fun args hh => match args, hh with
  | [.int .i64 n], [] => some ⟨0 ≤ n ∧ n ≤ 100000, .int .i64 (Gv.hgt n.toNat), none, hh, [], []⟩
  | _, _ => none
theorem height_ok {R : Type} {D : Res R} : ConOk D Try.prog 24 (con1 heightP) := by
  refine con1_ok (prim_at (fn := Try.f24) (root := codeOf Try.f24) (by kernel_rfl) (by kernel_rfl) (by kernel_rfl) fun args hh x hx => ?_)
  unfold heightP at hx
  split at hx
  · rename_i n
    injection hx with hx
    subst hx
    refine ⟨by first | exact Nat.le_refl _ | exact Nat.zero_le _ | exact Nat.le_succ _, noLit rfl, (fun hw => by first | rfl | cases hw), fun _ hv => ?_⟩
    obtain ⟨h0, h1⟩ := hv
    generalize hG : Rx.Ends (R := R) _ _ = G
    refine rx_ok (T := []) trivial mixed 200 ?_
    refine as_text (q := let zz1 := Value.int IntKind.i64; Vc (fits (n + (1 : Int))) ∧ At D Try.prog (codeOf Try.f24) 0 (retK Try.prog (Array.toList (Func.results Try.f24)) G) [Sum.inl [1, 1, 0, 1, 0], Sum.inr (Sum.inl 0), Sum.inl [1, 1, 1]] (SS.mk [some (zz1 n), none, some (zz1 0), some (zz1 2), some (zz1 (n + (1 : Int))), some (zz1 n), some (zz1 (n + (1 : Int))), none, none, none, none, none, none, none] [] [])) ?_ (by kernel_rfl)
    intro zz1; subst zz1
    refine ⟨⟨⟨by omega, by omega⟩⟩, ?_⟩
    refine loop_atM (by kernel_rfl) (ι := Nat) (fun k => 1 ≤ k ∧ k ≤ n.toNat + 1) [0, 3, 4] (fun k => [.int .i64 n, .int .i64 (2 + 3 * Nat.log2 (n.toNat + 1) - 3 * Nat.log2 k), .int .i64 k]) (fun k => []) (fun k => k) 14 (fun i hi => ⟨rfl, rfl, Nat.le_refl _⟩) ⟨n.toNat + 1, ⟨by omega, Nat.le_refl _⟩, ⟨[], ?_, trivial, rfl, rfl, rfl, rfl⟩⟩ fun i hi => ?_
    · have e : 2 + 3 * (Nat.log2 (n.toNat + 1) : Int) - 3 * (Nat.log2 (n.toNat + 1) : Int) = 2 := by omega
      have e2 : ((n.toNat + 1 : Nat) : Int) = n + 1 := by omega
      rw [e, e2]
      rfl
    refine rx_ok (T := []) trivial mixed 200 ?_
    refine as_text (q := let zz2 := Value.int IntKind.i64; let zz1 := (↑(Nat.log2 (Int.toNat n + 1)) : Int); (decide ((↑i : Int) > (1 : Int)) = true → Vc (fits ((2 : Int) + (3 : Int) * zz1 - (3 : Int) * (↑(Nat.log2 i) : Int) + (3 : Int))) ∧ Vc ((2 : Int) ≠ (0 : Int) ∧ fits (Int.tdiv (↑i : Int) (2 : Int))) ∧ Post (∃ j, (1 ≤ j ∧ j ≤ Int.toNat n + 1) ∧ j < i ∧ FitsM R 0 14 [0, 3, 4] [zz2 n, zz2 ((2 : Int) + (3 : Int) * zz1 - (3 : Int) * (↑(Nat.log2 j) : Int)), zz2 (↑j : Int)] [] [some (zz2 n), some (zz2 ((2 : Int) + (3 : Int) * zz1 - (3 : Int) * (↑(Nat.log2 i) : Int) + (3 : Int))), some (zz2 (Int.tdiv (↑i : Int) (2 : Int)))] [] 14)) ∧ (decide ((↑i : Int) > (1 : Int)) = false → Post (G (zz2 ((2 : Int) + (3 : Int) * zz1 - (3 : Int) * (↑(Nat.log2 i) : Int))) []))) ?_ (by kernel_rfl)
    intro zz2 zz1; subst zz1 zz2
    have hd : (i : Int).tdiv 2 = ((i / 2 : Nat) : Int) := by rw [Int.tdiv_eq_ediv_of_nonneg (by omega)]; omega
    have hb : Nat.log2 i ≤ Nat.log2 (n.toNat + 1) := (Nat.le_log2 (by omega)).2 (Nat.le_trans (Nat.log2_self_le (by omega)) hi.2)
    have hs : 2 ≤ i → Nat.log2 i = Nat.log2 (i / 2) + 1 := fun h => by conv => lhs; rw [Nat.log2_def, if_pos h]
    have hz : i = 1 → Nat.log2 i = 0 := fun h => by rw [h]; rfl
    have hL : Nat.log2 (n.toNat + 1) ≤ 100001 := Nat.le_trans (Nat.log2_le_self _) (by omega)
    repeat' (first | apply And.intro | apply Vc.mk | apply fits.mk | intro h | apply Post.mk)
    all_goals (try simp only [decide_eq_true_eq, decide_eq_false_iff_not, Nat.zero_add, ge_iff_le, Int.not_le, Int.not_lt, Int.toNat_natCast, beq_iff_eq, beq_eq_false_iff_ne, bne_iff_ne, bne_eq_false_iff_eq, Bool.not_eq_true', Bool.not_eq_false'] at *)
    all_goals first | contradiction | omega | (apply congrArg Value.bool; assumption) | exact congrArg Value.bool (decide_eq_true (by assumption)) | exact congrArg Value.bool (decide_eq_false (Int.not_lt.mpr (by assumption))) | exact ⟨rfl, by omega⟩ | exact rfl | (simp [*, -List.getD_eq_getElem?_getD]; done) | skip
    all_goals first
      | (have h2 := hs (by omega)
         refine ⟨i / 2, ⟨by omega, by omega⟩, by omega, ⟨[], ?_, trivial, rfl, rfl, rfl, rfl⟩⟩
         have e : 2 + 3 * (Nat.log2 (n.toNat + 1) : Int) - 3 * (Nat.log2 i : Int) + 3 = 2 + 3 * (Nat.log2 (n.toNat + 1) : Int) - 3 * (Nat.log2 (i / 2) : Int) := by omega
         rw [hd, e]
         rfl)
      | (have e : 2 + 3 * (Nat.log2 (n.toNat + 1) : Int) - 3 * (Nat.log2 i : Int) = ((Gv.hgt n.toNat : Nat) : Int) := by
           rw [hz (by omega)]; unfold Gv.hgt; omega
         subst hG
         rw [e]
         exact ⟨[], rfl, rfl, trivial, rfl, rfl, rfl, rfl⟩)
  · cases hx
def smlB (n : Nat) (b : Int) : Bool := decide ((n : Int) ≤ 60) && (decide (-1099511627776 ≤ b) && decide (b ≤ 1099511627776))
theorem smlB_t {n : Nat} {b : Int} (h : smlB n b = true) : n ≤ 60 ∧ -1099511627776 ≤ b ∧ b ≤ 1099511627776 := by
  unfold smlB at h
  simp only [Bool.and_eq_true, decide_eq_true_eq] at h
  omega
def smlP {R : Type} : Prim R := fun args hh => match args, hh with
  | [.slice (some ⟨0, 0, some 8000⟩) n c, .int .i64 b], [some (.inr (.inr (.inl r)))] => some ⟨r = mR (uM r), .bool (smlB n b), none, hh, [], []⟩
  | _, _ => none
theorem sml_ok {R : Type} {D : Res R} : ConOk D Try.prog 9 (con1 smlP) := by
  refine con1_ok (prim_at (fn := Try.f9) (root := codeOf Try.f9) (by kernel_rfl) (by kernel_rfl) (by kernel_rfl) fun args hh x hx => ?_)
  unfold smlP at hx
  split at hx
  · rename_i n c b r
    injection hx with hx
    subst hx
    refine ⟨by first | exact Nat.le_refl _ | exact Nat.zero_le _ | exact Nat.le_succ _, noLit rfl, (fun hw => by first | rfl | cases hw), fun _ hv => ?_⟩
    have hr : r = mR (uM r) := hv; clear hv; generalize uM r = l at *; subst hr
    generalize hG : Rx.Ends (R := R) _ _ = G
    refine rx_ok (T := []) trivial mixed 200 ?_
    refine as_text (q := let zz1 := (G (Value.bool false) [some (Sum.inr (Sum.inr (Sum.inl (mR l))))]); (decide ((↑n : Int) ≤ (60 : Int)) = true → (decide (b ≥ (-1099511627776 : Int)) = true → Post (G (Value.bool (decide (b ≤ (1099511627776 : Int)))) [some (Sum.inr (Sum.inr (Sum.inl (mR l))))])) ∧ (decide (b ≥ (-1099511627776 : Int)) = false → Post zz1)) ∧ (decide ((↑n : Int) ≤ (60 : Int)) = false → Post zz1)) ?_ (by kernel_rfl)
    intro zz1; subst zz1
    have done : ∀ (x : Bool) (rest : Hp R), x = smlB n b → G (.bool x) (vM l :: rest) := by
      intro x rest e
      subst e
      subst hG
      exact ⟨[0], rfl, rfl, ⟨rfl, trivial⟩, rfl, rfl, rfl, rfl⟩
    clear hG
    repeat' (first | apply And.intro | apply Vc.mk | apply fits.mk | intro h | apply Post.mk)
    all_goals (try simp only [decide_eq_true_eq, decide_eq_false_iff_not, Nat.zero_add, ge_iff_le, Int.not_le, Int.not_lt, Int.toNat_natCast, beq_iff_eq, beq_eq_false_iff_ne, bne_iff_ne, bne_eq_false_iff_eq, Bool.not_eq_true', Bool.not_eq_false'] at *)
    all_goals first | contradiction | omega | (apply congrArg Value.bool; assumption) | exact congrArg Value.bool (decide_eq_true (by assumption)) | exact congrArg Value.bool (decide_eq_false (Int.not_lt.mpr (by assumption))) | exact ⟨rfl, by omega⟩ | exact rfl | (simp [*, -List.getD_eq_getElem?_getD]; done) | skip
    · have h1 : (n : Int) ≤ 60 := by omega
      have h2 : -1099511627776 ≤ b := by omega
      exact done _ _ (by unfold smlB; rw [decide_eq_true h1, decide_eq_true h2]; rfl)
    · have h1 : (n : Int) ≤ 60 := by omega
      have h2 : ¬ -1099511627776 ≤ b := by omega
      exact done _ _ (by unfold smlB; rw [decide_eq_true h1, decide_eq_false h2]; rfl)
    · have h1 : ¬ (n : Int) ≤ 60 := by omega
      exact done _ _ (by unfold smlB; rw [decide_eq_false h1]; rfl)
  · cases hx
theorem few_hgS {s : Ts} {p : Int} (h : s.Few) : (hgS s p).Few := h
theorem few_bsS {s : Ts} {p : Int} (h : s.Few) : (bsS s p).Few := h
theorem few_nxS {s : Ts} {p b : Int} (h : s.Few) : (nxS s p b).Few := by unfold nxS; split <;> exact h
theorem few_prS {s : Ts} {p b : Int} (h : s.Few) : (prS s p b).Few := h
theorem nxS_l (s : Ts) (p b : Int) : (nxS s p b).l = s.l := by unfold nxS; split <;> rfl
theorem prS_l (s : Ts) (p b : Int) : (prS s p b).l = s.l := rfl
theorem few_trC (l : List Mk) (h : l.length ≤ 60) {i : Nat} (hi : i ≤ l.length) : (trC l i).Few := by
  show (trC l i).n < 100000
  rw [(tc_ok l h i hi).n]
  omega
theorem nxS_vis {s : Ts} {L : List Mk} {p b : Int} (hL : s.l = L) (hb0 : -1099511627776 ≤ b) (hb1 : b ≤ 1099511627776) : Gv.Vis (8 * Gv.hgt L.length + 5) s.m (nxS s p b).m := by
  subst hL
  have h1 := s.seen_vis
  have h3 := Gv.TS.first_vis (s := s.seen) (f := (clp s.l.length p : Int) - 1) (may := mayB b) (asksB (L := s.l) (k60 s) hb0 hb1)
  unfold nxS
  split
  · exact h1.mono (by omega)
  · exact (h1.trans h3).mono (by show 1 + (4 * Gv.hgt s.l.length + 1) ≤ _; omega)
theorem prS_vis {s : Ts} {L : List Mk} {p b : Int} (hL : s.l = L) (hb0 : -1099511627776 ≤ b) (hb1 : b ≤ 1099511627776) : Gv.Vis (8 * Gv.hgt L.length + 5) s.m (prS s p b).m := by
  subst hL
  have h1 := s.seen_vis
  have h3 := Gv.TS.last_vis (s := s.seen) (f := (clp s.l.length p : Int)) (may := mayB b) (asksB (L := s.l) (k60 s) hb0 hb1)
  exact (h1.trans h3).mono (by show 1 + (4 * Gv.hgt s.l.length + 1) ≤ _; omega)
theorem itS_vis {s : Ts} {L : List Mk} {p : Int} (hL : s.l = L) : Gv.Vis (8 * Gv.hgt L.length + 5) s.m (hgS (bsS s p) p).m := by
  subst hL
  have h1 := s.seen_vis
  have h2 := s.seen.seen_vis
  have h3 := s.seen.seen.bet_vis (clp s.l.length p) s.l.length
  have h4 := (bsS s p).seen_vis
  have h5 := (bsS s p).seen.bet_vis 0 (clp s.l.length p)
  exact ((((h1.trans h2).trans h3).trans h4).trans h5).mono (by show 1 + 1 + (4 * Gv.hgt s.l.length + 1) + 1 + (4 * Gv.hgt s.l.length + 1) ≤ _; omega)
def TAk : Tab Rt := [(1000000000, rdP2), (11, liftV z0 2 (con1 treP)), (14, liftC zN 2 (con1 bnxP)), (16, liftC zN 2 (con1 bprP)), (10, liftC zN 2 (con1 bhgP))]
theorem TAk_ok : TabOk D2 Try.prog TAk := ⟨rdP2_ok, liftV_ok _ _ tre_ok, liftC_ok _ _ bnx_ok, liftC_ok _ _ bpr_ok, liftC_ok _ _ bhg_ok, trivial⟩
def awkP : Prim Rt := fun args hh => match args, hh with
  | [], [] => some ⟨True, .bool true, none, hh, [], []⟩
  | _, _ => none
theorem awk_ok : ConOk D2 Try.prog 8 (con1 awkP) := by
  refine con1_ok (prim_at (fn := Try.f8) (root := codeOf Try.f8) (by kernel_rfl) (by kernel_rfl) (by kernel_rfl) fun args hh x hx => ?_)
  unfold awkP at hx
  split at hx
  · injection hx with hx
    subst hx
    refine ⟨by first | exact Nat.le_refl _ | exact Nat.zero_le _ | exact Nat.le_succ _, noLit rfl, (fun hw => by first | rfl | cases hw), fun _ hv => ?_⟩
    generalize hG : Rx.Ends (R := Rt) _ _ = G
    refine rx_ok (T := TAk) TAk_ok mixed 200 ?_
    refine as_text (q := let zz6 := Value.int IntKind.i64; let zz1 := (0 : Int); let zz2 := (It.mk zz1 zz1); let zz3 := (1099511627776 : Int); let zz4 := (nxS (trC [Mk.mk (1 : Int) true zz2 false false zz2, Mk.mk (2 : Int) false zz2 false false zz2] 2) zz1 zz1); let zz5 := (prS (nxS zz4 (1 : Int) zz1) (1 : Int) zz1); Vc ((2 ≤ 2 ∧ True) ∧ Row.mk [zz6 0, Value.bool false, zz6 0, zz6 0, Value.bool false, Value.bool false, zz6 0, zz6 0] 2 [Col.mk [(1 : Int), (2 : Int)] [] [], Col.mk [] [true, false] [], Col.mk [zz1, zz1] [] [], Col.mk [zz1, zz1] [] [], Col.mk [] [false, false] [], Col.mk [] [false, false] [], Col.mk [zz1, zz1] [] [], Col.mk [zz1, zz1] [] []] = mR [Mk.mk (1 : Int) true zz2 false false zz2, Mk.mk (2 : Int) false zz2 false false zz2] ∧ 2 = 2 ∧ 2 ≤ 60) ∧ Vc (Gv.TS.Few (trC [Mk.mk (1 : Int) true zz2 false false zz2, Mk.mk (2 : Int) false zz2 false false zz2] 2) ∧ (-1099511627776 : Int) ≤ zz1 ∧ zz1 ≤ zz3) ∧ (true = true → Vc (Gv.TS.Few zz4 ∧ (-1099511627776 : Int) ≤ zz1 ∧ zz1 ≤ zz3) ∧ (true = true → Vc (Gv.TS.Few (nxS zz4 (1 : Int) zz1) ∧ (-1099511627776 : Int) ≤ zz1 ∧ zz1 ≤ zz3) ∧ (true = true → Vc (Gv.TS.Few zz5 ∧ (-1099511627776 : Int) ≤ zz1 ∧ zz1 ≤ zz3) ∧ (true = true → Vc (Gv.TS.Few (prS zz5 (2 : Int) zz1) ∧ (-1099511627776 : Int) ≤ zz1 ∧ zz1 ≤ zz3) ∧ Post (G (Value.bool true) [some (Sum.inr (Sum.inl (48, Row.mk [zz6 0, Value.bool false, zz6 0, zz6 0, Value.bool false, Value.bool false, zz6 0, zz6 0] 2 [Col.mk [(1 : Int), (2 : Int)] [] [], Col.mk [] [true, false] [], Col.mk [zz1, zz1] [] [], Col.mk [zz1, zz1] [] [], Col.mk [] [false, false] [], Col.mk [] [false, false] [], Col.mk [zz1, zz1] [] [], Col.mk [zz1, zz1] [] []]))), none, some (Sum.inr (Sum.inr (Sum.inr (Rt.tree (hgS (prS zz5 (2 : Int) zz1) (1 : Int))))))])) ∧ (true = false → Post (G (Value.bool false) [some (Sum.inr (Sum.inl (48, Row.mk [zz6 0, Value.bool false, zz6 0, zz6 0, Value.bool false, Value.bool false, zz6 0, zz6 0] 2 [Col.mk [(1 : Int), (2 : Int)] [] [], Col.mk [] [true, false] [], Col.mk [zz1, zz1] [] [], Col.mk [zz1, zz1] [] [], Col.mk [] [false, false] [], Col.mk [] [false, false] [], Col.mk [zz1, zz1] [] [], Col.mk [zz1, zz1] [] []]))), none, some (Sum.inr (Sum.inr (Sum.inr (Rt.tree (prS zz5 (2 : Int) zz1)))))]))) ∧ (true = false → Post (G (Value.bool false) [some (Sum.inr (Sum.inl (48, Row.mk [zz6 0, Value.bool false, zz6 0, zz6 0, Value.bool false, Value.bool false, zz6 0, zz6 0] 2 [Col.mk [(1 : Int), (2 : Int)] [] [], Col.mk [] [true, false] [], Col.mk [zz1, zz1] [] [], Col.mk [zz1, zz1] [] [], Col.mk [] [false, false] [], Col.mk [] [false, false] [], Col.mk [zz1, zz1] [] [], Col.mk [zz1, zz1] [] []]))), none, some (Sum.inr (Sum.inr (Sum.inr (Rt.tree zz5))))]))) ∧ (true = false → Post (G (Value.bool false) [some (Sum.inr (Sum.inl (48, Row.mk [zz6 0, Value.bool false, zz6 0, zz6 0, Value.bool false, Value.bool false, zz6 0, zz6 0] 2 [Col.mk [(1 : Int), (2 : Int)] [] [], Col.mk [] [true, false] [], Col.mk [zz1, zz1] [] [], Col.mk [zz1, zz1] [] [], Col.mk [] [false, false] [], Col.mk [] [false, false] [], Col.mk [zz1, zz1] [] [], Col.mk [zz1, zz1] [] []]))), none, some (Sum.inr (Sum.inr (Sum.inr (Rt.tree (nxS zz4 (1 : Int) zz1)))))]))) ∧ (true = false → Post (G (Value.bool false) [some (Sum.inr (Sum.inl (48, Row.mk [zz6 0, Value.bool false, zz6 0, zz6 0, Value.bool false, Value.bool false, zz6 0, zz6 0] 2 [Col.mk [(1 : Int), (2 : Int)] [] [], Col.mk [] [true, false] [], Col.mk [zz1, zz1] [] [], Col.mk [zz1, zz1] [] [], Col.mk [] [false, false] [], Col.mk [] [false, false] [], Col.mk [zz1, zz1] [] [], Col.mk [zz1, zz1] [] []]))), none, some (Sum.inr (Sum.inr (Sum.inr (Rt.tree zz4))))]))) ?_ (by kernel_rfl)
    intro zz6 zz1 zz2 zz3 zz4 zz5; subst zz5 zz4 zz3 zz2 zz1 zz6
    subst hG
    have f0 := few_trC [⟨1, true, ⟨0, 0⟩, false, false, ⟨0, 0⟩⟩, ⟨2, false, ⟨0, 0⟩, false, false, ⟨0, 0⟩⟩] (by decide) (i := 2) (by decide)
    have f1 := few_nxS (p := 0) (b := 0) f0
    have f2 := few_nxS (p := 1) (b := 0) f1
    have f3 := few_prS (p := 1) (b := 0) f2
    have f4 := few_prS (p := 2) (b := 0) f3
    exact ⟨⟨⟨by decide, trivial⟩, rfl, rfl, by decide⟩, ⟨f0, by decide, by decide⟩, fun _ => ⟨⟨f1, by decide, by decide⟩, fun _ => ⟨⟨f2, by decide, by decide⟩, fun _ => ⟨⟨f3, by decide, by decide⟩, fun _ => ⟨⟨f4, by decide, by decide⟩, ⟨⟨[], rfl, rfl, trivial, rfl, rfl, rfl, rfl⟩⟩⟩, fun h => by cases h⟩, fun h => by cases h⟩, fun h => by cases h⟩, fun h => by cases h⟩
  · cases hx
def TL : Tab Rt := [(1000000000, rdP2), (8, liftC zN 2 (con1 awkP)), (9, liftV z0 2 (con1 smlP)), (11, liftV z0 2 (con1 treP)), (14, liftC zN 2 (con1 bnxP)), (16, liftC zN 2 (con1 bprP)), (10, liftC zN 2 (con1 bhgP)), (18, liftC zN 2 (con1 bbsP)), (20, liftC zN 2 (con1 blsP)), (13, liftV z0 2 (con1 tmP)), (12, liftV z0 2 (con1 hgtP)), (15, liftV z0 2 (con1 nxP)), (17, liftV z0 2 (con1 prP)), (19, liftV z0 2 (con1 bstP)), (21, liftV z0 2 (con1 lstP)), (23, liftV z0 2 (con1 clmP)), (24, liftC zN 2 (con1 heightP)), (22, liftC zN 2 (con1 tlenP)), (25, liftC zN 2 (con1 tvisP))]
theorem TL_ok : TabOk D2 Try.prog TL := ⟨rdP2_ok, liftC_ok _ _ awk_ok, liftV_ok _ _ sml_ok, liftV_ok _ _ tre_ok, liftC_ok _ _ bnx_ok, liftC_ok _ _ bpr_ok, liftC_ok _ _ bhg_ok, liftC_ok _ _ bbs_ok, liftC_ok _ _ bls_ok, liftV_ok _ _ tm_ok, liftV_ok _ _ hgt_ok, liftV_ok _ _ nx_ok, liftV_ok _ _ pr_ok, liftV_ok _ _ bst_ok, liftV_ok _ _ lst_ok, liftV_ok _ _ clm_ok, liftC_ok _ _ height_ok, liftC_ok _ _ tlen_ok, liftC_ok _ _ tvis_ok, trivial⟩
theorem heights_run {G : Value → Hp Rt → Prop} {l : List Mk} {p b : Int} (hG : ∀ hp, G (.bool true) hp) : At D2 Try.prog (codeOf Try.f3) 1 (retK Try.prog Try.f3.results.toList G) [.inl []] ⟨someL [.slice (some ⟨0, 0, some 8000⟩) l.length 0, .int .i64 p, .int .i64 b] ++ List.replicate (Try.f3.ntmps - 3) none, [], [vM l]⟩ := by
  refine rx_ok (T := TL) TL_ok mixed 200 ?_
  refine as_text (q := let zz1 := (uM (mRx l 0 (List.length l))); let zz2 := (G (Value.bool true) [some (Sum.inr (Sum.inr (Sum.inl (mR l))))]); let zz3 := (uM (mRx (tmL zz1) 0 (List.length (tmL zz1)))); Vc True ∧ (false = false → Vc ((0 + List.length l ≤ List.length l ∧ True) ∧ mRx l 0 (List.length l) = mR zz1) ∧ ((!smlB (List.length l) b) = true → Vc True ∧ Post zz2) ∧ ((!smlB (List.length l) b) = false → Vc ((0 + List.length l ≤ List.length l ∧ True) ∧ mRx l 0 (List.length l) = mR zz1 ∧ List.length l = List.length zz1 ∧ List.length zz1 ≤ 60) ∧ Vc (Gv.TS.Few (trC zz1 (List.length zz1)) ∧ (-1099511627776 : Int) ≤ b ∧ b ≤ (1099511627776 : Int)) ∧ Vc ((0 + List.length l ≤ List.length l ∧ True) ∧ mRx l 0 (List.length l) = mR zz1 ∧ List.length l = List.length zz1 ∧ List.length zz1 ≤ 60) ∧ Vc ((0 + List.length (tmL zz1) ≤ List.length (tmL zz1) ∧ True) ∧ mRx (tmL zz1) 0 (List.length (tmL zz1)) = mR zz3 ∧ List.length (tmL zz1) = List.length zz3 ∧ List.length zz3 ≤ 60 ∧ (-1099511627776 : Int) ≤ b ∧ b ≤ (1099511627776 : Int)) ∧ Post (G (Value.bool (hgI (Gv.TS.l (trC zz1 (List.length zz1))) p b == hgI zz3 p b)) [some (Sum.inr (Sum.inr (Sum.inl (mR l)))), none, some (Sum.inr (Sum.inr (Sum.inr (Rt.tree (hgS (trC zz1 (List.length zz1)) p))))), none, some (Sum.inr (Sum.inl (48, mR (tmL zz1))))]))) ∧ (false = true → Vc True ∧ Post zz2)) ?_ (by kernel_rfl)
  intro zz1 zz2 zz3; subst zz3 zz2 zz1
  simp only [mRx_all, uM_mR]
  refine ⟨⟨trivial⟩, fun _ => ⟨⟨⟨by omega, trivial⟩, trivial⟩, fun h => ⟨⟨trivial⟩, ⟨hG _⟩⟩, fun h => ?_⟩, fun h => by cases h⟩
  obtain ⟨hb, hb0, hb1⟩ := smlB_t (by simpa using h)
  have hs := tc_ok l hb l.length (Nat.le_refl _)
  have few := few_trC l hb (Nat.le_refl _)
  have hL : (tmL l).length ≤ l.length := tmd_len l l.length
  have e1 : (hgI (trC l l.length).l p b == hgI (tmL l) p b) = true := by rw [hs.l]; exact beq_self_eq_true _
  rw [e1]
  exact ⟨⟨⟨by omega, trivial⟩, trivial, trivial, hb⟩, ⟨few, hb0, hb1⟩, ⟨⟨by omega, trivial⟩, trivial, trivial, hb⟩, ⟨⟨by omega, trivial⟩, trivial, trivial, by omega, hb0, hb1⟩, ⟨hG _⟩⟩
theorem finds_run {G : Value → Hp Rt → Prop} {l : List Mk} {p b : Int} (hG : ∀ hp, G (.bool true) hp) : At D2 Try.prog (codeOf Try.f4) 1 (retK Try.prog Try.f4.results.toList G) [.inl []] ⟨someL [.slice (some ⟨0, 0, some 8000⟩) l.length 0, .int .i64 p, .int .i64 b] ++ List.replicate (Try.f4.ntmps - 3) none, [], [vM l]⟩ := by
  refine rx_ok (T := TL) TL_ok mixed 200 ?_
  refine as_text (q := let zz1 := (uM (mRx l 0 (List.length l))); let zz2 := (G (Value.bool true) [some (Sum.inr (Sum.inr (Sum.inl (mR l))))]); let zz3 := (uM (mRx (tmL zz1) 0 (List.length (tmL zz1)))); let zz4 := (nxI (Gv.TS.l (trC zz1 (List.length zz1))) p b == nxI zz3 p b); let zz5 := (nxS (trC zz1 (List.length zz1)) p b); Vc True ∧ (false = false → Vc ((0 + List.length l ≤ List.length l ∧ True) ∧ mRx l 0 (List.length l) = mR zz1) ∧ ((!smlB (List.length l) b) = true → Vc True ∧ Post zz2) ∧ ((!smlB (List.length l) b) = false → Vc ((0 + List.length l ≤ List.length l ∧ True) ∧ mRx l 0 (List.length l) = mR zz1 ∧ List.length l = List.length zz1 ∧ List.length zz1 ≤ 60) ∧ Vc ((0 + List.length l ≤ List.length l ∧ True) ∧ mRx l 0 (List.length l) = mR zz1 ∧ List.length l = List.length zz1 ∧ List.length zz1 ≤ 60) ∧ Vc (Gv.TS.Few (trC zz1 (List.length zz1)) ∧ (-1099511627776 : Int) ≤ b ∧ b ≤ (1099511627776 : Int)) ∧ Vc ((0 + List.length (tmL zz1) ≤ List.length (tmL zz1) ∧ True) ∧ mRx (tmL zz1) 0 (List.length (tmL zz1)) = mR zz3 ∧ List.length (tmL zz1) = List.length zz3 ∧ List.length zz3 ≤ 60 ∧ (-1099511627776 : Int) ≤ b ∧ b ≤ (1099511627776 : Int)) ∧ (zz4 = true → Vc (Gv.TS.Few zz5 ∧ (-1099511627776 : Int) ≤ b ∧ b ≤ (1099511627776 : Int)) ∧ Vc ((0 + List.length (tmL zz1) ≤ List.length (tmL zz1) ∧ True) ∧ mRx (tmL zz1) 0 (List.length (tmL zz1)) = mR zz3 ∧ List.length (tmL zz1) = List.length zz3 ∧ List.length zz3 ≤ 60 ∧ (-1099511627776 : Int) ≤ b ∧ b ≤ (1099511627776 : Int)) ∧ Post (G (Value.bool (prI (Gv.TS.l zz5) p b == prI zz3 p b)) [some (Sum.inr (Sum.inr (Sum.inl (mR l)))), none, some (Sum.inr (Sum.inr (Sum.inr (Rt.tree (prS zz5 p b))))), none, some (Sum.inr (Sum.inl (48, mR (tmL zz1))))])) ∧ (zz4 = false → Post (G (Value.bool false) [some (Sum.inr (Sum.inr (Sum.inl (mR l)))), none, some (Sum.inr (Sum.inr (Sum.inr (Rt.tree zz5)))), none, some (Sum.inr (Sum.inl (48, mR (tmL zz1))))])))) ∧ (false = true → Vc True ∧ Post zz2)) ?_ (by kernel_rfl)
  intro zz1 zz2 zz3 zz4 zz5; subst zz5 zz4 zz3 zz2 zz1
  simp only [mRx_all, uM_mR]
  refine ⟨⟨trivial⟩, fun _ => ⟨⟨⟨by omega, trivial⟩, trivial⟩, fun h => ⟨⟨trivial⟩, ⟨hG _⟩⟩, fun h => ?_⟩, fun h => by cases h⟩
  obtain ⟨hb, hb0, hb1⟩ := smlB_t (by simpa using h)
  have hs := tc_ok l hb l.length (Nat.le_refl _)
  have few := few_trC l hb (Nat.le_refl _)
  have hL : (tmL l).length ≤ l.length := tmd_len l l.length
  have e1 : (nxI (trC l l.length).l p b == nxI (tmL l) p b) = true := by rw [hs.l]; exact beq_self_eq_true _
  have e2 : (prI (nxS (trC l l.length) p b).l p b == prI (tmL l) p b) = true := by rw [nxS_l, hs.l]; exact beq_self_eq_true _
  rw [e2]
  exact ⟨⟨⟨by omega, trivial⟩, trivial, trivial, hb⟩, ⟨⟨by omega, trivial⟩, trivial, trivial, hb⟩, ⟨few, hb0, hb1⟩, ⟨⟨by omega, trivial⟩, trivial, trivial, by omega, hb0, hb1⟩, fun _ => ⟨⟨few_nxS few, hb0, hb1⟩, ⟨⟨by omega, trivial⟩, trivial, trivial, by omega, hb0, hb1⟩, ⟨hG _⟩⟩, fun h => by rw [e1] at h; cases h⟩
theorem items_run {G : Value → Hp Rt → Prop} {l : List Mk} {p : Int} (hG : ∀ hp, G (.bool true) hp) : At D2 Try.prog (codeOf Try.f5) 1 (retK Try.prog Try.f5.results.toList G) [.inl []] ⟨someL [.slice (some ⟨0, 0, some 8000⟩) l.length 0, .int .i64 p] ++ List.replicate (Try.f5.ntmps - 2) none, [], [vM l]⟩ := by
  refine rx_ok (T := TL) TL_ok mixed 200 ?_
  refine as_text (q := let zz1 := (uM (mRx l 0 (List.length l))); let zz2 := (G (Value.bool true) [some (Sum.inr (Sum.inr (Sum.inl (mR l))))]); let zz3 := (uM (mRx (tmL zz1) 0 (List.length (tmL zz1)))); let zz4 := (bstI (Gv.TS.l (trC zz1 (List.length zz1))) p); let zz5 := (It.k (Option.getD zz4 iz) == It.k (Option.getD (bstI zz3 p) iz) && (It.i (Option.getD zz4 iz) == It.i (Option.getD (bstI zz3 p) iz) && true) && true); let zz6 := (if false = true then !(Option.isSome zz4 == Option.isSome (bstI zz3 p) && zz5) else Option.isSome zz4 == Option.isSome (bstI zz3 p) && zz5); let zz7 := (bsS (trC zz1 (List.length zz1)) p); let zz8 := (It.k (Option.getD (lstI (Gv.TS.l zz7) p) iz) == It.k (Option.getD (lstI zz3 p) iz) && (It.i (Option.getD (lstI (Gv.TS.l zz7) p) iz) == It.i (Option.getD (lstI zz3 p) iz) && true) && true); Vc True ∧ (false = false → Vc ((0 + List.length l ≤ List.length l ∧ True) ∧ mRx l 0 (List.length l) = mR zz1) ∧ ((!smlB (List.length l) (0 : Int)) = true → Vc True ∧ Post zz2) ∧ ((!smlB (List.length l) (0 : Int)) = false → Vc ((0 + List.length l ≤ List.length l ∧ True) ∧ mRx l 0 (List.length l) = mR zz1 ∧ List.length l = List.length zz1 ∧ List.length zz1 ≤ 60) ∧ Vc ((0 + List.length l ≤ List.length l ∧ True) ∧ mRx l 0 (List.length l) = mR zz1 ∧ List.length l = List.length zz1 ∧ List.length zz1 ≤ 60) ∧ Vc (Gv.TS.Few (trC zz1 (List.length zz1))) ∧ Vc ((0 + List.length (tmL zz1) ≤ List.length (tmL zz1) ∧ True) ∧ mRx (tmL zz1) 0 (List.length (tmL zz1)) = mR zz3 ∧ List.length (tmL zz1) = List.length zz3 ∧ List.length zz3 ≤ 60) ∧ (zz6 = true → Vc (Gv.TS.Few zz7) ∧ Vc ((0 + List.length (tmL zz1) ≤ List.length (tmL zz1) ∧ True) ∧ mRx (tmL zz1) 0 (List.length (tmL zz1)) = mR zz3 ∧ List.length (tmL zz1) = List.length zz3 ∧ List.length zz3 ≤ 60) ∧ Post (G (Value.bool (if false = true then !(Option.isSome (lstI (Gv.TS.l zz7) p) == Option.isSome (lstI zz3 p) && zz8) else Option.isSome (lstI (Gv.TS.l zz7) p) == Option.isSome (lstI zz3 p) && zz8)) [some (Sum.inr (Sum.inr (Sum.inl (mR l)))), none, some (Sum.inr (Sum.inr (Sum.inr (Rt.tree (hgS zz7 p))))), none, some (Sum.inr (Sum.inl (48, mR (tmL zz1))))])) ∧ (zz6 = false → Post (G (Value.bool false) [some (Sum.inr (Sum.inr (Sum.inl (mR l)))), none, some (Sum.inr (Sum.inr (Sum.inr (Rt.tree zz7)))), none, some (Sum.inr (Sum.inl (48, mR (tmL zz1))))])))) ∧ (false = true → Vc True ∧ Post zz2)) ?_ (by kernel_rfl)
  intro zz1 zz2 zz3 zz4 zz5 zz6 zz7 zz8; subst zz8 zz7 zz6 zz5 zz4 zz3 zz2 zz1
  simp only [mRx_all, uM_mR]
  refine ⟨⟨trivial⟩, fun _ => ⟨⟨⟨by omega, trivial⟩, trivial⟩, fun h => ⟨⟨trivial⟩, ⟨hG _⟩⟩, fun h => ?_⟩, fun h => by cases h⟩
  obtain ⟨hb, hb0, hb1⟩ := smlB_t (by simpa using h)
  have hs := tc_ok l hb l.length (Nat.le_refl _)
  have few := few_trC l hb (Nat.le_refl _)
  have hL : (tmL l).length ≤ l.length := tmd_len l l.length
  have e0 : ∀ x : Bool, (if false = true then !x else x) = x := fun x => rfl
  have e3 : (bsS (trC l l.length) p).l = (trC l l.length).l := rfl
  simp only [e0, e3, hs.l, beq_self_eq_true, Bool.and_self, Bool.and_true]
  have e4 : (bsS (trC l l.length) p).l = tmd l l.length := hs.l
  refine ⟨⟨⟨by omega, trivial⟩, trivial, trivial, hb⟩, ⟨⟨by omega, trivial⟩, trivial, trivial, hb⟩, ⟨few⟩, ⟨⟨by omega, trivial⟩, trivial, trivial, by omega⟩, fun _ => ⟨⟨few_bsS few⟩, ⟨⟨by omega, trivial⟩, trivial, trivial, by omega⟩, ⟨?_⟩⟩, fun h => by cases h⟩
  try simp only [e4, beq_self_eq_true, Bool.and_self]
  exact hG _
theorem visits_run {G : Value → Hp Rt → Prop} {l : List Mk} {p b : Int} (hG : ∀ hp, G (.bool true) hp) : At D2 Try.prog (codeOf Try.f7) 1 (retK Try.prog Try.f7.results.toList G) [.inl []] ⟨someL [.slice (some ⟨0, 0, some 8000⟩) l.length 0, .int .i64 p, .int .i64 b] ++ List.replicate (Try.f7.ntmps - 3) none, [], [vM l]⟩ := by
  refine rx_ok (T := TL) TL_ok mixed 200 ?_
  refine as_text (q := let zz1 := (uM (mRx l 0 (List.length l))); let zz2 := (G (Value.bool true) [some (Sum.inr (Sum.inr (Sum.inl (mR l))))]); let zz3 := (↑(List.length (Gv.TS.l (trC zz1 (List.length zz1)))) : Int); let zz4 := (Gv.TS.seen (trC zz1 (List.length zz1))); let zz5 := (IntKind.wrap IntKind.i64 (Gv.PM.visits (Gv.TS.m (nxS zz4 p b)) - Gv.PM.visits (Gv.TS.m zz4)) ≤ IntKind.wrap IntKind.i64 ((1000 : Int) * IntKind.wrap IntKind.i64 ((↑(Gv.hgt (Int.toNat zz3)) : Int) + (4 : Int)))); let zz6 := (IntKind.wrap IntKind.i64 (Gv.PM.visits (Gv.TS.m (prS (nxS zz4 p b) p b)) - Gv.PM.visits (Gv.TS.m (nxS zz4 p b))) ≤ IntKind.wrap IntKind.i64 ((1000 : Int) * IntKind.wrap IntKind.i64 ((↑(Gv.hgt (Int.toNat zz3)) : Int) + (4 : Int)))); let zz7 := (hgS (bsS (prS (nxS zz4 p b) p b) p) p); let zz8 := (IntKind.wrap IntKind.i64 (Gv.PM.visits (Gv.TS.m zz7) - Gv.PM.visits (Gv.TS.m (prS (nxS zz4 p b) p b))) ≤ IntKind.wrap IntKind.i64 ((2 : Int) * IntKind.wrap IntKind.i64 ((1000 : Int) * IntKind.wrap IntKind.i64 ((↑(Gv.hgt (Int.toNat zz3)) : Int) + (4 : Int))))); Vc True ∧ (false = false → Vc ((0 + List.length l ≤ List.length l ∧ True) ∧ mRx l 0 (List.length l) = mR zz1) ∧ ((!smlB (List.length l) b) = true → Vc True ∧ Post zz2) ∧ ((!smlB (List.length l) b) = false → Vc ((0 + List.length l ≤ List.length l ∧ True) ∧ mRx l 0 (List.length l) = mR zz1 ∧ List.length l = List.length zz1 ∧ List.length zz1 ≤ 60) ∧ Vc (Gv.TS.Few (trC zz1 (List.length zz1))) ∧ Vc ((0 : Int) ≤ zz3 ∧ zz3 ≤ (100000 : Int)) ∧ Vc True ∧ Vc True ∧ Vc True ∧ Vc (Gv.TS.Few zz4 ∧ (-1099511627776 : Int) ≤ b ∧ b ≤ (1099511627776 : Int)) ∧ Vc True ∧ Vc True ∧ Vc True ∧ Vc (Gv.TS.Few (nxS zz4 p b) ∧ (-1099511627776 : Int) ≤ b ∧ b ≤ (1099511627776 : Int)) ∧ Vc True ∧ Vc True ∧ Vc True ∧ Vc (Gv.TS.Few (prS (nxS zz4 p b) p b)) ∧ Vc (Gv.TS.Few (bsS (prS (nxS zz4 p b) p b) p)) ∧ Vc True ∧ Vc True ∧ (decide zz5 = true → (decide zz6 = true → Vc True ∧ (decide zz8 = true → Vc (Gv.TS.Few zz7) ∧ Vc ((0 + List.length l ≤ List.length l ∧ True) ∧ mRx l 0 (List.length l) = mR zz1 ∧ List.length l = List.length zz1 ∧ List.length zz1 ≤ 60) ∧ Post (G (Value.bool ((↑(List.length (Gv.TS.l zz7)) : Int) == (↑(List.length (tmL zz1)) : Int))) [some (Sum.inr (Sum.inr (Sum.inl (mR l)))), none, some (Sum.inr (Sum.inr (Sum.inr (Rt.tree (Gv.TS.seen zz7))))), none, some (Sum.inr (Sum.inl (48, mR (tmL zz1))))])) ∧ (decide zz8 = false → Post (G (Value.bool false) [some (Sum.inr (Sum.inr (Sum.inl (mR l)))), none, some (Sum.inr (Sum.inr (Sum.inr (Rt.tree zz7))))]))) ∧ (decide zz6 = false → Post (G (Value.bool false) [some (Sum.inr (Sum.inr (Sum.inl (mR l)))), none, some (Sum.inr (Sum.inr (Sum.inr (Rt.tree zz7))))]))) ∧ (decide zz5 = false → Post (G (Value.bool false) [some (Sum.inr (Sum.inr (Sum.inl (mR l)))), none, some (Sum.inr (Sum.inr (Sum.inr (Rt.tree zz7))))])))) ∧ (false = true → Vc True ∧ Post zz2)) ?_ (by kernel_rfl)
  intro zz1 zz2 zz3 zz4 zz5 zz6 zz7 zz8; subst zz8 zz7 zz6 zz5 zz4 zz3 zz2 zz1
  simp only [mRx_all, uM_mR]
  refine ⟨⟨trivial⟩, fun _ => ⟨⟨⟨by omega, trivial⟩, trivial⟩, fun h => ⟨⟨trivial⟩, ⟨hG _⟩⟩, fun h => ?_⟩, fun h => by cases h⟩
  obtain ⟨hb, hb0, hb1⟩ := smlB_t (by simpa using h)
  have hs := tc_ok l hb l.length (Nat.le_refl _)
  have few := few_trC l hb (Nat.le_refl _)
  have hL : (tmL l).length ≤ l.length := tmd_len l l.length
  have hH : Gv.hgt (tmd l l.length).length ≤ 200 := by
    unfold Gv.hgt
    have h1 := Nat.log2_le_self ((tmd l l.length).length + 1)
    have h2 : (tmd l l.length).length ≤ l.length := hL
    omega
  have l2 : (nxS (trC l l.length).seen p b).l = tmd l l.length := by rw [nxS_l]; exact hs.l
  have l3 : (prS (nxS (trC l l.length).seen p b) p b).l = tmd l l.length := by rw [prS_l]; exact l2
  have v1 := (nxS_vis (s := (trC l l.length).seen) (p := p) hs.l hb0 hb1).diff (by omega)
  have v2 := (prS_vis (s := nxS (trC l l.length).seen p b) (p := p) l2 hb0 hb1).diff (by omega)
  have v3 := (itS_vis (s := prS (nxS (trC l l.length).seen p b) p b) (p := p) l3).diff (by omega)
  have f2 := few_nxS (p := p) (b := b) (few_seen few)
  have f3 := few_prS (p := p) (b := b) f2
  have l5 : (hgS (bsS (prS (nxS (trC l l.length).seen p b) p b) p) p).l = tmd l l.length := l3
  simp only [hs.l, l3, l5, Int.toNat_natCast, beq_self_eq_true]
  generalize Gv.hgt (tmd l l.length).length = H at *
  have w1 : IntKind.i64.wrap ((H : Int) + 4) = H + 4 := fits_wrap ⟨by omega, by omega⟩
  have w2 : IntKind.i64.wrap (1000 * ((H : Int) + 4)) = 1000 * (H + 4) := fits_wrap ⟨by omega, by omega⟩
  have w3 : IntKind.i64.wrap (2 * (1000 * ((H : Int) + 4))) = 2 * (1000 * (H + 4)) := fits_wrap ⟨by omega, by omega⟩
  simp only [w1, w2, w3]
  have k1 : IntKind.i64.wrap ((nxS (trC l l.length).seen p b).m.visits - (trC l l.length).seen.m.visits) ≤ 1000 * ((H : Int) + 4) := Int.le_trans v1.2 (by omega)
  have k2 : IntKind.i64.wrap ((prS (nxS (trC l l.length).seen p b) p b).m.visits - (nxS (trC l l.length).seen p b).m.visits) ≤ 1000 * ((H : Int) + 4) := Int.le_trans v2.2 (by omega)
  have k3 : IntKind.i64.wrap ((hgS (bsS (prS (nxS (trC l l.length).seen p b) p b) p) p).m.visits - (prS (nxS (trC l l.length).seen p b) p b).m.visits) ≤ 2 * (1000 * ((H : Int) + 4)) := Int.le_trans v3.2 (by omega)
  have hL2 : (tmd l l.length).length ≤ l.length := hL
  exact ⟨⟨⟨by omega, trivial⟩, trivial, trivial, hb⟩, ⟨few⟩, ⟨by omega, by omega⟩, ⟨trivial⟩, ⟨trivial⟩, ⟨trivial⟩, ⟨few_seen few, hb0, hb1⟩, ⟨trivial⟩, ⟨trivial⟩, ⟨trivial⟩, ⟨f2, hb0, hb1⟩, ⟨trivial⟩, ⟨trivial⟩, ⟨trivial⟩, ⟨f3⟩, ⟨few_bsS f3⟩, ⟨trivial⟩, ⟨trivial⟩, fun _ => ⟨fun _ => ⟨⟨trivial⟩, fun _ => ⟨⟨few_hgS (few_bsS f3)⟩, ⟨⟨by omega, trivial⟩, trivial, trivial, hb⟩, ⟨hG _⟩⟩, fun h => (of_decide_eq_false h k3).elim⟩, fun h => (of_decide_eq_false h k2).elim⟩, fun h => (of_decide_eq_false h k1).elim⟩
end Go.Proofs.Ytdgglimfjfedaaa.Br
