/- bridge: the document's heights, bridges, items beside; marks in the order of their times. -/
import Derived.Test.YtdgglimfjfedaaaWvRef
import Derived.Test.YtdgglimfjfedaaaBrL
namespace Go.Proofs.Ytdgglimfjfedaaa.Br
open Go.Proofs.Ytdgglimfjfedaaa.Rx Go.Proofs.Ytdgglimfjfedaaa.Wv
set_option linter.unusedVariables false
set_option linter.unusedSimpArgs false
set_option maxRecDepth 100000
set_option maxHeartbeats 8000000
/-- a stretch of marks as a row -/
def mRx (l : List Mk) (a n : Nat) : Row := ⟨[.int .i64 0, .bool false, .int .i64 0, .int .i64 0, .bool false, .bool false, .int .i64 0, .int .i64 0], n, [⟨cut (l.map Mk.t) a n, [], []⟩, ⟨[], cut (l.map Mk.ins) a n, []⟩, ⟨cut (l.map fun m => m.it.k) a n, [], []⟩, ⟨cut (l.map fun m => m.it.i) a n, [], []⟩, ⟨[], cut (l.map Mk.here) a n, []⟩, ⟨[], cut (l.map Mk.tf) a n, []⟩, ⟨cut (l.map fun m => m.tk.k) a n, [], []⟩, ⟨cut (l.map fun m => m.tk.i) a n, [], []⟩]⟩
theorem mRx_all (l : List Mk) : mRx l 0 l.length = mR l := by unfold mRx; simp only [cm]
theorem mRx_cut {l : List Mk} {a n : Nat} (h : a + n ≤ l.length) : mRx l a n = mR (cut l a n) := by
  have e : (cut l a n).length = n := by unfold cut; rw [List.length_take, List.length_drop]; omega
  unfold mRx mR
  simp only [cut_map, e]
theorem cutL {x : List Mk} {a n : Nat} (h : a + n ≤ x.length) : (cut x a n).length = n := by unfold cut; rw [List.length_take, List.length_drop]; omega
theorem cut_rest {α : Type} (l : List α) (k : Nat) : cut l k (l.length - k) = l.drop k := by unfold cut; rw [List.take_of_length_le (by rw [List.length_drop]; exact Nat.le_refl _)]
theorem cut_front {α : Type} (l : List α) (k : Nat) : cut l 0 k = l.take k := by unfold cut; rw [List.drop_zero]
/-- how many are ahead of a mark; does one of that time stand there -/
abbrev rk8 (m : Mk) (w : List Mk) : Nat := Gv.rkE O8 m w
theorem rk8_lt {m : Mk} {w : List Mk} {j : Nat} (h : j < rk8 m w) : (w.getD j mz).t < m.t := (cmp_pos _ _).1 (Gv.rkE_lt (O := O8) h)
theorem rk8_ge {m : Mk} {w : List Mk} (h : rk8 m w < w.length) : ¬ (w.getD (rk8 m w) mz).t < m.t := fun c => Gv.rkE_ge (O := O8) (e := m) (l := w) h ((cmp_pos _ _).2 c)
def hit8 (m : Mk) (w : List Mk) : Bool := decide (rk8 m w < w.length) && decide ((w.getD (rk8 m w) mz).t = m.t)
theorem hit8_eq (m : Mk) (w : List Mk) : (Gv.hitE O8 m w).isSome = hit8 m w := by
  rw [Gv.hit_rk]
  unfold hit8
  have e : (O8.cmp m (w.getD (rk8 m w) O8.e0) = 0) = ((w.getD (rk8 m w) mz).t = m.t) := propext ⟨fun h => ((cmp_zero _ _).1 h).symm, fun h => (cmp_zero _ _).2 h.symm⟩
  simp only [rk8, e]
theorem put8 (m : Mk) (w : List Mk) : Gv.putE O8 m w = w.take (rk8 m w) ++ m :: w.drop (if hit8 m w = true then rk8 m w + 1 else rk8 m w) := by
  rw [Gv.put_rk, hit8_eq]
/-- an item that may be there, cell by cell -/
def tkL (x : Option It) : List Value := [.bool x.isSome, .int .i64 (x.getD iz).k, .int .i64 (x.getD iz).i]
/-- the greatest bridge ahead of so many places -/
def prvK (l : List Mk) (b : Int) : Nat → Int
  | 0 => -1
  | i + 1 => prv l b i
theorem mrx_ok (l : List Mk) : mRx l 0 l.length = mR (uM (mRx l 0 l.length)) := by rw [mRx_all, uM_mR]
theorem prv_eq (l : List Mk) (b : Int) (j : Nat) : prv l b j = if hgh l b j ≤ 0 then (j : Int) else prvK l b j := by
  cases j with
  | zero => rw [prv]; rfl
  | succ j => rw [prv]; rfl
theorem hi_len {L : List It} (h : L.length ≠ 0) : hi L = some ((srt L).getD (L.length - 1) iz) := by
  have h1 := srt_hi L
  have h2 : L.length - 1 < (srt L).length := by rw [srt_len]; omega
  rw [List.getElem?_eq_getElem h2] at h1
  rw [← h1, List.getD_eq_getElem?_getD, List.getElem?_eq_getElem h2, Option.getD_some]
theorem lo_len {L : List It} (h : L.length ≠ 0) : lo L = some ((srt L).getD 0 iz) := by
  have h1 := srt_lo L
  have h2 : 0 < (srt L).length := by rw [srt_len]; omega
  rw [List.getElem?_eq_getElem h2] at h1
  rw [← h1, List.getD_eq_getElem?_getD, List.getElem?_eq_getElem h2, Option.getD_some]
def clmP {R : Type} : Prim R := fun args hh => match args, hh with
  | [.slice (some ⟨0, 0, some 8000⟩) n c, .int .i64 p], [some (.inr (.inr (.inl r)))] => some ⟨r = mR (uM r), .int .i64 (clp n p), none, hh, [], []⟩
  | _, _ => none
theorem clm_ok {R : Type} {D : Res R} : ConOk D Try.prog 23 (con1 clmP) := by
  refine con1_ok (prim_at (fn := Try.f23) (root := codeOf Try.f23) (by kernel_rfl) (by kernel_rfl) (by kernel_rfl) fun args hh x hx => ?_)
  unfold clmP at hx
  split at hx
  · rename_i n c p r
    injection hx with hx
    subst hx
    refine ⟨by first | exact Nat.le_refl _ | exact Nat.zero_le _ | exact Nat.le_succ _, noLit rfl, (fun hw => by first | rfl | cases hw), fun _ hv => ?_⟩
    have hr : r = mR (uM r) := hv; clear hv; generalize uM r = l at *; subst hr
    generalize hG : Rx.Ends (R := R) _ _ = G
    refine rx_ok (T := []) trivial mixed 200 ?_
    refine as_text (q := (decide (p < (0 : Int)) = true → Post (G (Value.int IntKind.i64 0) [some (Sum.inr (Sum.inr (Sum.inl (mR l))))])) ∧ (decide (p < (0 : Int)) = false → (decide (p > (↑n : Int)) = true → Post (G (Value.int IntKind.i64 (↑n : Int)) [some (Sum.inr (Sum.inr (Sum.inl (mR l))))])) ∧ (decide (p > (↑n : Int)) = false → Post (G (Value.int IntKind.i64 p) [some (Sum.inr (Sum.inr (Sum.inl (mR l))))])))) ?_ (by kernel_rfl)
    have done : ∀ (x : Int) (rest : Hp R), x = (clp n p : Int) → G (.int .i64 x) (vM l :: rest) := by
      intro x rest e
      subst e
      subst hG
      exact ⟨[0], rfl, rfl, ⟨rfl, trivial⟩, rfl, rfl, rfl, rfl⟩
    clear hG
    repeat' (first | apply And.intro | apply Vc.mk | apply fits.mk | intro h | apply Post.mk)
    all_goals (try simp only [decide_eq_true_eq, decide_eq_false_iff_not, Nat.zero_add, ge_iff_le, Int.not_le, Int.not_lt, Int.toNat_natCast, beq_iff_eq, beq_eq_false_iff_ne, bne_iff_ne, bne_eq_false_iff_eq, Bool.not_eq_true', Bool.not_eq_false'] at *)
    all_goals first | contradiction | omega | (apply congrArg Value.bool; assumption) | exact congrArg Value.bool (decide_eq_true (by assumption)) | exact congrArg Value.bool (decide_eq_false (Int.not_lt.mpr (by assumption))) | exact ⟨rfl, by omega⟩ | exact rfl | (simp [*, -List.getD_eq_getElem?_getD]; done) | skip
    all_goals (refine done _ _ ?_; unfold clp; omega)
  · cases hx
def TH {R : Type} : Tab R := [(30, liftV z0 2 (con1 wgtsP)), (23, liftV z0 2 (con1 clmP)), (31, liftV z0 2 (con1 Ti.sumP))]
theorem TH_ok {R : Type} {D : Res R} : TabOk D Try.prog (TH : Tab R) := ⟨liftV_ok _ _ wgts_ok, liftV_ok _ _ clm_ok, liftV_ok _ _ Ti.sum_ok, trivial⟩
def hgtP {R : Type} : Prim R := fun args hh => match args, hh with
  | [.slice (some ⟨0, 0, some 8000⟩) n c, .int .i64 p, .int .i64 b], [some (.inr (.inr (.inl r)))] => some ⟨r = mR (uM r) ∧ n = (uM r).length ∧ (uM r).length ≤ 60 ∧ -1099511627776 ≤ b ∧ b ≤ 1099511627776, .int .i64 (hgI (uM r) p b), none, hh, [], []⟩
  | _, _ => none
theorem hgt_ok {R : Type} {D : Res R} : ConOk D Try.prog 12 (con1 hgtP) := by
  refine con1_ok (prim_at (fn := Try.f12) (root := codeOf Try.f12) (by kernel_rfl) (by kernel_rfl) (by kernel_rfl) fun args hh x hx => ?_)
  unfold hgtP at hx
  split at hx
  · rename_i n c p b r
    injection hx with hx
    subst hx
    refine ⟨by first | exact Nat.le_refl _ | exact Nat.zero_le _ | exact Nat.le_succ _, noLit rfl, (fun hw => by first | rfl | cases hw), fun _ hv => ?_⟩
    obtain ⟨hr, rfl, hb, hb0, hb1⟩ := hv; generalize uM r = l at *; subst hr
    generalize hG : Rx.Ends (R := R) _ _ = G
    refine rx_ok (T := TH) TH_ok mixed 200 ?_
    refine as_text (q := let zz1 := (uM (mRx l 0 (List.length l))); let zz2 := (cut (List.map wgt zz1) 0 (List.length zz1)); let zz3 := (b + Ti.psum zz2 (Int.toNat (↑(clp (List.length l) p) : Int))); Vc ((0 + List.length l ≤ List.length l ∧ True) ∧ mRx l 0 (List.length l) = mR zz1 ∧ List.length l = List.length zz1 ∧ List.length zz1 ≤ 60) ∧ Vc ((0 + List.length l ≤ List.length l ∧ True) ∧ mRx l 0 (List.length l) = mR zz1) ∧ Vc ((0 + List.length zz1 ≤ List.length zz1 ∧ True) ∧ List.length zz1 = List.length zz2 ∧ List.length zz1 = List.length zz2 ∧ Ti.Small zz2 ∧ (0 : Int) ≤ (↑(clp (List.length l) p) : Int) ∧ (↑(clp (List.length l) p) : Int) ≤ (↑(List.length zz2) : Int)) ∧ Vc (fits zz3) ∧ Post (G (Value.int IntKind.i64 zz3) [some (Sum.inr (Sum.inr (Sum.inl (mR l)))), none, some (Sum.inr (Sum.inl (3, Row.mk [Value.int IntKind.i64 0] (List.length zz1) [Col.mk (List.map wgt zz1) [] []])))])) ?_ (by kernel_rfl)
    intro zz1 zz2 zz3; subst zz3 zz2 zz1
    simp only [mR_cut, mRx_all, uM_mR, List.length_map]
    have ec : cut (l.map wgt) 0 l.length = l.map wgt := cut_eq (by simp)
    simp only [ec]
    have hk := clp_le l.length p
    have hh := hgh_b (base := b) hb hk
    unfold hgh at hh
    refine ⟨⟨⟨by omega, trivial⟩, trivial, trivial, hb⟩, ⟨⟨by omega, trivial⟩, trivial⟩, ⟨⟨by simp, trivial⟩, by simp, by simp, small_map wgt_b hb, by omega, by simp; omega⟩, ⟨⟨by simp only [Int.toNat_natCast]; omega, by simp only [Int.toNat_natCast]; omega⟩⟩, ⟨?_⟩⟩
    subst hG
    exact ⟨[0], rfl, rfl, ⟨rfl, trivial⟩, rfl, rfl, rfl, rfl⟩
  · cases hx
def TN {R : Type} : Tab R := [(23, liftV z0 2 (con1 clmP)), (12, liftV z0 2 (con1 hgtP))]
theorem TN_ok {R : Type} {D : Res R} : TabOk D Try.prog (TN : Tab R) := ⟨liftV_ok _ _ clm_ok, liftV_ok _ _ hgt_ok, trivial⟩
def nxP {R : Type} : Prim R := fun args hh => match args, hh with
  | [.slice (some ⟨0, 0, some 8000⟩) n c, .int .i64 p, .int .i64 b], [some (.inr (.inr (.inl r)))] => some ⟨r = mR (uM r) ∧ n = (uM r).length ∧ (uM r).length ≤ 60 ∧ -1099511627776 ≤ b ∧ b ≤ 1099511627776, .int .i64 (nxI (uM r) p b), none, hh, [], []⟩
  | _, _ => none
theorem nx_ok {R : Type} {D : Res R} : ConOk D Try.prog 15 (con1 nxP) := by
  refine con1_ok (prim_at (fn := Try.f15) (root := codeOf Try.f15) (by kernel_rfl) (by kernel_rfl) (by kernel_rfl) fun args hh x hx => ?_)
  unfold nxP at hx
  split at hx
  · rename_i n c p b r
    injection hx with hx
    subst hx
    refine ⟨by first | exact Nat.le_refl _ | exact Nat.zero_le _ | exact Nat.le_succ _, noLit rfl, (fun hw => by first | rfl | cases hw), fun _ hv => ?_⟩
    obtain ⟨hr, rfl, hb, hb0, hb1⟩ := hv; generalize uM r = l at *; subst hr
    generalize hG : Rx.Ends (R := R) _ _ = G
    refine rx_ok (T := TN) TN_ok mixed 200 ?_
    refine as_text (q := let zz2 := Value.int IntKind.i64; let zz1 := (Value.slice (some (Addr.mk 0 0 (some 8000))) (List.length l) c); Vc ((0 + List.length l ≤ List.length l ∧ True) ∧ mRx l 0 (List.length l) = mR (uM (mRx l 0 (List.length l)))) ∧ At D Try.prog (codeOf Try.f15) 1 (retK Try.prog (Array.toList (Func.results Try.f15)) G) [Sum.inl [1, 0, 1, 0], Sum.inr (Sum.inl 0), Sum.inl [1, 1]] (SS.mk [some zz1, some (zz2 p), some (zz2 b), none, none, none, some (zz2 0), some (zz2 (↑(clp (List.length l) p) : Int)), some zz1, some (zz2 p), some (zz2 (↑(clp (List.length l) p) : Int)), none, none, none, none, none, none, none, none, none, none, none, none] [] [some (Sum.inr (Sum.inr (Sum.inl (mR l))))])) ?_ (by kernel_rfl)
    intro zz2 zz1; subst zz1 zz2
    have hk := clp_le l.length p
    refine ⟨⟨⟨by omega, trivial⟩, mrx_ok l⟩, ?_⟩
    refine loop_atM (by kernel_rfl) (ι := Nat) (fun i => i ≤ l.length + 1 ∧ nxt l b i (l.length + 1 - i) = nxI l p b) [0, 2, 7] (fun i => [.slice (some ⟨0, 0, some 8000⟩) l.length c, .int .i64 b, .int .i64 i]) (fun i => [vM l]) (fun i => l.length + 1 - i) 23 (fun i hi => ⟨rfl, rfl, by simp⟩) ⟨clp l.length p, ⟨by omega, rfl⟩, ⟨[0], rfl, ⟨rfl, trivial⟩, rfl, rfl, rfl, rfl⟩⟩ fun i hx => ?_
    obtain ⟨hi, hn⟩ := hx
    refine rx_ok (T := TN) TN_ok mixed 200 ?_
    refine as_text (q := let zz2 := Value.int IntKind.i64; let zz1 := (uM (mRx l 0 (List.length l))); (decide ((↑i : Int) ≤ (↑(List.length l) : Int)) = true → Vc ((0 + List.length l ≤ List.length l ∧ True) ∧ mRx l 0 (List.length l) = mR zz1 ∧ List.length l = List.length zz1 ∧ List.length zz1 ≤ 60 ∧ (-1099511627776 : Int) ≤ b ∧ b ≤ (1099511627776 : Int)) ∧ (decide (hgI zz1 (↑i : Int) b ≤ (0 : Int)) = true → Post (G (zz2 (↑i : Int)) [some (Sum.inr (Sum.inr (Sum.inl (mR l))))])) ∧ (decide (hgI zz1 (↑i : Int) b ≤ (0 : Int)) = false → Vc (fits ((↑i : Int) + (1 : Int))) ∧ Post (∃ j, (j ≤ List.length l + 1 ∧ nxt l b j (List.length l + 1 - j) = nxI l p b) ∧ List.length l + 1 - j < List.length l + 1 - i ∧ FitsM R 1 23 [0, 2, 7] [Value.slice (some (Addr.mk 0 0 (some 8000))) (List.length l) c, zz2 b, zz2 (↑j : Int)] [vM l] [some (Value.slice (some (Addr.mk 0 0 (some 8000))) (List.length l) c), some (zz2 b), some (zz2 ((↑i : Int) + (1 : Int)))] [some (Sum.inr (Sum.inr (Sum.inl (mR l))))] 23))) ∧ (decide ((↑i : Int) ≤ (↑(List.length l) : Int)) = false → Post (G (zz2 (-1 : Int)) [some (Sum.inr (Sum.inr (Sum.inl (mR l))))]))) ?_ (by kernel_rfl)
    intro zz2 zz1; subst zz1 zz2
    refine ⟨fun h => ?_, fun h => ?_⟩
    · have hlt : i ≤ l.length := by have := of_decide_eq_true h; omega
      have e1 : hgI l (i : Int) b = hgh l b i := by unfold hgI; rw [clp_nat hlt]
      have e2 : l.length + 1 - i = (l.length + 1 - (i + 1)) + 1 := by omega
      simp only [mRx_all, uM_mR, e1]
      rw [e2, nxt] at hn
      refine ⟨⟨⟨by omega, trivial⟩, trivial, trivial, hb, hb0, hb1⟩, fun h2 => ?_, fun h2 => ?_⟩
      · rw [if_pos (of_decide_eq_true h2)] at hn
        refine ⟨?_⟩
        rw [hn]
        subst hG
        exact ⟨[0], rfl, rfl, ⟨rfl, trivial⟩, rfl, rfl, rfl, rfl⟩
      · rw [if_neg (of_decide_eq_false h2)] at hn
        exact ⟨⟨⟨by omega, by omega⟩⟩, ⟨i + 1, ⟨by omega, hn⟩, by omega, ⟨[0], rfl, ⟨rfl, trivial⟩, rfl, rfl, rfl, rfl⟩⟩⟩
    · obtain rfl : i = l.length + 1 := by have := of_decide_eq_false h; omega
      rw [Nat.sub_self, nxt] at hn
      refine ⟨?_⟩
      rw [hn]
      subst hG
      exact ⟨[0], rfl, rfl, ⟨rfl, trivial⟩, rfl, rfl, rfl, rfl⟩
  · cases hx
def prP {R : Type} : Prim R := fun args hh => match args, hh with
  | [.slice (some ⟨0, 0, some 8000⟩) n c, .int .i64 p, .int .i64 b], [some (.inr (.inr (.inl r)))] => some ⟨r = mR (uM r) ∧ n = (uM r).length ∧ (uM r).length ≤ 60 ∧ -1099511627776 ≤ b ∧ b ≤ 1099511627776, .int .i64 (prI (uM r) p b), none, hh, [], []⟩
  | _, _ => none
theorem pr_ok {R : Type} {D : Res R} : ConOk D Try.prog 17 (con1 prP) := by
  refine con1_ok (prim_at (fn := Try.f17) (root := codeOf Try.f17) (by kernel_rfl) (by kernel_rfl) (by kernel_rfl) fun args hh x hx => ?_)
  unfold prP at hx
  split at hx
  · rename_i n c p b r
    injection hx with hx
    subst hx
    refine ⟨by first | exact Nat.le_refl _ | exact Nat.zero_le _ | exact Nat.le_succ _, noLit rfl, (fun hw => by first | rfl | cases hw), fun _ hv => ?_⟩
    obtain ⟨hr, rfl, hb, hb0, hb1⟩ := hv; generalize uM r = l at *; subst hr
    generalize hG : Rx.Ends (R := R) _ _ = G
    refine rx_ok (T := TN) TN_ok mixed 200 ?_
    refine as_text (q := let zz2 := Value.int IntKind.i64; let zz1 := (Value.slice (some (Addr.mk 0 0 (some 8000))) (List.length l) c); Vc ((0 + List.length l ≤ List.length l ∧ True) ∧ mRx l 0 (List.length l) = mR (uM (mRx l 0 (List.length l)))) ∧ At D Try.prog (codeOf Try.f17) 1 (retK Try.prog (Array.toList (Func.results Try.f17)) G) [Sum.inl [1, 0, 1, 0], Sum.inr (Sum.inl 0), Sum.inl [1, 1]] (SS.mk [some zz1, some (zz2 p), some (zz2 b), none, none, none, some (zz2 0), some (zz2 (↑(clp (List.length l) p) : Int)), some zz1, some (zz2 p), some (zz2 (↑(clp (List.length l) p) : Int)), none, none, none, none, none, none, none, none, none, none] [] [some (Sum.inr (Sum.inr (Sum.inl (mR l))))])) ?_ (by kernel_rfl)
    intro zz2 zz1; subst zz1 zz2
    have hk := clp_le l.length p
    refine ⟨⟨⟨by omega, trivial⟩, mrx_ok l⟩, ?_⟩
    refine loop_atM (by kernel_rfl) (ι := Nat) (fun i => i ≤ l.length + 1 ∧ prvK l b i = prI l p b) [0, 2, 7] (fun i => [.slice (some ⟨0, 0, some 8000⟩) l.length c, .int .i64 b, .int .i64 ((i : Int) - 1)]) (fun i => [vM l]) (fun i => i) (Try.f17).ntmps (fun i hi => ⟨rfl, rfl, by simp⟩) ⟨clp l.length p + 1, ⟨by omega, rfl⟩, ⟨[0], ?_, ⟨rfl, trivial⟩, rfl, rfl, rfl, rfl⟩⟩ fun i hx => ?_
    · have e0 : (((clp l.length p + 1 : Nat) : Int) - 1) = (clp l.length p : Int) := by omega
      simp only [e0]
      rfl
    obtain ⟨hi, hn⟩ := hx
    refine rx_ok (T := TN) TN_ok mixed 200 ?_
    refine as_text (q := let zz2 := Value.int IntKind.i64; let zz1 := (uM (mRx l 0 (List.length l))); (decide ((↑i : Int) - (1 : Int) ≥ (0 : Int)) = true → Vc ((0 + List.length l ≤ List.length l ∧ True) ∧ mRx l 0 (List.length l) = mR zz1 ∧ List.length l = List.length zz1 ∧ List.length zz1 ≤ 60 ∧ (-1099511627776 : Int) ≤ b ∧ b ≤ (1099511627776 : Int)) ∧ (decide (hgI zz1 ((↑i : Int) - (1 : Int)) b ≤ (0 : Int)) = true → Post (G (zz2 ((↑i : Int) - (1 : Int))) [some (Sum.inr (Sum.inr (Sum.inl (mR l))))])) ∧ (decide (hgI zz1 ((↑i : Int) - (1 : Int)) b ≤ (0 : Int)) = false → Vc (fits ((↑i : Int) - (1 : Int) - (1 : Int))) ∧ Post (∃ j, (j ≤ List.length l + 1 ∧ prvK l b j = prI l p b) ∧ j < i ∧ FitsM R 1 (Func.ntmps Try.f17) [0, 2, 7] [Value.slice (some (Addr.mk 0 0 (some 8000))) (List.length l) c, zz2 b, zz2 ((↑j : Int) - (1 : Int))] [vM l] [some (Value.slice (some (Addr.mk 0 0 (some 8000))) (List.length l) c), some (zz2 b), some (zz2 ((↑i : Int) - (1 : Int) - (1 : Int)))] [some (Sum.inr (Sum.inr (Sum.inl (mR l))))] 21))) ∧ (decide ((↑i : Int) - (1 : Int) ≥ (0 : Int)) = false → Post (G (zz2 (-1 : Int)) [some (Sum.inr (Sum.inr (Sum.inl (mR l))))]))) ?_ (by kernel_rfl)
    intro zz2 zz1; subst zz1 zz2
    refine ⟨fun h => ?_, fun h => ?_⟩
    · have hlt : 1 ≤ i := by have := of_decide_eq_true h; omega
      obtain ⟨j, rfl⟩ : ∃ j, i = j + 1 := ⟨i - 1, by omega⟩
      have e0 : ((j + 1 : Nat) : Int) - 1 = (j : Int) := by omega
      have e1 : hgI l (j : Int) b = hgh l b j := by unfold hgI; rw [clp_nat (by omega)]
      simp only [mRx_all, uM_mR, e0, e1]
      have hn : prv l b j = prI l p b := hn
      rw [prv_eq] at hn
      refine ⟨⟨⟨by omega, trivial⟩, trivial, trivial, hb, hb0, hb1⟩, fun h2 => ?_, fun h2 => ?_⟩
      · rw [if_pos (of_decide_eq_true h2)] at hn
        refine ⟨?_⟩
        rw [hn]
        subst hG
        exact ⟨[0], rfl, rfl, ⟨rfl, trivial⟩, rfl, rfl, rfl, rfl⟩
      · rw [if_neg (of_decide_eq_false h2)] at hn
        exact ⟨⟨⟨by omega, by omega⟩⟩, ⟨j, ⟨by omega, hn⟩, by omega, ⟨[0], rfl, ⟨rfl, trivial⟩, rfl, rfl, rfl, rfl⟩⟩⟩
    · obtain rfl : i = 0 := by have := of_decide_eq_false h; omega
      have hn : (-1 : Int) = prI l p b := hn
      refine ⟨?_⟩
      rw [hn]
      subst hG
      exact ⟨[0], rfl, rfl, ⟨rfl, trivial⟩, rfl, rfl, rfl, rfl⟩
  · cases hx
def TB {R : Type} : Tab R := [(23, liftV z0 2 (con1 clmP)), (35, liftV z0 2 (con1 itmP))]
theorem TB_ok {R : Type} {D : Res R} : TabOk D Try.prog (TB : Tab R) := ⟨liftV_ok _ _ clm_ok, liftV_ok _ _ itm_ok, trivial⟩
def bstP {R : Type} : Prim R := fun args hh => match args, hh with
  | [.slice (some ⟨0, 0, some 8000⟩) n c, .int .i64 p], [some (.inr (.inr (.inl r)))] => some ⟨r = mR (uM r) ∧ n = (uM r).length ∧ (uM r).length ≤ 60, .agg ⟨tkL (bstI (uM r) p)⟩, none, hh, [], []⟩
  | _, _ => none
theorem bst_ok {R : Type} {D : Res R} : ConOk D Try.prog 19 (con1 bstP) := by
  refine con1_ok (prim_at (fn := Try.f19) (root := codeOf Try.f19) (by kernel_rfl) (by kernel_rfl) (by kernel_rfl) fun args hh x hx => ?_)
  unfold bstP at hx
  split at hx
  · rename_i n c p r
    injection hx with hx
    subst hx
    refine ⟨by first | exact Nat.le_refl _ | exact Nat.zero_le _ | exact Nat.le_succ _, noLit rfl, (fun hw => by first | rfl | cases hw), fun _ hv => ?_⟩
    obtain ⟨hr, rfl, hb⟩ := hv; generalize uM r = l at *; subst hr
    generalize hG : Rx.Ends (R := R) _ _ = G
    refine rx_ok (T := TB) TB_ok mixed 200 ?_
    refine as_text (q := let zz8 := Value.int IntKind.i64; let zz1 := (↑(clp (List.length l) p) : Int); let zz2 := (↑(List.length l) : Int); let zz3 := (uM (mRx l (0 + Int.toNat zz1) (Int.toNat (zz2 - zz1)))); let zz4 := (srt (itms false zz3)); let zz5 := (↑(List.length zz4) : Int); let zz6 := (List.getD (List.map It.k zz4) (0 + Int.toNat (zz5 - (1 : Int))) (0 : Int)); let zz7 := (List.getD (List.map It.i zz4) (0 + Int.toNat (zz5 - (1 : Int))) (0 : Int)); Vc ((0 + List.length l ≤ List.length l ∧ True) ∧ mRx l 0 (List.length l) = mR (uM (mRx l 0 (List.length l)))) ∧ Vc (0 = 0 ∧ (0 : Int) ≤ zz1 ∧ zz1 ≤ zz2 ∧ zz2 ≤ zz2 ∧ 0 + List.length l ≤ List.length l) ∧ Vc ((0 + Int.toNat zz1 + Int.toNat (zz2 - zz1) ≤ List.length l ∧ True) ∧ mRx l (0 + Int.toNat zz1) (Int.toNat (zz2 - zz1)) = mR zz3 ∧ Int.toNat (zz2 - zz1) = List.length zz3 ∧ List.length zz3 ≤ 60) ∧ ((zz5 == (0 : Int)) = true → Post (G (Value.agg (Array.mk [Value.bool false, zz8 0, zz8 0])) [some (Sum.inr (Sum.inr (Sum.inl (mR l)))), some (Sum.inl (34, [Value.bool false, zz8 0, zz8 0])), none, some (Sum.inr (Sum.inl (32, Row.mk [zz8 0, zz8 0] (List.length zz4) [Col.mk (List.map It.k zz4) [] [], Col.mk (List.map It.i zz4) [] []])))])) ∧ ((zz5 == (0 : Int)) = false → Vc (fits (zz5 - (1 : Int))) ∧ Vc ((0 : Int) ≤ zz5 - (1 : Int) ∧ zz5 - (1 : Int) < zz5 ∧ 0 + List.length zz4 ≤ List.length zz4) ∧ Vc (0 + Int.toNat (zz5 - (1 : Int)) < List.length zz4) ∧ Post (G (Value.agg (Array.mk [Value.bool true, zz8 zz6, zz8 zz7])) [some (Sum.inr (Sum.inr (Sum.inl (mR l)))), some (Sum.inl (34, [Value.bool true, zz8 zz6, zz8 zz7])), none, some (Sum.inr (Sum.inl (32, Row.mk [zz8 0, zz8 0] (List.length zz4) [Col.mk (List.map It.k zz4) [] [], Col.mk (List.map It.i zz4) [] []])))]))) ?_ (by kernel_rfl)
    intro zz8 zz1 zz2 zz3 zz4 zz5 zz6 zz7; subst zz7 zz6 zz5 zz4 zz3 zz2 zz1 zz8
    have done : ∀ (x : Option It) (rest : Hp R), x = bstI l p → G (.agg ⟨tkL x⟩) (vM l :: rest) := by
      intro x rest e
      subst e
      subst hG
      exact ⟨[0], rfl, rfl, ⟨rfl, trivial⟩, rfl, rfl, rfl, rfl⟩
    clear hG
    have hk := clp_le l.length p
    have t2 : ((l.length : Int) - (clp l.length p : Int)).toNat = l.length - clp l.length p := by omega
    simp only [Int.toNat_natCast, t2, Nat.zero_add, mRx_cut (show clp l.length p + (l.length - clp l.length p) ≤ l.length by omega), cut_rest, uM_mR, srt_len]
    have hd : bstI l p = hi (itms false (l.drop (clp l.length p))) := rfl
    have hL := itms_len false (l.drop (clp l.length p))
    rw [List.length_drop] at hL
    rw [hd] at done
    generalize itms false (l.drop (clp l.length p)) = L at *
    refine ⟨⟨⟨by omega, trivial⟩, mrx_ok l⟩, ⟨trivial, by omega, by omega, by omega, by omega⟩, ⟨⟨by omega, trivial⟩, trivial, by rw [List.length_drop], by rw [List.length_drop]; omega⟩, fun h => ⟨?_⟩, fun h => ?_⟩
    · have h0 : L.length = 0 := by have := eq_of_beq h; omega
      exact done none _ (by rw [List.eq_nil_of_length_eq_zero h0]; rfl)
    · have h0 : L.length ≠ 0 := fun c => by rw [c] at h; cases h
      have e1 : ((L.length : Int) - 1).toNat = L.length - 1 := by omega
      simp only [e1, gI It.k 0 rfl, gI It.i 0 rfl]
      exact ⟨⟨⟨by omega, by omega⟩⟩, ⟨by omega, by omega, by omega⟩, ⟨by omega⟩, ⟨done _ _ (hi_len h0).symm⟩⟩
  · cases hx
def lstP {R : Type} : Prim R := fun args hh => match args, hh with
  | [.slice (some ⟨0, 0, some 8000⟩) n c, .int .i64 p], [some (.inr (.inr (.inl r)))] => some ⟨r = mR (uM r) ∧ n = (uM r).length ∧ (uM r).length ≤ 60, .agg ⟨tkL (lstI (uM r) p)⟩, none, hh, [], []⟩
  | _, _ => none
theorem lst_ok {R : Type} {D : Res R} : ConOk D Try.prog 21 (con1 lstP) := by
  refine con1_ok (prim_at (fn := Try.f21) (root := codeOf Try.f21) (by kernel_rfl) (by kernel_rfl) (by kernel_rfl) fun args hh x hx => ?_)
  unfold lstP at hx
  split at hx
  · rename_i n c p r
    injection hx with hx
    subst hx
    refine ⟨by first | exact Nat.le_refl _ | exact Nat.zero_le _ | exact Nat.le_succ _, noLit rfl, (fun hw => by first | rfl | cases hw), fun _ hv => ?_⟩
    obtain ⟨hr, rfl, hb⟩ := hv; generalize uM r = l at *; subst hr
    generalize hG : Rx.Ends (R := R) _ _ = G
    refine rx_ok (T := TB) TB_ok mixed 200 ?_
    refine as_text (q := let zz4 := Value.int IntKind.i64; let zz1 := (↑(clp (List.length l) p) : Int); let zz2 := (uM (mRx l 0 (Int.toNat zz1))); let zz3 := (srt (itms true zz2)); Vc ((0 + List.length l ≤ List.length l ∧ True) ∧ mRx l 0 (List.length l) = mR (uM (mRx l 0 (List.length l)))) ∧ Vc ((0 : Int) ≤ zz1 ∧ zz1 ≤ (↑(List.length l) : Int) ∧ 0 + List.length l ≤ List.length l) ∧ Vc ((0 + Int.toNat zz1 ≤ List.length l ∧ True) ∧ mRx l 0 (Int.toNat zz1) = mR zz2 ∧ Int.toNat zz1 = List.length zz2 ∧ List.length zz2 ≤ 60) ∧ (((↑(List.length zz3) : Int) == (0 : Int)) = true → Post (G (Value.agg (Array.mk [Value.bool false, zz4 0, zz4 0])) [some (Sum.inr (Sum.inr (Sum.inl (mR l)))), some (Sum.inl (34, [Value.bool false, zz4 0, zz4 0])), none, some (Sum.inr (Sum.inl (32, Row.mk [zz4 0, zz4 0] (List.length zz3) [Col.mk (List.map It.k zz3) [] [], Col.mk (List.map It.i zz3) [] []])))])) ∧ (((↑(List.length zz3) : Int) == (0 : Int)) = false → Vc ((0 : Int) ≤ (0 : Int) ∧ (0 : Int) < (↑(List.length zz3) : Int) ∧ 0 + List.length zz3 ≤ List.length zz3) ∧ Vc (0 < List.length zz3) ∧ Post (G (Value.agg (Array.mk [Value.bool true, zz4 (List.getD (List.map It.k zz3) 0 (0 : Int)), zz4 (List.getD (List.map It.i zz3) 0 (0 : Int))])) [some (Sum.inr (Sum.inr (Sum.inl (mR l)))), some (Sum.inl (34, [Value.bool true, zz4 (List.getD (List.map It.k zz3) 0 (0 : Int)), zz4 (List.getD (List.map It.i zz3) 0 (0 : Int))])), none, some (Sum.inr (Sum.inl (32, Row.mk [zz4 0, zz4 0] (List.length zz3) [Col.mk (List.map It.k zz3) [] [], Col.mk (List.map It.i zz3) [] []])))]))) ?_ (by kernel_rfl)
    intro zz4 zz1 zz2 zz3; subst zz3 zz2 zz1 zz4
    have done : ∀ (x : Option It) (rest : Hp R), x = lstI l p → G (.agg ⟨tkL x⟩) (vM l :: rest) := by
      intro x rest e
      subst e
      subst hG
      exact ⟨[0], rfl, rfl, ⟨rfl, trivial⟩, rfl, rfl, rfl, rfl⟩
    clear hG
    have hk := clp_le l.length p
    simp only [Int.toNat_natCast, Nat.zero_add, mRx_cut (show 0 + clp l.length p ≤ l.length by omega), cut_front, uM_mR, srt_len]
    have hd : lstI l p = lo (itms true (l.take (clp l.length p))) := rfl
    have hL := itms_len true (l.take (clp l.length p))
    rw [List.length_take] at hL
    rw [hd] at done
    generalize itms true (l.take (clp l.length p)) = L at *
    refine ⟨⟨⟨by omega, trivial⟩, mrx_ok l⟩, ⟨by omega, by omega, by omega⟩, ⟨⟨by omega, trivial⟩, trivial, by rw [List.length_take]; omega, by rw [List.length_take]; omega⟩, fun h => ⟨?_⟩, fun h => ?_⟩
    · have h0 : L.length = 0 := by have := eq_of_beq h; omega
      exact done none _ (by rw [List.eq_nil_of_length_eq_zero h0]; rfl)
    · have h0 : L.length ≠ 0 := fun c => by rw [c] at h; cases h
      simp only [gI It.k 0 rfl, gI It.i 0 rfl]
      exact ⟨⟨by omega, by omega, by omega⟩, ⟨by omega⟩, ⟨done _ _ (lo_len h0).symm⟩⟩
  · cases hx
abbrev oM {R : Type} (w : List Mk) : Option (SB R) := some (.inr (.inl (48, mR w)))
theorem tm_tail {R : Type} {D : Res R} {G : Value → Hp R → Prop} {l : List Mk} {c i r : Nat} (hb : l.length ≤ 60) (hi : i < l.length) (hr : rk8 (l.getD i mz) (tmd l i) = r) :
    At D Try.prog (codeOf Try.f13) 1 (retK Try.prog Try.f13.results.toList G) [.inl [1, 1, 0, 1, 0, 0, 1, 0, 0, 1, 1], .inr (.inl 1), .inl [1, 1, 0, 1, 0, 0, 1, 1], .inr (.inr fun σ' => ∃ j, j ≤ l.length ∧ l.length - j < l.length - i ∧ FitsM R 1 73 [0, 3, 4] [.slice (some ⟨0, 0, some 8000⟩) l.length c, .slice (some ⟨1, 0, some 8000⟩) (tmd l j).length 0, .int .i64 j] [vM l, oM (tmd l j)] (vals σ'.tm [0, 3, 4]) σ'.hp σ'.tm.length), .inr (.inl 0), .inl [1, 1, 1]] ⟨frame [0, 3, 4, 5] [.slice (some ⟨0, 0, some 8000⟩) l.length c, .slice (some ⟨1, 0, some 8000⟩) (tmd l i).length 0, .int .i64 i, .int .i64 r] 0 73, [], [vM l, oM (tmd l i)]⟩ := by
  refine rx_ok (T := []) trivial mixed 200 ?_
  refine as_text (q := let zz14 := Value.int IntKind.i64; let zz1 := (0 : Int); let zz2 := (↑r : Int); let zz3 := (tmd l i); let zz4 := (↑(List.length zz3) : Int); let zz5 := (List.getD (List.map Mk.t zz3) (0 + Int.toNat zz2) zz1 == List.getD (List.map Mk.t l) (0 + Int.toNat (↑i : Int)) zz1); let zz6 := (Value.slice (some (Addr.mk 0 0 (some 8000))) (List.length l) c); let zz7 := (Int.toNat zz2); let zz8 := (cut ([] ++ cut (List.map Mk.t zz3) 0 zz7) 0 (0 + Int.toNat zz2) ++ cut [List.getD (List.map Mk.t l) (0 + Int.toNat (↑i : Int)) zz1] 0 1); let zz9 := (Int.toNat (zz4 - (zz2 + (1 : Int)))); let zz10 := (cut ([] ++ cut (List.map Mk.ins zz3) 0 zz7) 0 (0 + Int.toNat zz2) ++ cut [List.getD (List.map Mk.ins l) (0 + Int.toNat (↑i : Int)) false] 0 1); let zz11 := (cut ([] ++ cut (List.map Mk.here zz3) 0 zz7) 0 (0 + Int.toNat zz2) ++ cut [List.getD (List.map Mk.here l) (0 + Int.toNat (↑i : Int)) false] 0 1); let zz12 := (cut ([] ++ cut (List.map Mk.tf zz3) 0 zz7) 0 (0 + Int.toNat zz2) ++ cut [List.getD (List.map Mk.tf l) (0 + Int.toNat (↑i : Int)) false] 0 1); let zz13 := (Int.toNat (zz4 - zz2)); Vc (zz1 ≤ zz2 ∧ zz2 ≤ zz4 ∧ 0 + List.length zz3 ≤ List.length zz3) ∧ Vc (0 ≤ 0 ∧ 0 + Int.toNat zz2 ≤ List.length zz3 ∧ (0 + Int.toNat zz2) * 64 ≤ 140737488355328 ∧ 0 + Int.toNat zz2 ≤ 140737488355328) ∧ Vc (zz1 ≤ (↑i : Int) ∧ (↑i : Int) < (↑(List.length l) : Int) ∧ 0 + List.length l ≤ List.length l) ∧ Vc (0 + Int.toNat (↑i : Int) < List.length l) ∧ Vc (0 + (0 + Int.toNat zz2) ≤ 0 + Int.toNat zz2 ∧ 1 ≤ 1 ∧ (0 + Int.toNat zz2 + 1) * 64 ≤ 140737488355328 ∧ 0 + Int.toNat zz2 + 1 ≤ 140737488355328) ∧ (decide (zz2 < zz4) = true → Vc (Value.bool (decide (zz2 < zz4)) = Value.bool true) ∧ Vc (zz1 ≤ zz2 ∧ zz2 < zz4 ∧ 0 + List.length zz3 ≤ List.length zz3) ∧ Vc (0 + Int.toNat zz2 < List.length zz3) ∧ Vc (zz1 ≤ (↑i : Int) ∧ (↑i : Int) < (↑(List.length l) : Int) ∧ 0 + List.length l ≤ List.length l) ∧ Vc (0 + Int.toNat (↑i : Int) < List.length l) ∧ (zz5 = true → Vc (fits (zz2 + (1 : Int))) ∧ Vc (0 = 0 ∧ zz1 ≤ zz2 + (1 : Int) ∧ zz2 + (1 : Int) ≤ zz4 ∧ zz4 ≤ zz4 ∧ 0 + List.length zz3 ≤ List.length zz3) ∧ Vc (0 + (0 + Int.toNat zz2 + 1) ≤ 0 + Int.toNat zz2 + 1 ∧ 0 + Int.toNat (zz2 + (1 : Int)) + Int.toNat (zz4 - (zz2 + (1 : Int))) ≤ List.length zz3 ∧ (0 + Int.toNat zz2 + 1 + Int.toNat (zz4 - (zz2 + (1 : Int)))) * 64 ≤ 140737488355328 ∧ 0 + Int.toNat zz2 + 1 + Int.toNat (zz4 - (zz2 + (1 : Int))) ≤ 140737488355328) ∧ Vc (fits ((↑i : Int) + (1 : Int))) ∧ Post (∃ j, j ≤ List.length l ∧ List.length l - j < List.length l - i ∧ FitsM R 1 73 [0, 3, 4] [Value.slice (some (Addr.mk 0 0 (some 8000))) (List.length l) c, Value.slice (some (Addr.mk 1 0 (some 8000))) (List.length (tmd l j)) 0, zz14 (↑j : Int)] [vM l, oM (tmd l j)] [some zz6, some (Value.slice (some (Addr.mk 6 0 (some 8000))) (0 + Int.toNat zz2 + 1 + Int.toNat (zz4 - (zz2 + (1 : Int)))) 0), some (zz14 ((↑i : Int) + (1 : Int)))] [some (Sum.inr (Sum.inr (Sum.inl (mR l)))), some (Sum.inr (Sum.inl (48, mR zz3))), none, none, some (Sum.inr (Sum.inl (48, Row.mk [zz14 0, Value.bool false, zz14 0, zz14 0, Value.bool false, Value.bool false, zz14 0, zz14 0] 1 [Col.mk [List.getD (List.map Mk.t l) (0 + Int.toNat (↑i : Int)) zz1] [] [], Col.mk [] [List.getD (List.map Mk.ins l) (0 + Int.toNat (↑i : Int)) false] [], Col.mk [List.getD (List.map (fun m => It.k (Mk.it m)) l) (0 + Int.toNat (↑i : Int)) zz1] [] [], Col.mk [List.getD (List.map (fun m => It.i (Mk.it m)) l) (0 + Int.toNat (↑i : Int)) zz1] [] [], Col.mk [] [List.getD (List.map Mk.here l) (0 + Int.toNat (↑i : Int)) false] [], Col.mk [] [List.getD (List.map Mk.tf l) (0 + Int.toNat (↑i : Int)) false] [], Col.mk [List.getD (List.map (fun m => It.k (Mk.tk m)) l) (0 + Int.toNat (↑i : Int)) zz1] [] [], Col.mk [List.getD (List.map (fun m => It.i (Mk.tk m)) l) (0 + Int.toNat (↑i : Int)) zz1] [] []]))), none, some (Sum.inr (Sum.inl (48, Row.mk [zz14 0, Value.bool false, zz14 0, zz14 0, Value.bool false, Value.bool false, zz14 0, zz14 0] (0 + Int.toNat zz2 + 1 + Int.toNat (zz4 - (zz2 + (1 : Int)))) [Col.mk (cut zz8 0 (0 + Int.toNat zz2 + 1) ++ cut (List.map Mk.t zz3) (0 + Int.toNat (zz2 + (1 : Int))) zz9) [] [], Col.mk [] (cut zz10 0 (0 + Int.toNat zz2 + 1) ++ cut (List.map Mk.ins zz3) (0 + Int.toNat (zz2 + (1 : Int))) zz9) [], Col.mk (cut (cut ([] ++ cut (List.map (fun m => It.k (Mk.it m)) zz3) 0 zz7) 0 (0 + Int.toNat zz2) ++ cut [List.getD (List.map (fun m => It.k (Mk.it m)) l) (0 + Int.toNat (↑i : Int)) zz1] 0 1) 0 (0 + Int.toNat zz2 + 1) ++ cut (List.map (fun m => It.k (Mk.it m)) zz3) (0 + Int.toNat (zz2 + (1 : Int))) zz9) [] [], Col.mk (cut (cut ([] ++ cut (List.map (fun m => It.i (Mk.it m)) zz3) 0 zz7) 0 (0 + Int.toNat zz2) ++ cut [List.getD (List.map (fun m => It.i (Mk.it m)) l) (0 + Int.toNat (↑i : Int)) zz1] 0 1) 0 (0 + Int.toNat zz2 + 1) ++ cut (List.map (fun m => It.i (Mk.it m)) zz3) (0 + Int.toNat (zz2 + (1 : Int))) zz9) [] [], Col.mk [] (cut zz11 0 (0 + Int.toNat zz2 + 1) ++ cut (List.map Mk.here zz3) (0 + Int.toNat (zz2 + (1 : Int))) zz9) [], Col.mk [] (cut zz12 0 (0 + Int.toNat zz2 + 1) ++ cut (List.map Mk.tf zz3) (0 + Int.toNat (zz2 + (1 : Int))) zz9) [], Col.mk (cut (cut ([] ++ cut (List.map (fun m => It.k (Mk.tk m)) zz3) 0 zz7) 0 (0 + Int.toNat zz2) ++ cut [List.getD (List.map (fun m => It.k (Mk.tk m)) l) (0 + Int.toNat (↑i : Int)) zz1] 0 1) 0 (0 + Int.toNat zz2 + 1) ++ cut (List.map (fun m => It.k (Mk.tk m)) zz3) (0 + Int.toNat (zz2 + (1 : Int))) zz9) [] [], Col.mk (cut (cut ([] ++ cut (List.map (fun m => It.i (Mk.tk m)) zz3) 0 zz7) 0 (0 + Int.toNat zz2) ++ cut [List.getD (List.map (fun m => It.i (Mk.tk m)) l) (0 + Int.toNat (↑i : Int)) zz1] 0 1) 0 (0 + Int.toNat zz2 + 1) ++ cut (List.map (fun m => It.i (Mk.tk m)) zz3) (0 + Int.toNat (zz2 + (1 : Int))) zz9) [] []])))] 73)) ∧ (zz5 = false → Vc (0 = 0 ∧ zz1 ≤ zz2 ∧ zz2 ≤ zz4 ∧ zz4 ≤ zz4 ∧ 0 + List.length zz3 ≤ List.length zz3) ∧ Vc (0 + (0 + Int.toNat zz2 + 1) ≤ 0 + Int.toNat zz2 + 1 ∧ 0 + Int.toNat zz2 + Int.toNat (zz4 - zz2) ≤ List.length zz3 ∧ (0 + Int.toNat zz2 + 1 + Int.toNat (zz4 - zz2)) * 64 ≤ 140737488355328 ∧ 0 + Int.toNat zz2 + 1 + Int.toNat (zz4 - zz2) ≤ 140737488355328) ∧ Vc (fits ((↑i : Int) + (1 : Int))) ∧ Post (∃ j, j ≤ List.length l ∧ List.length l - j < List.length l - i ∧ FitsM R 1 73 [0, 3, 4] [Value.slice (some (Addr.mk 0 0 (some 8000))) (List.length l) c, Value.slice (some (Addr.mk 1 0 (some 8000))) (List.length (tmd l j)) 0, zz14 (↑j : Int)] [vM l, oM (tmd l j)] [some zz6, some (Value.slice (some (Addr.mk 6 0 (some 8000))) (0 + Int.toNat zz2 + 1 + Int.toNat (zz4 - zz2)) 0), some (zz14 ((↑i : Int) + (1 : Int)))] [some (Sum.inr (Sum.inr (Sum.inl (mR l)))), some (Sum.inr (Sum.inl (48, mR zz3))), none, none, some (Sum.inr (Sum.inl (48, Row.mk [zz14 0, Value.bool false, zz14 0, zz14 0, Value.bool false, Value.bool false, zz14 0, zz14 0] 1 [Col.mk [List.getD (List.map Mk.t l) (0 + Int.toNat (↑i : Int)) zz1] [] [], Col.mk [] [List.getD (List.map Mk.ins l) (0 + Int.toNat (↑i : Int)) false] [], Col.mk [List.getD (List.map (fun m => It.k (Mk.it m)) l) (0 + Int.toNat (↑i : Int)) zz1] [] [], Col.mk [List.getD (List.map (fun m => It.i (Mk.it m)) l) (0 + Int.toNat (↑i : Int)) zz1] [] [], Col.mk [] [List.getD (List.map Mk.here l) (0 + Int.toNat (↑i : Int)) false] [], Col.mk [] [List.getD (List.map Mk.tf l) (0 + Int.toNat (↑i : Int)) false] [], Col.mk [List.getD (List.map (fun m => It.k (Mk.tk m)) l) (0 + Int.toNat (↑i : Int)) zz1] [] [], Col.mk [List.getD (List.map (fun m => It.i (Mk.tk m)) l) (0 + Int.toNat (↑i : Int)) zz1] [] []]))), none, some (Sum.inr (Sum.inl (48, Row.mk [zz14 0, Value.bool false, zz14 0, zz14 0, Value.bool false, Value.bool false, zz14 0, zz14 0] (0 + Int.toNat zz2 + 1 + Int.toNat (zz4 - zz2)) [Col.mk (cut zz8 0 (0 + Int.toNat zz2 + 1) ++ cut (List.map Mk.t zz3) (0 + Int.toNat zz2) zz13) [] [], Col.mk [] (cut zz10 0 (0 + Int.toNat zz2 + 1) ++ cut (List.map Mk.ins zz3) (0 + Int.toNat zz2) zz13) [], Col.mk (cut (cut ([] ++ cut (List.map (fun m => It.k (Mk.it m)) zz3) 0 zz7) 0 (0 + Int.toNat zz2) ++ cut [List.getD (List.map (fun m => It.k (Mk.it m)) l) (0 + Int.toNat (↑i : Int)) zz1] 0 1) 0 (0 + Int.toNat zz2 + 1) ++ cut (List.map (fun m => It.k (Mk.it m)) zz3) (0 + Int.toNat zz2) zz13) [] [], Col.mk (cut (cut ([] ++ cut (List.map (fun m => It.i (Mk.it m)) zz3) 0 zz7) 0 (0 + Int.toNat zz2) ++ cut [List.getD (List.map (fun m => It.i (Mk.it m)) l) (0 + Int.toNat (↑i : Int)) zz1] 0 1) 0 (0 + Int.toNat zz2 + 1) ++ cut (List.map (fun m => It.i (Mk.it m)) zz3) (0 + Int.toNat zz2) zz13) [] [], Col.mk [] (cut zz11 0 (0 + Int.toNat zz2 + 1) ++ cut (List.map Mk.here zz3) (0 + Int.toNat zz2) zz13) [], Col.mk [] (cut zz12 0 (0 + Int.toNat zz2 + 1) ++ cut (List.map Mk.tf zz3) (0 + Int.toNat zz2) zz13) [], Col.mk (cut (cut ([] ++ cut (List.map (fun m => It.k (Mk.tk m)) zz3) 0 zz7) 0 (0 + Int.toNat zz2) ++ cut [List.getD (List.map (fun m => It.k (Mk.tk m)) l) (0 + Int.toNat (↑i : Int)) zz1] 0 1) 0 (0 + Int.toNat zz2 + 1) ++ cut (List.map (fun m => It.k (Mk.tk m)) zz3) (0 + Int.toNat zz2) zz13) [] [], Col.mk (cut (cut ([] ++ cut (List.map (fun m => It.i (Mk.tk m)) zz3) 0 zz7) 0 (0 + Int.toNat zz2) ++ cut [List.getD (List.map (fun m => It.i (Mk.tk m)) l) (0 + Int.toNat (↑i : Int)) zz1] 0 1) 0 (0 + Int.toNat zz2 + 1) ++ cut (List.map (fun m => It.i (Mk.tk m)) zz3) (0 + Int.toNat zz2) zz13) [] []])))] 73))) ∧ (decide (zz2 < zz4) = false → Vc (Value.bool (decide (zz2 < zz4)) = Value.bool false) ∧ Vc (0 = 0 ∧ zz1 ≤ zz2 ∧ zz2 ≤ zz4 ∧ zz4 ≤ zz4 ∧ 0 + List.length zz3 ≤ List.length zz3) ∧ Vc (0 + (0 + Int.toNat zz2 + 1) ≤ 0 + Int.toNat zz2 + 1 ∧ 0 + Int.toNat zz2 + Int.toNat (zz4 - zz2) ≤ List.length zz3 ∧ (0 + Int.toNat zz2 + 1 + Int.toNat (zz4 - zz2)) * 64 ≤ 140737488355328 ∧ 0 + Int.toNat zz2 + 1 + Int.toNat (zz4 - zz2) ≤ 140737488355328) ∧ Vc (fits ((↑i : Int) + (1 : Int))) ∧ Post (∃ j, j ≤ List.length l ∧ List.length l - j < List.length l - i ∧ FitsM R 1 73 [0, 3, 4] [Value.slice (some (Addr.mk 0 0 (some 8000))) (List.length l) c, Value.slice (some (Addr.mk 1 0 (some 8000))) (List.length (tmd l j)) 0, zz14 (↑j : Int)] [vM l, oM (tmd l j)] [some zz6, some (Value.slice (some (Addr.mk 6 0 (some 8000))) (0 + Int.toNat zz2 + 1 + Int.toNat (zz4 - zz2)) 0), some (zz14 ((↑i : Int) + (1 : Int)))] [some (Sum.inr (Sum.inr (Sum.inl (mR l)))), some (Sum.inr (Sum.inl (48, mR zz3))), none, none, some (Sum.inr (Sum.inl (48, Row.mk [zz14 0, Value.bool false, zz14 0, zz14 0, Value.bool false, Value.bool false, zz14 0, zz14 0] 1 [Col.mk [List.getD (List.map Mk.t l) (0 + Int.toNat (↑i : Int)) zz1] [] [], Col.mk [] [List.getD (List.map Mk.ins l) (0 + Int.toNat (↑i : Int)) false] [], Col.mk [List.getD (List.map (fun m => It.k (Mk.it m)) l) (0 + Int.toNat (↑i : Int)) zz1] [] [], Col.mk [List.getD (List.map (fun m => It.i (Mk.it m)) l) (0 + Int.toNat (↑i : Int)) zz1] [] [], Col.mk [] [List.getD (List.map Mk.here l) (0 + Int.toNat (↑i : Int)) false] [], Col.mk [] [List.getD (List.map Mk.tf l) (0 + Int.toNat (↑i : Int)) false] [], Col.mk [List.getD (List.map (fun m => It.k (Mk.tk m)) l) (0 + Int.toNat (↑i : Int)) zz1] [] [], Col.mk [List.getD (List.map (fun m => It.i (Mk.tk m)) l) (0 + Int.toNat (↑i : Int)) zz1] [] []]))), none, some (Sum.inr (Sum.inl (48, Row.mk [zz14 0, Value.bool false, zz14 0, zz14 0, Value.bool false, Value.bool false, zz14 0, zz14 0] (0 + Int.toNat zz2 + 1 + Int.toNat (zz4 - zz2)) [Col.mk (cut zz8 0 (0 + Int.toNat zz2 + 1) ++ cut (List.map Mk.t zz3) (0 + Int.toNat zz2) zz13) [] [], Col.mk [] (cut zz10 0 (0 + Int.toNat zz2 + 1) ++ cut (List.map Mk.ins zz3) (0 + Int.toNat zz2) zz13) [], Col.mk (cut (cut ([] ++ cut (List.map (fun m => It.k (Mk.it m)) zz3) 0 zz7) 0 (0 + Int.toNat zz2) ++ cut [List.getD (List.map (fun m => It.k (Mk.it m)) l) (0 + Int.toNat (↑i : Int)) zz1] 0 1) 0 (0 + Int.toNat zz2 + 1) ++ cut (List.map (fun m => It.k (Mk.it m)) zz3) (0 + Int.toNat zz2) zz13) [] [], Col.mk (cut (cut ([] ++ cut (List.map (fun m => It.i (Mk.it m)) zz3) 0 zz7) 0 (0 + Int.toNat zz2) ++ cut [List.getD (List.map (fun m => It.i (Mk.it m)) l) (0 + Int.toNat (↑i : Int)) zz1] 0 1) 0 (0 + Int.toNat zz2 + 1) ++ cut (List.map (fun m => It.i (Mk.it m)) zz3) (0 + Int.toNat zz2) zz13) [] [], Col.mk [] (cut zz11 0 (0 + Int.toNat zz2 + 1) ++ cut (List.map Mk.here zz3) (0 + Int.toNat zz2) zz13) [], Col.mk [] (cut zz12 0 (0 + Int.toNat zz2 + 1) ++ cut (List.map Mk.tf zz3) (0 + Int.toNat zz2) zz13) [], Col.mk (cut (cut ([] ++ cut (List.map (fun m => It.k (Mk.tk m)) zz3) 0 zz7) 0 (0 + Int.toNat zz2) ++ cut [List.getD (List.map (fun m => It.k (Mk.tk m)) l) (0 + Int.toNat (↑i : Int)) zz1] 0 1) 0 (0 + Int.toNat zz2 + 1) ++ cut (List.map (fun m => It.k (Mk.tk m)) zz3) (0 + Int.toNat zz2) zz13) [] [], Col.mk (cut (cut ([] ++ cut (List.map (fun m => It.i (Mk.tk m)) zz3) 0 zz7) 0 (0 + Int.toNat zz2) ++ cut [List.getD (List.map (fun m => It.i (Mk.tk m)) l) (0 + Int.toNat (↑i : Int)) zz1] 0 1) 0 (0 + Int.toNat zz2 + 1) ++ cut (List.map (fun m => It.i (Mk.tk m)) zz3) (0 + Int.toNat zz2) zz13) [] []])))] 73))) ?_ (by kernel_rfl)
  intro zz14 zz1 zz2 zz3 zz4 zz5 zz6 zz7 zz8 zz9 zz10 zz11 zz12 zz13; subst zz13 zz12 zz11 zz10 zz9 zz8 zz7 zz6 zz5 zz4 zz3 zz2 zz1 zz14
  have hle : r ≤ (tmd l i).length := by rw [← hr]; exact Gv.rkE_le _ _
  have hsz := tmd_len l i
  have hl : tmd l (i + 1) = Gv.putE O8 (l.getD i mz) (tmd l i) := rfl
  have P : ∀ (b : Nat), (if hit8 (l.getD i mz) (tmd l i) = true then r + 1 else r) = b → ∀ {β : Type} (f : Mk → β), ((tmd l i).map f).take r ++ f (l.getD i mz) :: ((tmd l i).map f).drop b = (Gv.putE O8 (l.getD i mz) (tmd l i)).map f := fun b hb β f => by
    rw [put8, hr, hb]
    simp [List.map_take, List.map_drop]
  have N : ∀ (b : Nat), (if hit8 (l.getD i mz) (tmd l i) = true then r + 1 else r) = b → b ≤ (tmd l i).length → r + 1 + ((tmd l i).length - b) = (Gv.putE O8 (l.getD i mz) (tmd l i)).length := fun b hb hb2 => by
    rw [put8, hr, hb]
    simp
    omega
  simp only [e_i, Int.toNat_natCast, Nat.zero_add, gM Mk.t 0 rfl, gM Mk.ins false rfl, gM Mk.here false rfl, gM Mk.tf false rfl, gM (fun m => m.it.k) 0 rfl, gM (fun m => m.it.i) 0 rfl, gM (fun m => m.tk.k) 0 rfl, gM (fun m => m.tk.i) 0 rfl]
  have A0 : ∀ {β : Type} (f : Mk → β) (v : β), cut (cut ([] ++ cut ((tmd l i).map f) 0 r) 0 r ++ cut [v] 0 1) 0 (r + 1) ++ cut ((tmd l i).map f) r (((tmd l i).length : Int) - (r : Int)).toNat = ((tmd l i).map f).take r ++ v :: ((tmd l i).map f).drop r := fun f v => put_row0 (List.length_map ..) hle
  repeat' (first | apply And.intro | apply Vc.mk | apply fits.mk | intro h | apply Post.mk)
  all_goals (try simp only [decide_eq_true_eq, decide_eq_false_iff_not, Nat.zero_add, ge_iff_le, Int.not_le, Int.not_lt, Int.toNat_natCast, beq_iff_eq, beq_eq_false_iff_ne, bne_iff_ne, bne_eq_false_iff_eq, Bool.not_eq_true', Bool.not_eq_false'] at *)
  all_goals first | contradiction | omega | (apply congrArg Value.bool; assumption) | exact congrArg Value.bool (decide_eq_true (by assumption)) | exact congrArg Value.bool (decide_eq_false (Int.not_lt.mpr (by assumption))) | exact ⟨rfl, by omega⟩ | exact rfl | (simp [*, -List.getD_eq_getElem?_getD]; done) | skip
  · have h1 : r < (tmd l i).length := by omega
    have h2 : ((tmd l i).getD r mz).t = (l.getD i mz).t := by assumption
    have hh : (if hit8 (l.getD i mz) (tmd l i) = true then r + 1 else r) = r + 1 := by unfold hit8; rw [hr, decide_eq_true h1, decide_eq_true h2]; rfl
    have A1 : ∀ {β : Type} (f : Mk → β) (v : β), cut (cut ([] ++ cut ((tmd l i).map f) 0 r) 0 r ++ cut [v] 0 1) 0 (r + 1) ++ cut ((tmd l i).map f) ((r : Int) + 1).toNat (((tmd l i).length : Int) - ((r : Int) + 1)).toNat = ((tmd l i).map f).take r ++ v :: ((tmd l i).map f).drop (r + 1) := fun f v => put_row1 (List.length_map ..) h1
    have N1 : r + 1 + (((tmd l i).length : Int) - ((r : Int) + 1)).toNat = (Gv.putE O8 (l.getD i mz) (tmd l i)).length := by rw [← N _ hh h1]; omega
    have P1 := @P (r + 1) hh
    refine ⟨i + 1, hi, by omega, ?_⟩
    rw [hl]
    simp only [A1, N1, P1 Mk.t, P1 Mk.ins, P1 Mk.here, P1 Mk.tf, P1 (fun m => m.it.k), P1 (fun m => m.it.i), P1 (fun m => m.tk.k), P1 (fun m => m.tk.i)]
    exact ⟨[0, 6], rfl, ⟨rfl, ⟨_, rfl, .inl rfl⟩, trivial⟩, rfl, rfl, rfl, rfl⟩
  · have h2 : ¬ ((tmd l i).getD r mz).t = (l.getD i mz).t := by assumption
    have hh : (if hit8 (l.getD i mz) (tmd l i) = true then r + 1 else r) = r := by unfold hit8; rw [hr, decide_eq_false h2, Bool.and_false]; rfl
    have N1 : r + 1 + (((tmd l i).length : Int) - (r : Int)).toNat = (Gv.putE O8 (l.getD i mz) (tmd l i)).length := by rw [← N _ hh hle]; omega
    have P1 := @P r hh
    refine ⟨i + 1, hi, by omega, ?_⟩
    rw [hl]
    simp only [A0, N1, P1 Mk.t, P1 Mk.ins, P1 Mk.here, P1 Mk.tf, P1 (fun m => m.it.k), P1 (fun m => m.it.i), P1 (fun m => m.tk.k), P1 (fun m => m.tk.i)]
    exact ⟨[0, 6], rfl, ⟨rfl, ⟨_, rfl, .inl rfl⟩, trivial⟩, rfl, rfl, rfl, rfl⟩
  · have h1 : ¬ r < (tmd l i).length := by omega
    have hh : (if hit8 (l.getD i mz) (tmd l i) = true then r + 1 else r) = r := by unfold hit8; rw [hr, decide_eq_false h1]; rfl
    have N1 : r + 1 + (((tmd l i).length : Int) - (r : Int)).toNat = (Gv.putE O8 (l.getD i mz) (tmd l i)).length := by rw [← N _ hh hle]; omega
    have P1 := @P r hh
    refine ⟨i + 1, hi, by omega, ?_⟩
    rw [hl]
    simp only [A0, N1, P1 Mk.t, P1 Mk.ins, P1 Mk.here, P1 Mk.tf, P1 (fun m => m.it.k), P1 (fun m => m.it.i), P1 (fun m => m.tk.k), P1 (fun m => m.tk.i)]
    exact ⟨[0, 6], rfl, ⟨rfl, ⟨_, rfl, .inl rfl⟩, trivial⟩, rfl, rfl, rfl, rfl⟩
def tmP {R : Type} : Prim R := fun args hh => match args, hh with
  | [.slice (some ⟨0, 0, some 8000⟩) n c], [some (.inr (.inr (.inl r)))] => some ⟨r = mR (uM r) ∧ n = (uM r).length ∧ (uM r).length ≤ 60, .slice (some ⟨1, 0, some 8000⟩) (tmL (uM r)).length 0, none, [some (.inr (.inr (.inl r))), oM (tmL (uM r))], [], [(0, 0)]⟩
  | _, _ => none
theorem tm_ok {R : Type} {D : Res R} : ConOk D Try.prog 13 (con1 tmP) := by
  refine con1_ok (prim_at (fn := Try.f13) (root := codeOf Try.f13) (by kernel_rfl) (by kernel_rfl) (by kernel_rfl) fun args hh x hx => ?_)
  unfold tmP at hx
  split at hx
  · rename_i n c r
    injection hx with hx
    subst hx
    refine ⟨by first | exact Nat.le_refl _ | exact Nat.zero_le _ | exact Nat.le_succ _, noLit rfl, (fun hw => by first | rfl | cases hw), fun _ hv => ?_⟩
    obtain ⟨hr, rfl, hb⟩ := hv; generalize uM r = l at *; subst hr
    generalize hG : Rx.Ends (R := R) _ _ = G
    refine rx_ok (T := []) trivial mixed 200 ?_
    refine as_text (q := let zz1 := Value.int IntKind.i64; At D Try.prog (codeOf Try.f13) 1 (retK Try.prog (Array.toList (Func.results Try.f13)) G) [Sum.inl [1, 1, 0, 1, 0], Sum.inr (Sum.inl 0), Sum.inl [1, 1, 1]] (SS.mk [some (Value.slice (some (Addr.mk 0 0 (some 8000))) (List.length l) c), none, some (Value.slice (some (Addr.mk 1 0 (some 8000))) 0 0), some (Value.slice (some (Addr.mk 2 0 (some 8000))) 0 0), some (zz1 0), none, none, none, none, none, none, none, none, none, none, none, none, none, none, none, none, none, none, none, none, none, none, none, none, none, none, none, none, none, none, none, none, none, none, none, none, none, none, none, none, none, none, none, none, none, none, none, none, none, none, none, none, none, none, none, none, none, none, none, none, none, none, none, none, none, none, none, none] [] [some (Sum.inr (Sum.inr (Sum.inl (mR l)))), some (Sum.inr (Sum.inl (48, Row.mk [zz1 0, Value.bool false, zz1 0, zz1 0, Value.bool false, Value.bool false, zz1 0, zz1 0] 0 [Col.mk [] [] [], Col.mk [] [] [], Col.mk [] [] [], Col.mk [] [] [], Col.mk [] [] [], Col.mk [] [] [], Col.mk [] [] [], Col.mk [] [] []]))), some (Sum.inr (Sum.inl (48, Row.mk [zz1 0, Value.bool false, zz1 0, zz1 0, Value.bool false, Value.bool false, zz1 0, zz1 0] 0 [Col.mk [] [] [], Col.mk [] [] [], Col.mk [] [] [], Col.mk [] [] [], Col.mk [] [] [], Col.mk [] [] [], Col.mk [] [] [], Col.mk [] [] []])))])) ?_ (by kernel_rfl)
    intro zz1; subst zz1
    refine loop_atM (by kernel_rfl) (ι := Nat) (fun i => i ≤ l.length) [0, 3, 4] (fun i => [.slice (some ⟨0, 0, some 8000⟩) l.length c, .slice (some ⟨1, 0, some 8000⟩) (tmd l i).length 0, .int .i64 i]) (fun i => [vM l, oM (tmd l i)]) (fun i => l.length - i) 73 (fun i hi => ⟨rfl, rfl, by simp⟩) ⟨0, Nat.zero_le _, ⟨[0, 2], rfl, ⟨rfl, ⟨_, rfl, .inl rfl⟩, trivial⟩, rfl, rfl, rfl, rfl⟩⟩ fun i hi => ?_
    refine rxS_ok (T := []) [[1, 1, 0, 1, 0, 0, 1, 0, 0, 1, 1]] trivial mixed 200 ?_
    refine as_text (q := let zz3 := Value.int IntKind.i64; let zz1 := (Value.slice (some (Addr.mk 0 0 (some 8000))) (List.length l) c); let zz2 := (Value.slice (some (Addr.mk 1 0 (some 8000))) (List.length (tmd l i)) 0); (decide ((↑i : Int) < (↑(List.length l) : Int)) = true → At D Try.prog (codeOf Try.f13) 1 (retK Try.prog (Array.toList (Func.results Try.f13)) G) [Sum.inl [1, 1, 0, 1, 0, 0, 1, 0, 0, 1, 0, 0], Sum.inr (Sum.inl 2), Sum.inl [1, 1, 0, 1, 0, 0, 1, 0, 0, 1, 1], Sum.inr (Sum.inl 1), Sum.inl [1, 1, 0, 1, 0, 0, 1, 1], Sum.inr (Sum.inr fun σ' => ∃ j, j ≤ List.length l ∧ List.length l - j < List.length l - i ∧ FitsM R 1 73 [0, 3, 4] [Value.slice (some (Addr.mk 0 0 (some 8000))) (List.length l) c, Value.slice (some (Addr.mk 1 0 (some 8000))) (List.length (tmd l j)) 0, zz3 (↑j : Int)] [vM l, oM (tmd l j)] (vals (SS.tm σ') [0, 3, 4]) (SS.hp σ') (List.length (SS.tm σ'))), Sum.inr (Sum.inl 0), Sum.inl [1, 1, 1]] (SS.mk [some zz1, none, none, some zz2, some (zz3 (↑i : Int)), some (zz3 0), none, some (zz3 (↑i : Int)), some zz1, some (zz3 (↑(List.length l) : Int)), some (Value.bool true), none, none, none, none, none, none, none, none, none, none, none, none, none, none, none, none, none, none, none, none, none, none, none, none, none, none, none, none, none, none, none, none, none, none, none, none, none, none, none, none, none, none, none, none, none, none, none, none, none, none, none, none, none, none, none, none, none, none, none, none, none, none] [(10, true)] [some (Sum.inr (Sum.inr (Sum.inl (mR l)))), some (Sum.inr (Sum.inl (48, mR (tmd l i))))])) ∧ (decide ((↑i : Int) < (↑(List.length l) : Int)) = false → Post (G zz2 [some (Sum.inr (Sum.inr (Sum.inl (mR l)))), some (Sum.inr (Sum.inl (48, mR (tmd l i))))]))) ?_ (by kernel_rfl)
    intro zz3 zz1 zz2; subst zz2 zz1 zz3
    refine ⟨fun h => ?_, fun h => ⟨?_⟩⟩
    · have hlt : i < l.length := by have := of_decide_eq_true h; omega
      have b1 : (0 : Int) ≤ (i : Int) ∧ (i : Int) < (l.length : Int) ∧ 0 + l.length ≤ l.length := ⟨by omega, by omega, by omega⟩
      refine loop_atM (by kernel_rfl) (ι := Nat) (fun k => k ≤ rk8 (l.getD i mz) (tmd l i)) [0, 3, 4, 5] (fun k => [.slice (some ⟨0, 0, some 8000⟩) l.length c, .slice (some ⟨1, 0, some 8000⟩) (tmd l i).length 0, .int .i64 i, .int .i64 k]) (fun k => [vM l, oM (tmd l i)]) (fun k => rk8 (l.getD i mz) (tmd l i) - k) 73 (fun i hi => ⟨rfl, rfl, by simp⟩) ⟨0, Nat.zero_le _, ⟨[0, 1], rfl, ⟨rfl, ⟨_, rfl, .inl rfl⟩, trivial⟩, rfl, rfl, rfl, rfl⟩⟩ fun k hk => ?_
      refine rxS_ok (T := []) [[1, 1, 0, 1, 0, 0, 1, 0, 0, 1, 1]] trivial mixed 200 ?_
      refine as_text (q := let zz10 := Value.int IntKind.i64; let zz1 := (decide ((↑k : Int) < (↑(List.length (tmd l i)) : Int))); let zz2 := (List.getD (List.map Mk.t (tmd l i)) (0 + Int.toNat (↑k : Int)) (0 : Int) < List.getD (List.map Mk.t l) (0 + Int.toNat (↑i : Int)) (0 : Int)); let zz3 := (Value.slice (some (Addr.mk 0 0 (some 8000))) (List.length l) c); let zz4 := (Value.slice (some (Addr.mk 1 0 (some 8000))) (List.length (tmd l i)) 0); let zz5 := (zz10 (↑i : Int)); let zz6 := (zz10 (↑k : Int)); let zz7 := (Value.pointer (some (Addr.mk 1 (0 + Int.toNat (↑k : Int)) (some 8000)))); let zz8 := (Value.pointer (some (Addr.mk 0 (0 + Int.toNat (↑i : Int)) (some 8000)))); let zz9 := (Value.tuple (Array.mk [])); (decide ((↑k : Int) < (↑(List.length (tmd l i)) : Int)) = true → Vc (Value.bool zz1 = Value.bool true) ∧ Vc ((0 : Int) ≤ (↑k : Int) ∧ (↑k : Int) < (↑(List.length (tmd l i)) : Int) ∧ 0 + List.length (tmd l i) ≤ List.length (tmd l i)) ∧ Vc (0 + Int.toNat (↑k : Int) < List.length (tmd l i)) ∧ Vc ((0 : Int) ≤ (↑i : Int) ∧ (↑i : Int) < (↑(List.length l) : Int) ∧ 0 + List.length l ≤ List.length l) ∧ Vc (0 + Int.toNat (↑i : Int) < List.length l) ∧ (decide zz2 = true → Vc (fits ((↑k : Int) + (1 : Int))) ∧ Post (∃ j, j ≤ rk8 (List.getD l i mz) (tmd l i) ∧ rk8 (List.getD l i mz) (tmd l i) - j < rk8 (List.getD l i mz) (tmd l i) - k ∧ FitsM R 1 73 [0, 3, 4, 5] [Value.slice (some (Addr.mk 0 0 (some 8000))) (List.length l) c, Value.slice (some (Addr.mk 1 0 (some 8000))) (List.length (tmd l i)) 0, zz10 (↑i : Int), zz10 (↑j : Int)] [vM l, oM (tmd l i)] [some zz3, some zz4, some zz5, some (zz10 ((↑k : Int) + (1 : Int)))] [some (Sum.inr (Sum.inr (Sum.inl (mR l)))), some (Sum.inr (Sum.inl (48, mR (tmd l i))))] 73)) ∧ (decide zz2 = false → At D Try.prog (codeOf Try.f13) 1 (retK Try.prog (Array.toList (Func.results Try.f13)) G) [Sum.inl [1, 1, 0, 1, 0, 0, 1, 0, 0, 1, 1], Sum.inr (Sum.inl 1), Sum.inl [1, 1, 0, 1, 0, 0, 1, 1], Sum.inr (Sum.inr fun σ' => ∃ j, j ≤ List.length l ∧ List.length l - j < List.length l - i ∧ FitsM R 1 73 [0, 3, 4] [Value.slice (some (Addr.mk 0 0 (some 8000))) (List.length l) c, Value.slice (some (Addr.mk 1 0 (some 8000))) (List.length (tmd l j)) 0, zz10 (↑j : Int)] [vM l, oM (tmd l j)] (vals (SS.tm σ') [0, 3, 4]) (SS.hp σ') (List.length (SS.tm σ'))), Sum.inr (Sum.inl 0), Sum.inl [1, 1, 1]] (SS.mk [some zz3, none, none, some zz4, some zz5, some zz6, none, none, none, none, none, none, none, some zz6, some zz4, some (zz10 (↑(List.length (tmd l i)) : Int)), some (Value.bool zz1), some (Value.bool true), some zz4, some zz6, some zz7, some zz7, some zz7, some (zz10 (List.getD (List.map Mk.t (tmd l i)) (0 + Int.toNat (↑k : Int)) (0 : Int))), some zz3, some zz5, some zz8, some zz8, some zz8, some (zz10 (List.getD (List.map Mk.t l) (0 + Int.toNat (↑i : Int)) (0 : Int))), some (Value.bool (decide zz2)), some (Value.bool false), none, none, none, none, none, none, none, none, none, none, none, none, none, none, none, none, none, none, none, none, none, none, none, none, none, none, none, none, none, none, none, none, none, none, none, none, none, none, none, none, none] [(31, false), (17, true)] [some (Sum.inr (Sum.inr (Sum.inl (mR l)))), some (Sum.inr (Sum.inl (48, mR (tmd l i))))]))) ∧ (decide ((↑k : Int) < (↑(List.length (tmd l i)) : Int)) = false → Vc (Value.bool zz1 = Value.bool false) ∧ At D Try.prog (codeOf Try.f13) 1 (retK Try.prog (Array.toList (Func.results Try.f13)) G) [Sum.inl [1, 1, 0, 1, 0, 0, 1, 0, 0, 1, 1], Sum.inr (Sum.inl 1), Sum.inl [1, 1, 0, 1, 0, 0, 1, 1], Sum.inr (Sum.inr fun σ' => ∃ j, j ≤ List.length l ∧ List.length l - j < List.length l - i ∧ FitsM R 1 73 [0, 3, 4] [Value.slice (some (Addr.mk 0 0 (some 8000))) (List.length l) c, Value.slice (some (Addr.mk 1 0 (some 8000))) (List.length (tmd l j)) 0, zz10 (↑j : Int)] [vM l, oM (tmd l j)] (vals (SS.tm σ') [0, 3, 4]) (SS.hp σ') (List.length (SS.tm σ'))), Sum.inr (Sum.inl 0), Sum.inl [1, 1, 1]] (SS.mk [some zz3, none, none, some zz4, some zz5, some zz6, none, none, none, none, none, none, none, some zz6, some zz4, some (zz10 (↑(List.length (tmd l i)) : Int)), some (Value.bool zz1), some (Value.bool false), some zz9, some zz9, some zz9, some zz9, some zz9, some zz9, some zz9, some zz9, some zz9, some zz9, some zz9, some zz9, some zz9, some (Value.bool false), none, none, none, none, none, none, none, none, none, none, none, none, none, none, none, none, none, none, none, none, none, none, none, none, none, none, none, none, none, none, none, none, none, none, none, none, none, none, none, none, none] [(17, false), (31, false)] [some (Sum.inr (Sum.inr (Sum.inl (mR l)))), some (Sum.inr (Sum.inl (48, mR (tmd l i))))]))) ?_ (by kernel_rfl)
      intro zz10 zz1 zz2 zz3 zz4 zz5 zz6 zz7 zz8 zz9; subst zz9 zz8 zz7 zz6 zz5 zz4 zz3 zz2 zz1 zz10
      simp only [e_i, gM Mk.t 0 rfl]
      have hle : rk8 (l.getD i mz) (tmd l i) ≤ (tmd l i).length := Gv.rkE_le (O := O8) (l.getD i mz) (tmd l i)
      have hsz := tmd_len l i
      refine ⟨fun h => ?_, fun h => ?_⟩
      · have hk2 : k < (tmd l i).length := by have := of_decide_eq_true h; omega
        refine ⟨⟨congrArg Value.bool h⟩, ⟨by omega, by omega, by omega⟩, ⟨hk2⟩, ⟨b1⟩, ⟨hlt⟩, fun h2 => ⟨⟨⟨by omega, by omega⟩⟩, ⟨k + 1, ?_, ?_, ⟨[0, 1], rfl, ⟨rfl, ⟨_, rfl, .inl rfl⟩, trivial⟩, rfl, rfl, rfl, rfl⟩⟩⟩, fun h2 => ?_⟩
        · have h3 := of_decide_eq_true h2
          rcases Nat.lt_or_ge k (rk8 (l.getD i mz) (tmd l i)) with c | c
          · exact c
          · obtain rfl : k = rk8 (l.getD i mz) (tmd l i) := by omega
            exact absurd h3 (rk8_ge hk2)
        · have h3 := of_decide_eq_true h2
          rcases Nat.lt_or_ge k (rk8 (l.getD i mz) (tmd l i)) with c | c
          · omega
          · obtain rfl : k = rk8 (l.getD i mz) (tmd l i) := by omega
            exact absurd h3 (rk8_ge hk2)
        · have h3 := of_decide_eq_false h2
          have hr : rk8 (l.getD i mz) (tmd l i) = k := by
            rcases Nat.lt_or_ge k (rk8 (l.getD i mz) (tmd l i)) with c | c
            · exact absurd (rk8_lt c) h3
            · omega
          exact At.fit [0, 3, 4, 5] [.slice (some ⟨0, 0, some 8000⟩) l.length c, .slice (some ⟨1, 0, some 8000⟩) (tmd l i).length 0, .int .i64 i, .int .i64 k] [vM l, oM (tmd l i)] 73 ⟨rfl, rfl, by simp⟩ ⟨[0, 1], rfl, ⟨rfl, ⟨_, rfl, .inl rfl⟩, trivial⟩, rfl, rfl, rfl, rfl⟩ (tm_tail hb hlt hr)
      · have h3 := of_decide_eq_false h
        have hr : rk8 (l.getD i mz) (tmd l i) = k := by omega
        exact ⟨⟨congrArg Value.bool h⟩, At.fit [0, 3, 4, 5] [.slice (some ⟨0, 0, some 8000⟩) l.length c, .slice (some ⟨1, 0, some 8000⟩) (tmd l i).length 0, .int .i64 i, .int .i64 k] [vM l, oM (tmd l i)] 73 ⟨rfl, rfl, by simp⟩ ⟨[0, 1], rfl, ⟨rfl, ⟨_, rfl, .inl rfl⟩, trivial⟩, rfl, rfl, rfl, rfl⟩ (tm_tail hb hlt hr)⟩
    · obtain rfl : i = l.length := by have := of_decide_eq_false h; omega
      subst hG
      exact ⟨[0, 1], rfl, rfl, ⟨rfl, ⟨_, rfl, .inl rfl⟩, trivial⟩, rfl, rfl, rfl, rfl⟩
  · cases hx
end Go.Proofs.Ytdgglimfjfedaaa.Br
