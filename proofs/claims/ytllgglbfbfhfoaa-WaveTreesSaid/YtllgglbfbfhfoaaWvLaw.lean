/- wave: the laws' awake, sums, Comes. -/
import Derived.Test.YtllgglbfbfhfoaaWvRef
namespace Go.Proofs.Ytllgglbfbfhfoaa.Wv
open Go.Proofs.Ytllgglbfbfhfoaa.Rx
set_option linter.unusedVariables false
set_option linter.unusedSimpArgs false
set_option maxRecDepth 100000
set_option maxHeartbeats 8000000
/-- a stretch of marks as a row -/
def mRx (l : List Mk) (a n : Nat) : Row := ⟨[.int .i64 0, .bool false, .int .i64 0, .int .i64 0, .bool false, .bool false, .int .i64 0, .int .i64 0], n, [⟨cut (l.map Mk.t) a n, [], []⟩, ⟨[], cut (l.map Mk.ins) a n, []⟩, ⟨cut (l.map fun m => m.it.k) a n, [], []⟩, ⟨cut (l.map fun m => m.it.i) a n, [], []⟩, ⟨[], cut (l.map Mk.here) a n, []⟩, ⟨[], cut (l.map Mk.tf) a n, []⟩, ⟨cut (l.map fun m => m.tk.k) a n, [], []⟩, ⟨cut (l.map fun m => m.tk.i) a n, [], []⟩]⟩
theorem mRx_all (l : List Mk) : mRx l 0 l.length = mR l := by unfold mRx; simp only [cm]
theorem mRx_cut {l : List Mk} {a n : Nat} (h : a + n ≤ l.length) : mRx l a n = mR (cut l a n) := by
  have e : (cut l a n).length = n := by unfold cut; rw [List.length_take, List.length_drop]; omega
  unfold mRx mR
  simp only [cut_map, e]
def TAw {R : Type} : Tab R := [(21, liftC zN 2 (con1 msumP)), (22, liftC zN 2 (con1 mcmpP)), (18, liftC zN 2 (con1 keyP))]
theorem TAw_ok {R : Type} {D : Res R} : TabOk D Try.prog (TAw : Tab R) := ⟨liftC_ok _ _ msum_ok, liftC_ok _ _ mcmp_ok, liftC_ok _ _ key_ok, trivial⟩
def awakeP {R : Type} : Prim R := fun args hh => match args, hh with
  | [], [] => some ⟨True, .bool true, none, hh, [], []⟩
  | _, _ => none
theorem awake_ok {R : Type} {D : Res R} : ConOk D Try.prog 7 (con1 awakeP) := by
  refine con1_ok (prim_at (fn := Try.f7) (root := codeOf Try.f7) (by kernel_rfl) (by kernel_rfl) (by kernel_rfl) fun args hh x hx => ?_)
  unfold awakeP at hx
  split at hx
  · injection hx with hx
    subst hx
    refine ⟨by first | exact Nat.le_refl _ | exact Nat.zero_le _ | exact Nat.le_succ _, noLit rfl, (fun hw => by first | rfl | cases hw), fun _ hv => ?_⟩
    generalize hG : Rx.Ends (R := R) _ _ = G
    refine rx_ok (T := TAw) TAw_ok mixed 200 ?_
    refine as_text (q := let zz3 := Value.int IntKind.i64; let zz1 := (Value.bool true = Value.bool true); let zz2 := (Value.bool true = Value.bool false); Vc True ∧ (true = true → Vc zz1 ∧ (true = true → Vc zz1 ∧ Vc zz1 ∧ (true = true → Vc zz1 ∧ Vc zz1 ∧ Vc zz1 ∧ (true = true → Vc zz1 ∧ Vc zz1 ∧ Vc zz1 ∧ Vc zz1 ∧ Vc True ∧ Vc True ∧ Post (G (Value.bool true) [some (Sum.inl (48, [zz3 3, Value.bool true, zz3 5, zz3 1, Value.bool true, Value.bool false, zz3 0, zz3 0])), some (Sum.inl (32, [zz3 1, zz3 1, zz3 1, zz3 1, zz3 0, zz3 0, zz3 0, zz3 0, zz3 0, zz3 0, Value.bool false, zz3 0, zz3 0, Value.bool true, zz3 5, zz3 1]))])) ∧ (true = false → Vc zz1 ∧ Vc zz1 ∧ Vc zz1 ∧ Vc zz2 ∧ Post (G (Value.bool false) [some (Sum.inl (48, [zz3 3, Value.bool true, zz3 5, zz3 1, Value.bool true, Value.bool false, zz3 0, zz3 0])), some (Sum.inl (32, [zz3 1, zz3 1, zz3 1, zz3 1, zz3 0, zz3 0, zz3 0, zz3 0, zz3 0, zz3 0, Value.bool false, zz3 0, zz3 0, Value.bool true, zz3 5, zz3 1]))]))) ∧ (true = false → Vc zz1 ∧ Vc zz1 ∧ Vc zz2 ∧ Post (G (Value.bool false) [some (Sum.inl (48, [zz3 3, Value.bool true, zz3 5, zz3 1, Value.bool true, Value.bool false, zz3 0, zz3 0])), some (Sum.inl (32, [zz3 1, zz3 1, zz3 1, zz3 1, zz3 0, zz3 0, zz3 0, zz3 0, zz3 0, zz3 0, Value.bool false, zz3 0, zz3 0, Value.bool true, zz3 5, zz3 1]))]))) ∧ (true = false → Vc zz1 ∧ Vc zz2 ∧ Post (G (Value.bool false) [some (Sum.inl (48, [zz3 3, Value.bool true, zz3 5, zz3 1, Value.bool true, Value.bool false, zz3 0, zz3 0])), some (Sum.inl (32, [zz3 1, zz3 1, zz3 1, zz3 1, zz3 0, zz3 0, zz3 0, zz3 0, zz3 0, zz3 0, Value.bool false, zz3 0, zz3 0, Value.bool true, zz3 5, zz3 1]))]))) ∧ (true = false → Vc zz2 ∧ Post (G (Value.bool false) [some (Sum.inl (48, [zz3 3, Value.bool true, zz3 5, zz3 1, Value.bool true, Value.bool false, zz3 0, zz3 0])), some (Sum.inl (32, [zz3 1, zz3 1, zz3 1, zz3 1, zz3 0, zz3 0, zz3 0, zz3 0, zz3 0, zz3 0, Value.bool false, zz3 0, zz3 0, Value.bool true, zz3 5, zz3 1]))]))) ?_ (by kernel_rfl)
    intro zz3 zz1 zz2; subst zz2 zz1 zz3
    subst hG
    repeat' first | exact ⟨trivial⟩ | exact ⟨rfl⟩ | exact ⟨⟨[], rfl, rfl, trivial, rfl, rfl, rfl, rfl⟩⟩ | (intro h; cases h; done) | intro _ | refine And.intro ?_ ?_
  · cases hx
def tdE (a b : Ti.Td) : Bool := a.n == b.n && (a.s == b.s && (a.l == b.l && true))
def itE (a b : It) : Bool := a.k == b.k && (a.i == b.i && true)
def tkE (af : Bool) (a : It) (bf : Bool) (b : It) : Bool := af == bf && (itE a b && true)
def swEq (a b : Sw) : Bool := tdE a.c b.c && (tdE a.w b.w && (a.d == b.d && (a.f == b.f && (itE a.m b.m && (tkE a.gf a.g b.gf b.g && (tkE a.lf a.l b.lf b.l && true))))))
theorem swEq_self (a : Sw) : swEq a a = true := by simp [swEq, tdE, itE, tkE]
theorem hi_at (x : List It) (h : 0 < (srt x).length) : (hi x).isSome = true ∧ (hi x).getD iz = ⟨((srt x).map It.k).getD (0 + (((srt x).length : Int) - 1).toNat) 0, ((srt x).map It.i).getD (0 + (((srt x).length : Int) - 1).toNat) 0⟩ := by
  have hn := srt_len x
  have e : 0 + (((srt x).length : Int) - 1).toNat = x.length - 1 := by omega
  have hl : x.length - 1 < (srt x).length := by omega
  rw [e, ← srt_hi, List.getElem?_eq_getElem hl, map_getD It.k 0 hl, map_getD It.i 0 hl]
  exact ⟨rfl, rfl⟩
theorem lo_at (x : List It) (h : 0 < (srt x).length) : (lo x).isSome = true ∧ (lo x).getD iz = ⟨((srt x).map It.k).getD 0 0, ((srt x).map It.i).getD 0 0⟩ := by
  rw [← srt_lo, List.getElem?_eq_getElem h, map_getD It.k 0 h, map_getD It.i 0 h]
  exact ⟨rfl, rfl⟩
theorem srt_none (x : List It) (h : ¬ 0 < (srt x).length) : x = [] := List.eq_nil_of_length_eq_zero (by have := srt_len x; omega)
def swW (l : List Mk) (a : Bool) (b : It) (c : Bool) (d : It) : Sw := ⟨Ti.tideOf (l.map cnt), Ti.tideOf (l.map wgt), (dels l).length, (frees l).length, (hi (took l)).getD iz, a, b, c, d⟩
theorem S8_at {l : List Mk} {a : Bool} {b : It} {c : Bool} {d : It} (h1 : (hi (itms false l)).isSome = a ∧ (hi (itms false l)).getD iz = b) (h2 : (lo (itms true l)).isSome = c ∧ (lo (itms true l)).getD iz = d) : S8 l = swW l a b c d := by
  rw [← h1.1, ← h1.2, ← h2.1, ← h2.2]
  rfl
theorem hi_no (x : List It) (h : ¬ 0 < (srt x).length) : (hi x).isSome = false ∧ (hi x).getD iz = ⟨0, 0⟩ := by
  rw [srt_none x h]
  exact ⟨rfl, rfl⟩
theorem lo_no (x : List It) (h : ¬ 0 < (srt x).length) : (lo x).isSome = false ∧ (lo x).getD iz = ⟨0, 0⟩ := by
  rw [srt_none x h]
  exact ⟨rfl, rfl⟩
def TCo {R : Type} : Tab R := [(24, liftV z0 2 (con1 cntsP)), (25, liftV z0 2 (con1 wgtsP)), (23, liftV z0 2 (con1 tidP)), (26, liftV z0 2 (con1 delP)), (27, liftV z0 2 (con1 itmP))]
theorem TCo_ok {R : Type} {D : Res R} : TabOk D Try.prog (TCo : Tab R) := ⟨liftV_ok _ _ cnts_ok, liftV_ok _ _ wgts_ok, liftV_ok _ _ tid_ok, liftV_ok _ _ del_ok, liftV_ok _ _ itm_ok, trivial⟩
def comesP {R : Type} : Prim R := fun args hh => match args, hh with
  | [.agg ⟨[.int .i64 x0, .int .i64 x1, .int .i64 x2, .int .i64 x3, .int .i64 x4, .int .i64 x5, .int .i64 x6, .int .i64 x7, .int .i64 x8, .int .i64 x9, .bool x10, .int .i64 x11, .int .i64 x12, .bool x13, .int .i64 x14, .int .i64 x15]⟩, .slice (some ⟨0, 0, some 8000⟩) n c], [some (.inr (.inr (.inl r)))] => some ⟨r = mR (uM r) ∧ n = (uM r).length ∧ (uM r).length ≤ 60, .bool (swEq (⟨⟨x0, x1, x2⟩, ⟨x3, x4, x5⟩, x6, x7, ⟨x8, x9⟩, x10, ⟨x11, x12⟩, x13, ⟨x14, x15⟩⟩ : Sw) (S8 (uM r))), none, hh, [], []⟩
  | _, _ => none
theorem comes_ok {R : Type} {D : Res R} : ConOk D Try.prog 8 (con1 comesP) := by
  refine con1_ok (prim_at (fn := Try.f8) (root := codeOf Try.f8) (by kernel_rfl) (by kernel_rfl) (by kernel_rfl) fun args hh x hx => ?_)
  unfold comesP at hx
  split at hx
  · rename_i x0 x1 x2 x3 x4 x5 x6 x7 x8 x9 x10 x11 x12 x13 x14 x15 n c r
    injection hx with hx
    subst hx
    refine ⟨by first | exact Nat.le_refl _ | exact Nat.zero_le _ | exact Nat.le_succ _, noLit rfl, (fun hw => by first | rfl | cases hw), fun _ hv => ?_⟩
    obtain ⟨hr, rfl, hb⟩ := hv; generalize uM r = l at *; subst hr
    generalize hG : Rx.Ends (R := R) _ _ = G
    refine rx_ok (T := TCo) TCo_ok mixed 200 ?_
    refine as_text (q := let zz25 := Value.int IntKind.i64; let zz1 := (uM (mRx l 0 (List.length l))); let zz2 := (cut (List.map cnt zz1) 0 (List.length zz1)); let zz3 := (cut (List.map wgt zz1) 0 (List.length zz1)); let zz4 := (0 : Int); let zz5 := (srt (itms false zz1)); let zz6 := (↑(List.length zz5) : Int); let zz7 := (srt (itms true zz1)); let zz8 := (Ti.tideOf zz2); let zz9 := (x1 == Ti.Td.s zz8 && (x2 == Ti.Td.l zz8 && true)); let zz10 := (Ti.tideOf zz3); let zz11 := (x4 == Ti.Td.s zz10 && (x5 == Ti.Td.l zz10 && true)); let zz12 := (↑(List.length (dels zz1)) : Int); let zz13 := (↑(List.length (frees zz1)) : Int); let zz14 := (Option.getD (hi (took zz1)) iz); let zz15 := (x9 == It.i zz14 && true); let zz16 := (x11 == List.getD (List.map It.k zz5) (0 + Int.toNat (zz6 - (1 : Int))) zz4 && (x12 == List.getD (List.map It.i zz5) (0 + Int.toNat (zz6 - (1 : Int))) zz4 && true) && true); let zz17 := (x13 == true && (x14 == List.getD (List.map It.k zz7) 0 zz4 && (x15 == List.getD (List.map It.i zz7) 0 zz4 && true) && true) && true); let zz18 := (x3 == Ti.Td.n zz10 && zz11 && (x6 == zz12 && (x7 == zz13 && (x8 == It.k zz14 && zz15 && (x10 == true && zz16 && zz17))))); let zz19 := (List.getD (List.map It.k zz5) (0 + Int.toNat (zz6 - (1 : Int))) zz4); let zz20 := (List.getD (List.map It.i zz5) (0 + Int.toNat (zz6 - (1 : Int))) zz4); let zz21 := (x13 == false && (x14 == zz4 && (x15 == zz4 && true) && true) && true); let zz22 := (x3 == Ti.Td.n zz10 && zz11 && (x6 == zz12 && (x7 == zz13 && (x8 == It.k zz14 && zz15 && (x10 == true && zz16 && zz21))))); let zz23 := (x3 == Ti.Td.n zz10 && zz11 && (x6 == zz12 && (x7 == zz13 && (x8 == It.k zz14 && zz15 && (x10 == false && (x11 == zz4 && (x12 == zz4 && true) && true) && zz17))))); let zz24 := (x3 == Ti.Td.n zz10 && zz11 && (x6 == zz12 && (x7 == zz13 && (x8 == It.k zz14 && zz15 && (x10 == false && (x11 == zz4 && (x12 == zz4 && true) && true) && zz21))))); Vc ((0 + List.length l ≤ List.length l ∧ True) ∧ mRx l 0 (List.length l) = mR zz1 ∧ List.length l = List.length zz1 ∧ List.length zz1 ≤ 60) ∧ Vc ((0 + List.length zz1 ≤ List.length zz1 ∧ True) ∧ List.length zz1 = List.length zz2 ∧ List.length zz1 = List.length zz2 ∧ Ti.Small zz2) ∧ Vc ((0 + List.length l ≤ List.length l ∧ True) ∧ mRx l 0 (List.length l) = mR zz1 ∧ List.length l = List.length zz1 ∧ List.length zz1 ≤ 60) ∧ Vc ((0 + List.length zz1 ≤ List.length zz1 ∧ True) ∧ List.length zz1 = List.length zz3 ∧ List.length zz1 = List.length zz3 ∧ Ti.Small zz3) ∧ Vc ((0 + List.length l ≤ List.length l ∧ True) ∧ mRx l 0 (List.length l) = mR zz1 ∧ List.length l = List.length zz1 ∧ List.length zz1 ≤ 60) ∧ Vc ((0 + List.length l ≤ List.length l ∧ True) ∧ mRx l 0 (List.length l) = mR zz1 ∧ List.length l = List.length zz1 ∧ List.length zz1 ≤ 60) ∧ Vc ((0 + List.length l ≤ List.length l ∧ True) ∧ mRx l 0 (List.length l) = mR zz1 ∧ List.length l = List.length zz1 ∧ List.length zz1 ≤ 60) ∧ Vc (zz4 ≤ zz4 ∧ zz4 < (3 : Int)) ∧ Vc (zz4 ≤ (1 : Int) ∧ (1 : Int) < (3 : Int)) ∧ Vc (zz4 ≤ (2 : Int) ∧ (2 : Int) < (3 : Int)) ∧ Vc (zz4 ≤ zz4 ∧ zz4 < (3 : Int)) ∧ Vc (zz4 ≤ (1 : Int) ∧ (1 : Int) < (3 : Int)) ∧ Vc (zz4 ≤ (2 : Int) ∧ (2 : Int) < (3 : Int)) ∧ (decide (zz6 > zz4) = true → Vc (fits (zz6 - (1 : Int))) ∧ Vc (zz4 ≤ zz6 - (1 : Int) ∧ zz6 - (1 : Int) < zz6 ∧ 0 + List.length zz5 ≤ List.length zz5) ∧ Vc (0 + Int.toNat (zz6 - (1 : Int)) < List.length zz5) ∧ (decide ((↑(List.length zz7) : Int) > zz4) = true → Vc (zz4 ≤ zz4 ∧ zz4 < (↑(List.length zz7) : Int) ∧ 0 + List.length zz7 ≤ List.length zz7) ∧ Vc (0 < List.length zz7) ∧ Post (G (Value.bool (if false = true then !(x0 == Ti.Td.n zz8 && zz9 && zz18) else x0 == Ti.Td.n zz8 && zz9 && zz18)) [some (Sum.inr (Sum.inr (Sum.inl (mR l)))), some (Sum.inl (32, [zz25 x0, zz25 x1, zz25 x2, zz25 x3, zz25 x4, zz25 x5, zz25 x6, zz25 x7, zz25 x8, zz25 x9, Value.bool x10, zz25 x11, zz25 x12, Value.bool x13, zz25 x14, zz25 x15])), none, some (Sum.inr (Sum.inl (3, Row.mk [zz25 0] (List.length zz1) [Col.mk (List.map cnt zz1) [] []]))), none, some (Sum.inr (Sum.inl (3, Row.mk [zz25 0] (List.length zz1) [Col.mk (List.map wgt zz1) [] []]))), some (Sum.inl (56, [zz25 (Ti.Td.n zz8), zz25 (Ti.Td.s zz8), zz25 (Ti.Td.l zz8)])), some (Sum.inl (56, [zz25 (Ti.Td.n zz10), zz25 (Ti.Td.s zz10), zz25 (Ti.Td.l zz10)])), some (Sum.inl (28, [zz25 (It.k zz14), zz25 (It.i zz14)])), none, some (Sum.inr (Sum.inl (28, Row.mk [zz25 0, zz25 0] (List.length zz5) [Col.mk (List.map It.k zz5) [] [], Col.mk (List.map It.i zz5) [] []]))), none, some (Sum.inr (Sum.inl (28, Row.mk [zz25 0, zz25 0] (List.length zz7) [Col.mk (List.map It.k zz7) [] [], Col.mk (List.map It.i zz7) [] []]))), some (Sum.inl (32, [zz25 (Ti.Td.n zz8), zz25 (Ti.Td.s zz8), zz25 (Ti.Td.l zz8), zz25 (Ti.Td.n zz10), zz25 (Ti.Td.s zz10), zz25 (Ti.Td.l zz10), zz25 zz12, zz25 zz13, zz25 (It.k zz14), zz25 (It.i zz14), Value.bool true, zz25 zz19, zz25 zz20, Value.bool true, zz25 (List.getD (List.map It.k zz7) 0 zz4), zz25 (List.getD (List.map It.i zz7) 0 zz4)]))])) ∧ (decide ((↑(List.length zz7) : Int) > zz4) = false → Post (G (Value.bool (if false = true then !(x0 == Ti.Td.n zz8 && zz9 && zz22) else x0 == Ti.Td.n zz8 && zz9 && zz22)) [some (Sum.inr (Sum.inr (Sum.inl (mR l)))), some (Sum.inl (32, [zz25 x0, zz25 x1, zz25 x2, zz25 x3, zz25 x4, zz25 x5, zz25 x6, zz25 x7, zz25 x8, zz25 x9, Value.bool x10, zz25 x11, zz25 x12, Value.bool x13, zz25 x14, zz25 x15])), none, some (Sum.inr (Sum.inl (3, Row.mk [zz25 0] (List.length zz1) [Col.mk (List.map cnt zz1) [] []]))), none, some (Sum.inr (Sum.inl (3, Row.mk [zz25 0] (List.length zz1) [Col.mk (List.map wgt zz1) [] []]))), some (Sum.inl (56, [zz25 (Ti.Td.n zz8), zz25 (Ti.Td.s zz8), zz25 (Ti.Td.l zz8)])), some (Sum.inl (56, [zz25 (Ti.Td.n zz10), zz25 (Ti.Td.s zz10), zz25 (Ti.Td.l zz10)])), some (Sum.inl (28, [zz25 (It.k zz14), zz25 (It.i zz14)])), none, some (Sum.inr (Sum.inl (28, Row.mk [zz25 0, zz25 0] (List.length zz5) [Col.mk (List.map It.k zz5) [] [], Col.mk (List.map It.i zz5) [] []]))), none, some (Sum.inr (Sum.inl (28, Row.mk [zz25 0, zz25 0] (List.length zz7) [Col.mk (List.map It.k zz7) [] [], Col.mk (List.map It.i zz7) [] []]))), some (Sum.inl (32, [zz25 (Ti.Td.n zz8), zz25 (Ti.Td.s zz8), zz25 (Ti.Td.l zz8), zz25 (Ti.Td.n zz10), zz25 (Ti.Td.s zz10), zz25 (Ti.Td.l zz10), zz25 zz12, zz25 zz13, zz25 (It.k zz14), zz25 (It.i zz14), Value.bool true, zz25 zz19, zz25 zz20, Value.bool false, zz25 0, zz25 0]))]))) ∧ (decide (zz6 > zz4) = false → (decide ((↑(List.length zz7) : Int) > zz4) = true → Vc (zz4 ≤ zz4 ∧ zz4 < (↑(List.length zz7) : Int) ∧ 0 + List.length zz7 ≤ List.length zz7) ∧ Vc (0 < List.length zz7) ∧ Post (G (Value.bool (if false = true then !(x0 == Ti.Td.n zz8 && zz9 && zz23) else x0 == Ti.Td.n zz8 && zz9 && zz23)) [some (Sum.inr (Sum.inr (Sum.inl (mR l)))), some (Sum.inl (32, [zz25 x0, zz25 x1, zz25 x2, zz25 x3, zz25 x4, zz25 x5, zz25 x6, zz25 x7, zz25 x8, zz25 x9, Value.bool x10, zz25 x11, zz25 x12, Value.bool x13, zz25 x14, zz25 x15])), none, some (Sum.inr (Sum.inl (3, Row.mk [zz25 0] (List.length zz1) [Col.mk (List.map cnt zz1) [] []]))), none, some (Sum.inr (Sum.inl (3, Row.mk [zz25 0] (List.length zz1) [Col.mk (List.map wgt zz1) [] []]))), some (Sum.inl (56, [zz25 (Ti.Td.n zz8), zz25 (Ti.Td.s zz8), zz25 (Ti.Td.l zz8)])), some (Sum.inl (56, [zz25 (Ti.Td.n zz10), zz25 (Ti.Td.s zz10), zz25 (Ti.Td.l zz10)])), some (Sum.inl (28, [zz25 (It.k zz14), zz25 (It.i zz14)])), none, some (Sum.inr (Sum.inl (28, Row.mk [zz25 0, zz25 0] (List.length zz5) [Col.mk (List.map It.k zz5) [] [], Col.mk (List.map It.i zz5) [] []]))), none, some (Sum.inr (Sum.inl (28, Row.mk [zz25 0, zz25 0] (List.length zz7) [Col.mk (List.map It.k zz7) [] [], Col.mk (List.map It.i zz7) [] []]))), some (Sum.inl (32, [zz25 (Ti.Td.n zz8), zz25 (Ti.Td.s zz8), zz25 (Ti.Td.l zz8), zz25 (Ti.Td.n zz10), zz25 (Ti.Td.s zz10), zz25 (Ti.Td.l zz10), zz25 zz12, zz25 zz13, zz25 (It.k zz14), zz25 (It.i zz14), Value.bool false, zz25 0, zz25 0, Value.bool true, zz25 (List.getD (List.map It.k zz7) 0 zz4), zz25 (List.getD (List.map It.i zz7) 0 zz4)]))])) ∧ (decide ((↑(List.length zz7) : Int) > zz4) = false → Post (G (Value.bool (if false = true then !(x0 == Ti.Td.n zz8 && zz9 && zz24) else x0 == Ti.Td.n zz8 && zz9 && zz24)) [some (Sum.inr (Sum.inr (Sum.inl (mR l)))), some (Sum.inl (32, [zz25 x0, zz25 x1, zz25 x2, zz25 x3, zz25 x4, zz25 x5, zz25 x6, zz25 x7, zz25 x8, zz25 x9, Value.bool x10, zz25 x11, zz25 x12, Value.bool x13, zz25 x14, zz25 x15])), none, some (Sum.inr (Sum.inl (3, Row.mk [zz25 0] (List.length zz1) [Col.mk (List.map cnt zz1) [] []]))), none, some (Sum.inr (Sum.inl (3, Row.mk [zz25 0] (List.length zz1) [Col.mk (List.map wgt zz1) [] []]))), some (Sum.inl (56, [zz25 (Ti.Td.n zz8), zz25 (Ti.Td.s zz8), zz25 (Ti.Td.l zz8)])), some (Sum.inl (56, [zz25 (Ti.Td.n zz10), zz25 (Ti.Td.s zz10), zz25 (Ti.Td.l zz10)])), some (Sum.inl (28, [zz25 (It.k zz14), zz25 (It.i zz14)])), none, some (Sum.inr (Sum.inl (28, Row.mk [zz25 0, zz25 0] (List.length zz5) [Col.mk (List.map It.k zz5) [] [], Col.mk (List.map It.i zz5) [] []]))), none, some (Sum.inr (Sum.inl (28, Row.mk [zz25 0, zz25 0] (List.length zz7) [Col.mk (List.map It.k zz7) [] [], Col.mk (List.map It.i zz7) [] []]))), some (Sum.inl (32, [zz25 (Ti.Td.n zz8), zz25 (Ti.Td.s zz8), zz25 (Ti.Td.l zz8), zz25 (Ti.Td.n zz10), zz25 (Ti.Td.s zz10), zz25 (Ti.Td.l zz10), zz25 zz12, zz25 zz13, zz25 (It.k zz14), zz25 (It.i zz14), Value.bool false, zz25 0, zz25 0, Value.bool false, zz25 0, zz25 0]))])))) ?_ (by kernel_rfl)
    intro zz25 zz1 zz2 zz3 zz4 zz5 zz6 zz7 zz8 zz9 zz10 zz11 zz12 zz13 zz14 zz15 zz16 zz17 zz18 zz19 zz20 zz21 zz22 zz23 zz24; subst zz24 zz23 zz22 zz21 zz20 zz19 zz18 zz17 zz16 zz15 zz14 zz13 zz12 zz11 zz10 zz9 zz8 zz7 zz6 zz5 zz4 zz3 zz2 zz1 zz25
    have ec : ∀ f : Mk → Int, cut (l.map f) 0 l.length = l.map f := fun f => cm f l
    simp only [mR_cut, mRx_all, uM_mR]
    simp only [ec]
    have hs : ∀ b, (srt (itms b l)).length ≤ 60 := fun b => by
      rw [srt_len]
      unfold itms
      rw [List.length_map]
      exact Nat.le_trans (List.length_filter_le _ _) hb
    have h1 := hs true
    have h0 := hs false
    have sc : Ti.Small (l.map cnt) := small_map cnt_b hb
    have sw : Ti.Small (l.map wgt) := small_map wgt_b hb
    have lc : l.length = (l.map cnt).length := by rw [List.length_map]
    have lw : l.length = (l.map wgt).length := by rw [List.length_map]
    have done : ∀ (a : Bool) (b : It) (c : Bool) (d : It) (hp : Hp R), S8 l = swW l a b c d → Post (G (.bool (swEq (⟨⟨x0, x1, x2⟩, ⟨x3, x4, x5⟩, x6, x7, ⟨x8, x9⟩, x10, ⟨x11, x12⟩, x13, ⟨x14, x15⟩⟩ : Sw) (swW l a b c d))) (some (.inr (.inr (.inl (mR l)))) :: hp)) := fun a b c d hp e => by
      subst hG
      rw [← e]
      exact ⟨⟨[0], rfl, rfl, ⟨rfl, trivial⟩, rfl, rfl, rfl, rfl⟩⟩
    refine ⟨⟨⟨by omega, trivial⟩, trivial, trivial, hb⟩, ⟨⟨by omega, trivial⟩, lc, lc, sc⟩, ⟨⟨by omega, trivial⟩, trivial, trivial, hb⟩, ⟨⟨by omega, trivial⟩, lw, lw, sw⟩, ⟨⟨by omega, trivial⟩, trivial, trivial, hb⟩, ⟨⟨by omega, trivial⟩, trivial, trivial, hb⟩, ⟨⟨by omega, trivial⟩, trivial, trivial, hb⟩, ⟨by omega, by omega⟩, ⟨by omega, by omega⟩, ⟨by omega, by omega⟩, ⟨by omega, by omega⟩, ⟨by omega, by omega⟩, ⟨by omega, by omega⟩, ?_⟩
    refine ⟨fun hg => ?_, fun hg => ?_⟩
    · have hg' : 0 < (srt (itms false l)).length := by have := of_decide_eq_true hg; omega
      refine ⟨⟨by omega, by omega⟩, ⟨by omega, by omega, by omega⟩, ⟨by omega⟩, fun hl => ?_, fun hl => ?_⟩
      · have hl' : 0 < (srt (itms true l)).length := by have := of_decide_eq_true hl; omega
        exact ⟨⟨by omega, by omega, by omega⟩, ⟨by omega⟩, done _ _ _ _ _ (S8_at (hi_at _ hg') (lo_at _ hl'))⟩
      · have hl' : ¬ 0 < (srt (itms true l)).length := by have := of_decide_eq_false hl; omega
        exact done _ _ _ _ _ (S8_at (hi_at _ hg') (lo_no _ hl'))
    · have hg' : ¬ 0 < (srt (itms false l)).length := by have := of_decide_eq_false hg; omega
      refine ⟨fun hl => ?_, fun hl => ?_⟩
      · have hl' : 0 < (srt (itms true l)).length := by have := of_decide_eq_true hl; omega
        exact ⟨⟨by omega, by omega, by omega⟩, ⟨by omega⟩, done _ _ _ _ _ (S8_at (hi_no _ hg') (lo_at _ hl'))⟩
      · have hl' : ¬ 0 < (srt (itms true l)).length := by have := of_decide_eq_false hl; omega
        exact done _ _ _ _ _ (S8_at (hi_no _ hg') (lo_no _ hl'))
  · cases hx
end Go.Proofs.Ytllgglbfbfhfoaa.Wv
