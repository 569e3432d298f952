/- The walk of ItemSorts. -/
import Derived.Test.YtocblnbnifljmaaDoorItemRefSort
namespace Go.Proofs.YtocblnbnifljmaaDoor.Item
open Go.Sort Go.RowKit Go.Lib
set_option linter.unusedVariables false

/-- a slice literal without items -/
theorem Own.lit (w : World) : Own (w.alloc (.cells #[] 23)) w.heap.size (.slice (some ⟨w.heap.size, 0, none⟩) 0 0) [] :=
  ⟨rfl, Or.inr ⟨_, 0, #[], rfl, Nat.le_refl _, heap_alloc_new w _, Nat.le_refl _, Nat.zero_le _, rfl, rfl⟩⟩
theorem below_alloc (w : World) (o : Obj) : RowKit.Below w.heap.size w (w.alloc o) := (Below.refl _ _).alloc (Nat.le_refl _) _

theorem same_true (A B : Option Addr) (xs : List It) (c d : Nat) (w : World) (hx : Rd w w.heap.size A xs) (hy : Rd w w.heap.size B xs) (hn : xs.length ≤ 1000) :
    Calls Tryd.prog 14 #[.slice A xs.length c, .slice B xs.length d] w fun e w' => e = .returned (.bool true) ∧ Grows w w' := by
  have h := same_any A B xs xs c d w hx hy hn hn
  rw [decide_eq_true rfl] at h
  exact h

set_option maxRecDepth 100000 in
set_option maxHeartbeats 8000000 in
theorem sorts_some (A : Option Addr) (xs : List It) (c : Nat) (w : World) (hx : Rd w w.heap.size A xs) (hn : xs.length ≤ 100) (h0 : 0 < xs.length) (hw : Env w) :
    Calls Tryd.prog 4 #[.slice A xs.length c] w fun e w' => e = .returned (.bool true) ∧ Below w.heap.size w w' := by
  obtain ⟨S, hS⟩ : ∃ S, S = sortedL xs := ⟨_, rfl⟩
  have hSl : S.length = xs.length := by rw [hS]; exact sortedL_length xs
  obtain ⟨m, hm⟩ : ∃ m, m = minTo xs (xs.length - 1) := ⟨_, rfl⟩
  obtain ⟨q, hq⟩ : ∃ q, q = maxTo xs (xs.length - 1) := ⟨_, rfl⟩
  have hmS : m = S.getD 0 (0, 0) := by rw [hm, hS]; exact sortedL_first xs h0
  have hqS : q = S.getD (xs.length - 1) (0, 0) := by rw [hq, hS]; exact sortedL_last xs h0
  have cS : ∀ (A : Option Addr) (c : Nat) (W : World), Rd W W.heap.size A xs → Calls Tryd.prog 11 #[.slice A xs.length c] W (OwnsNow W S) := fun A c W h => by rw [hS]; exact rsorted_any A xs c W h (by omega)
  have cL : ∀ W, Rd W W.heap.size A xs → Calls Tryd.prog 12 #[.slice A xs.length c] W fun e w' => e = .returned (.tuple #[.agg #[.int .i64 m.1, .int .i64 m.2], .bool true]) ∧ RowKit.Below W.heap.size W w' := fun W h => by rw [hm]; exact least_any A xs c W h (by omega) h0
  have cM : ∀ W, Rd W W.heap.size A xs → Calls Tryd.prog 13 #[.slice A xs.length c] W fun e w' => e = .returned (.tuple #[.agg #[.int .i64 q.1, .int .i64 q.2], .bool true]) ∧ RowKit.Below W.heap.size W w' := fun W h => by rw [hq]; exact most_any A xs c W h (by omega) h0
  have cT : ∀ W, Rd W W.heap.size A xs → Calls Tryd.prog 15 #[.slice A xs.length c] W fun e w' => ∃ A' c', e = .returned (.slice A' S.length c') ∧ Rd w' w'.heap.size A' S ∧ RowKit.Below W.heap.size W w' := fun W h => by rw [hS]; exact sorted_any A xs c W h (by omega)
  have CS := Lib.hid cS
  have CL := Lib.hid cL
  have CM := Lib.hid cM
  have CT := Lib.hid cT
  have HS := Lib.hid hSl
  have HMS := Lib.hid hmS
  have HQS := Lib.hid hqS
  clear cS cL cM cT hSl hmS hqS hS hm hq
  obtain ⟨m1, m2⟩ := m
  obtain ⟨q1, q2⟩ := q
  have n1 : ¬ (100 : Int) < (xs.length : Int) := by omega
  go_enter Tryd.func4, Tryd.ntmps4
  go_wp2_with fail
  refine (awake_any _ hw).mono ?_
  rintro e W1 ⟨rfl, b1⟩
  have hx1 := (hx.below b1 (Nat.le_refl _)).more b1.size
  go_wp2_with (at_builtin; refine wpList_append_it rfl _ _ rfl W1.heap.size (.slice (some ⟨W1.heap.size, 0, none⟩) 0 0) [] (by rfl) (Own.lit W1) W1.heap.size A xs xs.length c (by rfl) rfl (hx1.below (below_alloc W1 _) (Nat.le_refl _)) (by simp; omega) (by simp) ?_; intro v2 W2 hown2 hg2 hat2; have b2 : RowKit.Below W1.heap.size W1 W2 := (below_alloc W1 _).grown hg2 (by simp) (by simp [Value.ownBlock]))
  rw [List.nil_append] at hown2
  obtain ⟨Ai, ci, rfl, hin2, _, _⟩ := hown2.form
  have bb2 := b1.trans (b2.mono b1.size)
  refine (CS.out Ai ci W2 hin2).mono ?_
  rintro e W3 ⟨v3, rfl, hown3, b3⟩
  obtain ⟨Aw, cw, rfl, hwt3, _, _⟩ := hown3.form
  have bb3 := bb2.trans (b3.mono bb2.size)
  have hin3 := (hin2.below b3 (Nat.le_refl _)).more b3.size
  clear b2 hg2 hat2 hown2 hin2 hown3 hx1
  go_wp2_with fail
  refine (CL.out W3 ((hx.below bb3 (Nat.le_refl _)).more bb3.size)).mono ?_
  rintro e W4 ⟨rfl, b4⟩
  have bb4 := bb3.trans (b4.mono bb3.size)
  have hin4 := (hin3.below b4 (Nat.le_refl _)).more b4.size
  have hwt4 := (hwt3.below b4 (Nat.le_refl _)).more b4.size
  clear hin3 hwt3 b4 b3
  have t1 := Two.new W4 (.int .i64 m1) (.int .i64 m2) 23
  have b5 := below_alloc W4 (Obj.cells #[Value.int IntKind.i64 m1, Value.int IntKind.i64 m2] 23)
  have bb5 := bb4.trans (b5.mono bb4.size)
  have hin5 := (hin4.below b5 (Nat.le_refl _)).more b5.size
  have hwt5 := (hwt4.below b5 (Nat.le_refl _)).more b5.size
  clear hin4 hwt4 b5
  go_wp2_with fail
  generalize W4.alloc (Obj.cells #[Value.int IntKind.i64 m1, Value.int IntKind.i64 m2] 23) = W5 at *
  refine (CM.out W5 ((hx.below bb5 (Nat.le_refl _)).more bb5.size)).mono ?_
  rintro e W6 ⟨rfl, b6⟩
  have bb6 := bb5.trans (b6.mono bb5.size)
  have hin6 := (hin5.below b6 (Nat.le_refl _)).more b6.size
  have hwt6 := (hwt5.below b6 (Nat.le_refl _)).more b6.size
  replace t1 := t1.below b6 t1.2.2.2.2
  clear hin5 hwt5 b6
  have t2 := Two.new W6 (.int .i64 q1) (.int .i64 q2) 23
  have b7 := below_alloc W6 (Obj.cells #[Value.int IntKind.i64 q1, Value.int IntKind.i64 q2] 23)
  have bb7 := bb6.trans (b7.mono bb6.size)
  have hin7 := (hin6.below b7 (Nat.le_refl _)).more b7.size
  have hwt7 := (hwt6.below b7 (Nat.le_refl _)).more b7.size
  replace t1 := t1.below b7 t1.2.2.2.2
  clear hin6 hwt6 b7
  go_wp2_with fail
  generalize W6.alloc (Obj.cells #[Value.int IntKind.i64 q1, Value.int IntKind.i64 q2] 23) = W7 at *
  refine (CT.out W7 ((hx.below bb7 (Nat.le_refl _)).more bb7.size)).mono ?_
  rintro e W8 ⟨As, cs, rfl, hst8, b8⟩
  have bb8 := bb7.trans (b8.mono bb7.size)
  have hin8 := (hin7.below b8 (Nat.le_refl _)).more b8.size
  have hwt8 := (hwt7.below b8 (Nat.le_refl _)).more b8.size
  replace t1 := t1.below b8 t1.2.2.2.2
  replace t2 := t2.below b8 t2.2.2.2.2
  clear hin7 hwt7 b8
  go_wp2_with fail
  refine (same_true As Aw S cs cw W8 hst8 hwt8 (by have := HS.out; omega)).mono ?_
  rintro e W9 ⟨rfl, g9⟩
  have bb9 := bb8.trans (g9.below.mono bb8.size)
  have hin9 := (hin8.below g9.below (Nat.le_refl _)).more g9.below.size
  have hwt9 := (hwt8.below g9.below (Nat.le_refl _)).more g9.below.size
  replace t1 := t1.below g9.below t1.2.2.2.2
  replace t2 := t2.below g9.below t2.2.2.2.2
  clear hin8 hwt8 g9 hst8
  go_wp2_with fail
  refine (same_true A Ai xs c ci W9 ((hx.below bb9 (Nat.le_refl _)).more bb9.size) hin9 (by omega)).mono ?_
  rintro e W10 ⟨rfl, g10⟩
  have bb10 := bb9.trans (g10.below.mono bb9.size)
  have hwt10 := (hwt9.below g10.below (Nat.le_refl _)).more g10.below.size
  replace t1 := t1.below g10.below t1.2.2.2.2
  replace t2 := t2.below g10.below t2.2.2.2.2
  clear hin9 hwt9 g10 bb2 bb3 bb4 bb5 bb6 bb7 bb8 bb9 hx b1
  have l0 : (0 : Int) < (xs.length : Int) := by omega
  obtain ⟨b, o, rfl, hb, x0, x1⟩ := hwt10.at_ (k := 0) (by have := HS.out; omega)
  obtain ⟨b', o', eW, hb', y0, y1⟩ := hwt10.at_ (k := xs.length - 1) (by have := HS.out; omega)
  obtain ⟨rfl, rfl⟩ : b' = b ∧ o' = o := by cases eW; exact ⟨rfl, rfl⟩
  rw [← HMS.out, Nat.zero_mul, Nat.add_zero] at x0 x1
  rw [← HQS.out] at y0 y1
  simp only at x0 x1 y0 y1
  obtain ⟨N, hN⟩ : ∃ N, S.length = N + 1 := ⟨S.length - 1, by have := HS.out; omega⟩
  have hN2 : xs.length - 1 = N := by have := HS.out; omega
  have hNb : N ≤ 1000 := by have := HS.out; omega
  rw [hN2] at y0 y1
  rw [hN]
  clear hN hN2 eW hwt10
  have q1' := item_eql m1 m2 m1 m2
  have q2' := item_eql q1 q2 q1 q2
  have e1 : eqI m1 m2 m1 m2 = true := by unfold eqI; simp
  have e2 : eqI q1 q2 q1 q2 = true := by unfold eqI; simp
  rw [e1] at q1'
  rw [e2] at q2'
  clear e1 e2
  have N0 : (0 : Int) ≤ (N : Int) := Int.natCast_nonneg _
  have N1 : (N : Int) < (N : Int) + 1 := by omega
  have N2 : (0 : Int) < (N : Int) + 1 := by omega
  go_wp2
  obtain ⟨ga, gb⟩ := t1.grown
  obtain ⟨gc, gd⟩ := t2.grown
  have gx0 := fun n os => cell_grown (a := ⟨b', o', none⟩) (show b' < W10.heap.size from hb) x0 n os
  have gx1 := fun n os => cell_grown (a := ⟨b', o' + 1, none⟩) (show b' < W10.heap.size from hb) x1 n os
  have gy0 := fun n os => cell_grown (a := ⟨b', o' + N * 2, none⟩) (show b' < W10.heap.size from hb) y0 n os
  have gy1 := fun n os => cell_grown (a := ⟨b', o' + N * 2 + 1, none⟩) (show b' < W10.heap.size from hb) y1 n os
  refine wp_region_quiet_grown (by kernel_rfl) (by kernel_rfl) ?_
  have hwN : IntKind.i64.wrap (N : Int) = (N : Int) := IntWalk.i64_in _ ⟨by omega, by omega⟩
  repeat (quiet_step (fail))
  refine wpQuiet_nil ?_
  intro _ hw'
  obtain ⟨⟨nq, osq⟩, hw''⟩ := hw'
  subst hw''
  have gq : RowKit.Below W10.heap.size W10 (grow (W10.drewN nq) osq) := Grows.below ⟨nq, osq, rfl⟩
  have bbq := bb10.trans (gq.mono bb10.size)
  clear gx0 gx1 gy0 gy1 ga gb gc gd hwN
  go_wp2_with fail
  go_ret
  exact ⟨rfl, bbq⟩

theorem sortedL_nil : sortedL [] = [] := rfl
set_option maxRecDepth 100000 in
set_option maxHeartbeats 8000000 in
theorem sorts_none (A : Option Addr) (c : Nat) (w : World) (hw : Env w) :
    Calls Tryd.prog 4 #[.slice A 0 c] w fun e w' => e = .returned (.bool true) ∧ Below w.heap.size w w' := by
  have rn : ∀ (A : Option Addr) (W : World) (B : Nat), Rd W B A [] := fun A W B h => by simp at h
  have cS : ∀ (A : Option Addr) (c : Nat) (W : World), Calls Tryd.prog 11 #[.slice A 0 c] W (OwnsNow W []) := fun A c W => rsorted_any A [] c W (rn A W _) (by decide)
  have cL : ∀ W, Calls Tryd.prog 12 #[.slice A 0 c] W fun e w' => e = .returned (.tuple #[.agg #[.int .i64 0, .int .i64 0], .bool false]) ∧ RowKit.Below W.heap.size W w' := fun W => least_none A c W
  have cM : ∀ W, Calls Tryd.prog 13 #[.slice A 0 c] W fun e w' => e = .returned (.tuple #[.agg #[.int .i64 0, .int .i64 0], .bool false]) ∧ RowKit.Below W.heap.size W w' := fun W => most_none A c W
  have cT : ∀ W, Calls Tryd.prog 15 #[.slice A 0 c] W fun e w' => ∃ A' c', e = .returned (.slice A' 0 c') ∧ RowKit.Below W.heap.size W w' := fun W => (sorted_any A [] c W (rn A W _) (by decide)).mono fun e w' ⟨A', c', he, _, hb⟩ => ⟨A', c', he, hb⟩
  have cE : ∀ (A B : Option Addr) (c d : Nat) (W : World), Calls Tryd.prog 14 #[.slice A 0 c, .slice B 0 d] W fun e w' => e = .returned (.bool true) ∧ Grows W w' := fun A B c d W => same_true A B [] c d W (rn A W _) (rn B W _) (by decide)
  have CS := Lib.hid cS
  have CL := Lib.hid cL
  have CM := Lib.hid cM
  have CT := Lib.hid cT
  have CE := Lib.hid cE
  clear cS cL cM cT cE
  have RN := Lib.hid rn
  clear rn
  go_enter Tryd.func4, Tryd.ntmps4
  go_wp2_with fail
  refine (awake_any _ hw).mono ?_
  rintro e W1 ⟨rfl, b1⟩
  go_wp2_with (at_builtin; refine wpList_append_it rfl _ _ rfl W1.heap.size (.slice (some ⟨W1.heap.size, 0, none⟩) 0 0) [] (by rfl) (Own.lit W1) W1.heap.size A [] 0 c (by rfl) rfl (RN.out A _ _) (by simp) (by simp) ?_; intro v2 W2 hown2 hg2 hat2; have b2 : RowKit.Below W1.heap.size W1 W2 := (below_alloc W1 _).grown hg2 (by simp) (by simp [Value.ownBlock]))
  rw [List.nil_append] at hown2
  obtain ⟨Ai, ci, rfl, _, _, _⟩ := hown2.form
  have bb2 := b1.trans (b2.mono b1.size)
  clear hown2 hg2 hat2 b2
  refine (CS.out Ai ci W2).mono ?_
  rintro e W3 ⟨v3, rfl, hown3, b3⟩
  obtain ⟨Aw, cw, rfl, _, _, _⟩ := hown3.form
  have bb3 := bb2.trans (b3.mono bb2.size)
  clear hown3 b3
  go_wp2_with fail
  refine (CL.out W3).mono ?_
  rintro e W4 ⟨rfl, b4⟩
  have bb4 := bb3.trans (b4.mono bb3.size)
  clear b4
  have t1 := Two.new W4 (.int .i64 0) (.int .i64 0) 23
  have bb5 := bb4.trans ((below_alloc W4 (Obj.cells #[Value.int IntKind.i64 0, Value.int IntKind.i64 0] 23)).mono bb4.size)
  go_wp2_with fail
  generalize W4.alloc (Obj.cells #[Value.int IntKind.i64 0, Value.int IntKind.i64 0] 23) = W5 at *
  refine (CM.out W5).mono ?_
  rintro e W6 ⟨rfl, b6⟩
  have bb6 := bb5.trans (b6.mono bb5.size)
  replace t1 := t1.below b6 t1.2.2.2.2
  clear b6
  have t2 := Two.new W6 (.int .i64 0) (.int .i64 0) 23
  have b7 := below_alloc W6 (Obj.cells #[Value.int IntKind.i64 0, Value.int IntKind.i64 0] 23)
  have bb7 := bb6.trans (b7.mono bb6.size)
  replace t1 := t1.below b7 t1.2.2.2.2
  clear b7
  go_wp2_with fail
  generalize W6.alloc (Obj.cells #[Value.int IntKind.i64 0, Value.int IntKind.i64 0] 23) = W7 at *
  refine (CT.out W7).mono ?_
  rintro e W8 ⟨As, cs, rfl, b8⟩
  have bb8 := bb7.trans (b8.mono bb7.size)
  replace t1 := t1.below b8 t1.2.2.2.2
  replace t2 := t2.below b8 t2.2.2.2.2
  clear b8
  go_wp2_with fail
  refine (CE.out As Aw cs cw W8).mono ?_
  rintro e W9 ⟨rfl, g9⟩
  have bb9 := bb8.trans (g9.below.mono bb8.size)
  replace t1 := t1.below g9.below t1.2.2.2.2
  replace t2 := t2.below g9.below t2.2.2.2.2
  clear g9
  go_wp2_with fail
  refine (CE.out A Ai c ci W9).mono ?_
  rintro e W10 ⟨rfl, g10⟩
  have bb10 := bb9.trans (g10.below.mono bb9.size)
  replace t1 := t1.below g10.below t1.2.2.2.2
  replace t2 := t2.below g10.below t2.2.2.2.2
  clear g10 bb2 bb3 bb4 bb5 bb6 bb7 bb8 bb9 b1
  have q1' := item_eql 0 0 0 0
  have e1 : eqI 0 0 0 0 = true := by decide
  rw [e1] at q1'
  clear e1
  obtain ⟨c0, c1, f0, f1, hl1⟩ := t1
  obtain ⟨d0, d1, e0, e1, hl2⟩ := t2
  go_wp2_with fail
  go_ret
  exact ⟨rfl, bb10⟩

theorem sorts_long (A : Option Addr) (n c : Nat) (w : World) (hn : 100 < n) (hm : n ≤ 9223372036854775807) (hw : Env w) :
    Calls Tryd.prog 4 #[.slice A n c] w fun e w' => e = .returned (.bool true) ∧ Below w.heap.size w w' := by
  go_enter Tryd.func4, Tryd.ntmps4
  go_wp2_with fail
  refine (awake_any _ hw).mono ?_
  rintro e W1 ⟨rfl, b1⟩
  have hw1 := hw.below b1 (Nat.le_refl _)
  go_wp2_with fail
  refine (awake_any _ hw1).mono ?_
  rintro e W2 ⟨rfl, b2⟩
  go_wp2_with fail
  go_ret
  exact ⟨rfl, b1.trans (b2.mono b1.size)⟩
theorem sorts_walk (A : Option Addr) (xs : List It) (c : Nat) (w : World) (hx : Rd w w.heap.size A xs) (hm : xs.length ≤ maxLen) (hw : Env w) :
    Calls Tryd.prog 4 #[.slice A xs.length c] w fun e w' => e = .returned (.bool true) ∧ Below w.heap.size w w' := by
  by_cases h : 100 < xs.length
  · exact sorts_long A xs.length c w h (by unfold maxLen at hm; exact hm) hw
  · by_cases h0 : 0 < xs.length
    · exact sorts_some A xs c w hx (by omega) h0 hw
    · have hz : xs.length = 0 := by omega
      rw [hz]
      exact sorts_none A c w hw
end Go.Proofs.YtocblnbnifljmaaDoor.Item
