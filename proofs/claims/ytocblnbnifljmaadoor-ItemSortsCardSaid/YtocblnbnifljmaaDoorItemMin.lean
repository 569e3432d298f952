/- slices.MinFunc and MaxFunc at item.Compare, item.Least and Most: what they answer. -/
import Derived.Test.YtocblnbnifljmaaDoorItemSame
import Derived.Test.YtocblnbnifljmaaDoorItemLaws2
namespace Go.Proofs.YtocblnbnifljmaaDoor.Item
open Go.Sort Go.RowKit Go.Lib
set_option linter.unusedVariables false

theorem Two.store {W : World} {b : Nat} {x y : Value} (h : Two W b x y) (u v : Value) : Two ((W.setCell ⟨b, 0, none⟩ u).setCell ⟨b, 1, none⟩ v) b u v := by
  obtain ⟨c0, c1, f0, f1, hl⟩ := h
  have ne : (⟨b, 0, none⟩ : Addr) ≠ ⟨b, 1, none⟩ := by intro e; injection e with _ e; cases e
  refine ⟨?_, ?_, ?_, ?_, ?_⟩
  · rw [World.cell?_setCell_other _ _ _ _ (Ne.symm ne)]
    exact World.cell?_setCell_same _ _ _ c0
  · refine World.cell?_setCell_same _ _ _ (u := y) ?_
    rw [World.cell?_setCell_other _ _ _ _ ne]; exact c1
  · rw [World.frozen?_setCell, World.frozen?_setCell]; exact f0
  · rw [World.frozen?_setCell, World.frozen?_setCell]; exact f1
  · simpa [World.setCell] using hl
theorem Two.far_store {W : World} {b b' : Nat} {x y : Value} (h : Two W b x y) (hne : b ≠ b') (u v : Value) : Two ((W.setCell ⟨b', 0, none⟩ u).setCell ⟨b', 1, none⟩ v) b x y := by
  obtain ⟨c0, c1, f0, f1, hl⟩ := h
  have ne : ∀ i j, (⟨b', i, none⟩ : Addr) ≠ ⟨b, j, none⟩ := by intro i j e; injection e with e; exact hne e.symm
  refine ⟨?_, ?_, ?_, ?_, ?_⟩
  · rw [World.cell?_setCell_other _ _ _ _ (ne _ _), World.cell?_setCell_other _ _ _ _ (ne _ _)]; exact c0
  · rw [World.cell?_setCell_other _ _ _ _ (ne _ _), World.cell?_setCell_other _ _ _ _ (ne _ _)]; exact c1
  · rw [World.frozen?_setCell, World.frozen?_setCell]; exact f0
  · rw [World.frozen?_setCell, World.frozen?_setCell]; exact f1
  · simpa [World.setCell] using hl

set_option maxRecDepth 100000 in
set_option maxHeartbeats 4000000 in
theorem minfunc_any (A : Option Addr) (xs : List It) (c : Nat) (w : World) (hx : Rd w w.heap.size A xs) (hn : xs.length ≤ 1000) (h0 : 0 < xs.length) :
    Calls Tryd.prog 22 #[.slice A xs.length c, .func (.func 9) #[] #[]] w fun e w' => e = .returned (itemV (minTo xs (xs.length - 1))) ∧ Below w.heap.size w w' := by
  obtain ⟨b, o, rfl, hb, x0, x1⟩ := hx.at_ h0
  have y0 : w.cell? ⟨b, o, none⟩ = some (.int .i64 (minTo xs 0).1) := by
    have h := x0; rw [Nat.zero_mul, Nat.add_zero] at h; exact h
  have y1 : w.cell? ⟨b, o + 1, none⟩ = some (.int .i64 (minTo xs 0).2) := by
    have h := x1; rw [Nat.zero_mul, Nat.add_zero] at h; exact h
  clear x0 x1
  obtain ⟨m, hm⟩ : ∃ m, m = minTo xs 0 := ⟨_, rfl⟩
  rw [← hm] at y0 y1
  obtain ⟨m1, m2⟩ := m
  have HM := Lib.hid hm
  clear hm
  simp only at y0 y1
  have l1 : (1 : Int) ≤ (xs.length : Int) := by omega
  have l0 : (0 : Int) < (xs.length : Int) := by omega
  go_enter Tryd.func22, Tryd.ntmps22
  go_wp2
  have t1 := Two.new w (.int .i64 0) (.int .i64 0) 23
  have t2 := Two.new (w.alloc (.cells #[.int .i64 0, .int .i64 0] 23)) (.int .i64 m1) (.int .i64 m2) 23
  replace t1 := t1.below ((Below.refl _ _).alloc (Nat.le_refl _) (.cells #[.int .i64 m1, .int .i64 m2] 23)) t1.2.2.2.2
  have es : (w.alloc (.cells #[.int .i64 0, .int .i64 0] 23)).heap.size = w.heap.size + 1 := by simp
  rw [es] at t2
  have hb0 : Below w.heap.size w ((w.alloc (.cells #[.int .i64 0, .int .i64 0] 23)).alloc (.cells #[.int .i64 m1, .int .i64 m2] 23)) := ((Grows.refl w).alloc _).alloc _ |>.below
  clear es y0 y1
  generalize ((w.alloc (.cells #[.int .i64 0, .int .i64 0] 23)).alloc (.cells #[.int .i64 m1, .int .i64 m2] 23)) = W0 at *
  go_loopw [6] (fun i wr => ∃ (k : Nat) (z1 z2 : Int), k < xs.length ∧ i = .int .i64 ((k + 1 : Nat) : Int) ∧ Hid ((z1, z2) = minTo xs k) ∧ Two wr w.heap.size (.int .i64 0) (.int .i64 0) ∧ Two wr (w.heap.size + 1) (.int .i64 z1) (.int .i64 z2) ∧ Below w.heap.size w wr) (fun i _ => xs.length - (intOf i).toNat)
  case atStart => exact ⟨0, m1, m2, h0, rfl, HM, t1, t2, hb0⟩
  case round =>
    obtain ⟨k, z1, z2, hk, rfl, hz, s1, s2, hbel⟩ := hrel
    clear t1 t2 hb0 HM
    by_cases hlt : k + 1 < xs.length
    · obtain ⟨b', o', e', hb', x0, x1⟩ := (hx.below hbel (Nat.le_refl _)).at_ hlt
      obtain ⟨rfl, rfl⟩ : b' = b ∧ o' = o := by cases e'; exact ⟨rfl, rfl⟩
      clear e' hb'
      have hsz := hbel.size
      obtain ⟨p, hp⟩ : ∃ p, p = xs.getD (k + 1) (0, 0) := ⟨_, rfl⟩
      rw [← hp] at x0 x1
      obtain ⟨p1, p2⟩ := p
      simp only at x0 x1
      obtain ⟨cc, hcc⟩ : ∃ cc, CmpIs p1 p2 z1 z2 cc := ⟨_, rfl⟩
      have k0 : (0 : Int) ≤ ((k + 1 : Nat) : Int) := Int.natCast_nonneg _
      have k1 : ((k + 1 : Nat) : Int) < (xs.length : Int) := by omega
      have k2 : (k : Int) + 1 < (xs.length : Int) := by omega
      have k3 : (0 : Int) ≤ (k : Int) + 1 := by omega
      by_cases hc : cc < 0
      · have hz2 : Hid ((p1, p2) = minTo xs (k + 1)) := by
          show _ = _
          rw [minTo, ← hz.out, ← hp, if_pos (by have h := hcc; unfold CmpIs at h; rw [h]; exact hc)]
        clear hp
        go_wp2
        have gx0 := fun n os => cell_grown (a := ⟨b', o' + (k + 1) * 2, none⟩) (show b' < wr.heap.size by omega) x0 n os
        have gx1 := fun n os => cell_grown (a := ⟨b', o' + (k + 1) * 2 + 1, none⟩) (show b' < wr.heap.size by omega) x1 n os
        obtain ⟨gz0, gz1⟩ := s2.grown
        refine wp_region_quiet_grown (by kernel_rfl) (by kernel_rfl) ?_
        repeat (quiet_step ((go_at_call 9; exact Grows.calls (compare_c _ _ _ _ _ _ hcc))))
        refine wpQuiet_nil ?_
        intro _ hw'
        obtain ⟨⟨nq, osq⟩, hw''⟩ := hw'
        subst hw''
        clear gx0 gx1 gz0 gz1
        have gq : Below wr.heap.size wr (grow (wr.drewN nq) osq) := Grows.below ⟨nq, osq, rfl⟩
        have s1' := s1.below gq s1.2.2.2.2
        have s2' := s2.below gq s2.2.2.2.2
        have hbel' := hbel.trans (gq.mono hsz)
        have x0' := (gq.cell (p := ⟨b', o' + (k + 1) * 2, none⟩) (show b' < wr.heap.size by omega)).trans x0
        have x1' := (gq.cell (p := ⟨b', o' + (k + 1) * 2 + 1, none⟩) (show b' < wr.heap.size by omega)).trans x1
        clear gq s1 s2 hbel x0 x1
        generalize grow (wr.drewN nq) osq = wq at *
        have st := s2'.store (.int .i64 p1) (.int .i64 p2)
        have s1q := s1'.far_store (b' := w.heap.size + 1) (by omega) (.int .i64 p1) (.int .i64 p2)
        have hbq := (hbel'.setCell (p := ⟨w.heap.size + 1, 0, none⟩) (show w.heap.size ≤ w.heap.size + 1 by omega) (.int .i64 p1)).setCell (p := ⟨w.heap.size + 1, 1, none⟩) (show w.heap.size ≤ w.heap.size + 1 by omega) (.int .i64 p2)
        obtain ⟨d0, d1, e0, e1, hl2⟩ := s2'
        clear s1'
        go_wp2
        go_roundw
        case rel => exact ⟨k + 1, p1, p2, hlt, by go_num, hz2, s1q, st, hbq⟩
        case measure => simp [intOf]; omega
      · have hz2 : Hid ((z1, z2) = minTo xs (k + 1)) := by
          show _ = _
          rw [minTo, ← hz.out, ← hp, if_neg (by have h := hcc; unfold CmpIs at h; rw [h]; exact hc)]
        clear hp
        go_wp2
        have gx0 := fun n os => cell_grown (a := ⟨b', o' + (k + 1) * 2, none⟩) (show b' < wr.heap.size by omega) x0 n os
        have gx1 := fun n os => cell_grown (a := ⟨b', o' + (k + 1) * 2 + 1, none⟩) (show b' < wr.heap.size by omega) x1 n os
        obtain ⟨gz0, gz1⟩ := s2.grown
        refine wp_region_quiet_grown (by kernel_rfl) (by kernel_rfl) ?_
        repeat (quiet_step ((go_at_call 9; exact Grows.calls (compare_c _ _ _ _ _ _ hcc))))
        refine wpQuiet_nil ?_
        intro _ hw'
        obtain ⟨⟨nq, osq⟩, hw''⟩ := hw'
        subst hw''
        clear gx0 gx1 gz0 gz1
        have gq : Below wr.heap.size wr (grow (wr.drewN nq) osq) := Grows.below ⟨nq, osq, rfl⟩
        have s1' := s1.below gq s1.2.2.2.2
        have s2' := s2.below gq s2.2.2.2.2
        have hbel' := hbel.trans (gq.mono hsz)
        clear gq s1 s2 hbel x0 x1
        generalize grow (wr.drewN nq) osq = wq at *
        go_wp2
        go_roundw
        case rel => exact ⟨k + 1, z1, z2, hlt, by go_num, hz2, s1', s2', hbel'⟩
        case measure => simp [intOf]; omega
    · have hkk : xs.length - 1 = k := by omega
      have hkl : (xs.length : Int) = (k : Int) + 1 := by omega
      have hge : ¬ (k : Int) + 1 < (xs.length : Int) := by omega
      have HK := Lib.hid hkk
      clear hkk hkl
      obtain ⟨c0, c1, f0, f1, hl1⟩ := s1
      obtain ⟨d0, d1, e0, e1, hl2⟩ := s2
      go_wp2
      exact bodyPost_ret (v := itemV (z1, z2)) (by simp [itemV, results, Tryd.results22, go_sem, c0, c1]) rfl ⟨by rw [HK.out, hz.out], (hbel.setCell (p := ⟨w.heap.size, 0, none⟩) (Nat.le_refl _) _).setCell (p := ⟨w.heap.size, 1, none⟩) (Nat.le_refl _) _⟩

/-- what Least answers -/
theorem least_any (A : Option Addr) (xs : List It) (c : Nat) (w : World) (hx : Rd w w.heap.size A xs) (hn : xs.length ≤ 1000) (h0 : 0 < xs.length) :
    Calls Tryd.prog 12 #[.slice A xs.length c] w fun e w' => e = .returned (.tuple #[itemV (minTo xs (xs.length - 1)), .bool true]) ∧ Below w.heap.size w w' := by
  have l0 : ((xs.length : Int) == 0) = false := by rw [beq_eq_false_iff_ne]; omega
  obtain ⟨m, hm⟩ : ∃ m, m = minTo xs (xs.length - 1) := ⟨_, rfl⟩
  have hcon := fun W h => minfunc_any A xs c W h hn h0
  rw [← hm] at hcon ⊢
  obtain ⟨m1, m2⟩ := m
  unfold itemV at hcon ⊢
  have HC := Lib.hid hcon
  clear hcon hm
  go_enter Tryd.func12, Tryd.ntmps12
  go_wp2_with fail
  have t1 := Two.new w (.int .i64 0) (.int .i64 0) 23
  have hb0 : Below w.heap.size w (w.alloc (.cells #[.int .i64 0, .int .i64 0] 23)) := ((Grows.refl w).alloc _).below
  generalize w.alloc (.cells #[.int .i64 0, .int .i64 0] 23) = W0 at *
  refine (HC.out _ ((hx.below hb0 (Nat.le_refl _)).more hb0.size)).mono ?_
  rintro e W1 ⟨rfl, b1⟩
  replace t1 := t1.below b1 t1.2.2.2.2
  replace hb0 := hb0.trans (b1.mono hb0.size)
  clear b1
  obtain ⟨c0, c1, f0, f1, hl1⟩ := t1
  go_wp2
  exact bodyPost_ret (v := .tuple #[.agg #[.int .i64 m1, .int .i64 m2], .bool true]) (by simp [results, Tryd.results12, go_sem, c0, c1]) rfl ⟨rfl, (hb0.setCell (p := ⟨w.heap.size, 0, none⟩) (Nat.le_refl _) _).setCell (p := ⟨w.heap.size, 1, none⟩) (Nat.le_refl _) _⟩
theorem least_none (A : Option Addr) (c : Nat) (w : World) :
    Calls Tryd.prog 12 #[.slice A 0 c] w fun e w' => e = .returned (.tuple #[itemV (0, 0), .bool false]) ∧ Below w.heap.size w w' := by
  go_enter Tryd.func12, Tryd.ntmps12
  go_wp2
  exact bodyPost_ret (v := .tuple #[itemV (0, 0), .bool false]) (by simp [itemV, results, Tryd.results12, go_sem]) rfl ⟨rfl, ((Grows.refl w).alloc _).below⟩

set_option maxRecDepth 100000 in
set_option maxHeartbeats 4000000 in
theorem maxfunc_any (A : Option Addr) (xs : List It) (c : Nat) (w : World) (hx : Rd w w.heap.size A xs) (hn : xs.length ≤ 1000) (h0 : 0 < xs.length) :
    Calls Tryd.prog 23 #[.slice A xs.length c, .func (.func 9) #[] #[]] w fun e w' => e = .returned (itemV (maxTo xs (xs.length - 1))) ∧ Below w.heap.size w w' := by
  obtain ⟨b, o, rfl, hb, x0, x1⟩ := hx.at_ h0
  have y0 : w.cell? ⟨b, o, none⟩ = some (.int .i64 (maxTo xs 0).1) := by
    have h := x0; rw [Nat.zero_mul, Nat.add_zero] at h; exact h
  have y1 : w.cell? ⟨b, o + 1, none⟩ = some (.int .i64 (maxTo xs 0).2) := by
    have h := x1; rw [Nat.zero_mul, Nat.add_zero] at h; exact h
  clear x0 x1
  obtain ⟨m, hm⟩ : ∃ m, m = maxTo xs 0 := ⟨_, rfl⟩
  rw [← hm] at y0 y1
  obtain ⟨m1, m2⟩ := m
  have HM := Lib.hid hm
  clear hm
  simp only at y0 y1
  have l1 : (1 : Int) ≤ (xs.length : Int) := by omega
  have l0 : (0 : Int) < (xs.length : Int) := by omega
  go_enter Tryd.func23, Tryd.ntmps23
  go_wp2
  have t1 := Two.new w (.int .i64 0) (.int .i64 0) 23
  have t2 := Two.new (w.alloc (.cells #[.int .i64 0, .int .i64 0] 23)) (.int .i64 m1) (.int .i64 m2) 23
  replace t1 := t1.below ((Below.refl _ _).alloc (Nat.le_refl _) (.cells #[.int .i64 m1, .int .i64 m2] 23)) t1.2.2.2.2
  have es : (w.alloc (.cells #[.int .i64 0, .int .i64 0] 23)).heap.size = w.heap.size + 1 := by simp
  rw [es] at t2
  have hb0 : Below w.heap.size w ((w.alloc (.cells #[.int .i64 0, .int .i64 0] 23)).alloc (.cells #[.int .i64 m1, .int .i64 m2] 23)) := ((Grows.refl w).alloc _).alloc _ |>.below
  clear es y0 y1
  generalize ((w.alloc (.cells #[.int .i64 0, .int .i64 0] 23)).alloc (.cells #[.int .i64 m1, .int .i64 m2] 23)) = W0 at *
  go_loopw [6] (fun i wr => ∃ (k : Nat) (z1 z2 : Int), k < xs.length ∧ i = .int .i64 ((k + 1 : Nat) : Int) ∧ Hid ((z1, z2) = maxTo xs k) ∧ Two wr w.heap.size (.int .i64 0) (.int .i64 0) ∧ Two wr (w.heap.size + 1) (.int .i64 z1) (.int .i64 z2) ∧ Below w.heap.size w wr) (fun i _ => xs.length - (intOf i).toNat)
  case atStart => exact ⟨0, m1, m2, h0, rfl, HM, t1, t2, hb0⟩
  case round =>
    obtain ⟨k, z1, z2, hk, rfl, hz, s1, s2, hbel⟩ := hrel
    clear t1 t2 hb0 HM
    by_cases hlt : k + 1 < xs.length
    · obtain ⟨b', o', e', hb', x0, x1⟩ := (hx.below hbel (Nat.le_refl _)).at_ hlt
      obtain ⟨rfl, rfl⟩ : b' = b ∧ o' = o := by cases e'; exact ⟨rfl, rfl⟩
      clear e' hb'
      have hsz := hbel.size
      obtain ⟨p, hp⟩ : ∃ p, p = xs.getD (k + 1) (0, 0) := ⟨_, rfl⟩
      rw [← hp] at x0 x1
      obtain ⟨p1, p2⟩ := p
      simp only at x0 x1
      obtain ⟨cc, hcc⟩ : ∃ cc, CmpIs p1 p2 z1 z2 cc := ⟨_, rfl⟩
      have k0 : (0 : Int) ≤ ((k + 1 : Nat) : Int) := Int.natCast_nonneg _
      have k1 : ((k + 1 : Nat) : Int) < (xs.length : Int) := by omega
      have k2 : (k : Int) + 1 < (xs.length : Int) := by omega
      have k3 : (0 : Int) ≤ (k : Int) + 1 := by omega
      by_cases hc : 0 < cc
      · have hz2 : Hid ((p1, p2) = maxTo xs (k + 1)) := by
          show _ = _
          rw [maxTo, ← hz.out, ← hp, if_pos (by have h := hcc; unfold CmpIs at h; rw [h]; exact hc)]
        clear hp
        go_wp2
        have gx0 := fun n os => cell_grown (a := ⟨b', o' + (k + 1) * 2, none⟩) (show b' < wr.heap.size by omega) x0 n os
        have gx1 := fun n os => cell_grown (a := ⟨b', o' + (k + 1) * 2 + 1, none⟩) (show b' < wr.heap.size by omega) x1 n os
        obtain ⟨gz0, gz1⟩ := s2.grown
        refine wp_region_quiet_grown (by kernel_rfl) (by kernel_rfl) ?_
        repeat (quiet_step ((go_at_call 9; exact Grows.calls (compare_c _ _ _ _ _ _ hcc))))
        refine wpQuiet_nil ?_
        intro _ hw'
        obtain ⟨⟨nq, osq⟩, hw''⟩ := hw'
        subst hw''
        clear gx0 gx1 gz0 gz1
        have gq : Below wr.heap.size wr (grow (wr.drewN nq) osq) := Grows.below ⟨nq, osq, rfl⟩
        have s1' := s1.below gq s1.2.2.2.2
        have s2' := s2.below gq s2.2.2.2.2
        have hbel' := hbel.trans (gq.mono hsz)
        have x0' := (gq.cell (p := ⟨b', o' + (k + 1) * 2, none⟩) (show b' < wr.heap.size by omega)).trans x0
        have x1' := (gq.cell (p := ⟨b', o' + (k + 1) * 2 + 1, none⟩) (show b' < wr.heap.size by omega)).trans x1
        clear gq s1 s2 hbel x0 x1
        generalize grow (wr.drewN nq) osq = wq at *
        have st := s2'.store (.int .i64 p1) (.int .i64 p2)
        have s1q := s1'.far_store (b' := w.heap.size + 1) (by omega) (.int .i64 p1) (.int .i64 p2)
        have hbq := (hbel'.setCell (p := ⟨w.heap.size + 1, 0, none⟩) (show w.heap.size ≤ w.heap.size + 1 by omega) (.int .i64 p1)).setCell (p := ⟨w.heap.size + 1, 1, none⟩) (show w.heap.size ≤ w.heap.size + 1 by omega) (.int .i64 p2)
        obtain ⟨d0, d1, e0, e1, hl2⟩ := s2'
        clear s1'
        go_wp2
        go_roundw
        case rel => exact ⟨k + 1, p1, p2, hlt, by go_num, hz2, s1q, st, hbq⟩
        case measure => simp [intOf]; omega
      · have hz2 : Hid ((z1, z2) = maxTo xs (k + 1)) := by
          show _ = _
          rw [maxTo, ← hz.out, ← hp, if_neg (by have h := hcc; unfold CmpIs at h; rw [h]; exact hc)]
        clear hp
        go_wp2
        have gx0 := fun n os => cell_grown (a := ⟨b', o' + (k + 1) * 2, none⟩) (show b' < wr.heap.size by omega) x0 n os
        have gx1 := fun n os => cell_grown (a := ⟨b', o' + (k + 1) * 2 + 1, none⟩) (show b' < wr.heap.size by omega) x1 n os
        obtain ⟨gz0, gz1⟩ := s2.grown
        refine wp_region_quiet_grown (by kernel_rfl) (by kernel_rfl) ?_
        repeat (quiet_step ((go_at_call 9; exact Grows.calls (compare_c _ _ _ _ _ _ hcc))))
        refine wpQuiet_nil ?_
        intro _ hw'
        obtain ⟨⟨nq, osq⟩, hw''⟩ := hw'
        subst hw''
        clear gx0 gx1 gz0 gz1
        have gq : Below wr.heap.size wr (grow (wr.drewN nq) osq) := Grows.below ⟨nq, osq, rfl⟩
        have s1' := s1.below gq s1.2.2.2.2
        have s2' := s2.below gq s2.2.2.2.2
        have hbel' := hbel.trans (gq.mono hsz)
        clear gq s1 s2 hbel x0 x1
        generalize grow (wr.drewN nq) osq = wq at *
        go_wp2
        go_roundw
        case rel => exact ⟨k + 1, z1, z2, hlt, by go_num, hz2, s1', s2', hbel'⟩
        case measure => simp [intOf]; omega
    · have hkk : xs.length - 1 = k := by omega
      have hkl : (xs.length : Int) = (k : Int) + 1 := by omega
      have hge : ¬ (k : Int) + 1 < (xs.length : Int) := by omega
      have HK := Lib.hid hkk
      clear hkk hkl
      obtain ⟨c0, c1, f0, f1, hl1⟩ := s1
      obtain ⟨d0, d1, e0, e1, hl2⟩ := s2
      go_wp2
      exact bodyPost_ret (v := itemV (z1, z2)) (by simp [itemV, results, Tryd.results23, go_sem, c0, c1]) rfl ⟨by rw [HK.out, hz.out], (hbel.setCell (p := ⟨w.heap.size, 0, none⟩) (Nat.le_refl _) _).setCell (p := ⟨w.heap.size, 1, none⟩) (Nat.le_refl _) _⟩

/-- what Most answers -/
theorem most_any (A : Option Addr) (xs : List It) (c : Nat) (w : World) (hx : Rd w w.heap.size A xs) (hn : xs.length ≤ 1000) (h0 : 0 < xs.length) :
    Calls Tryd.prog 13 #[.slice A xs.length c] w fun e w' => e = .returned (.tuple #[itemV (maxTo xs (xs.length - 1)), .bool true]) ∧ Below w.heap.size w w' := by
  have l0 : ((xs.length : Int) == 0) = false := by rw [beq_eq_false_iff_ne]; omega
  obtain ⟨m, hm⟩ : ∃ m, m = maxTo xs (xs.length - 1) := ⟨_, rfl⟩
  have hcon := fun W h => maxfunc_any A xs c W h hn h0
  rw [← hm] at hcon ⊢
  obtain ⟨m1, m2⟩ := m
  unfold itemV at hcon ⊢
  have HC := Lib.hid hcon
  clear hcon hm
  go_enter Tryd.func13, Tryd.ntmps13
  go_wp2_with fail
  have t1 := Two.new w (.int .i64 0) (.int .i64 0) 23
  have hb0 : Below w.heap.size w (w.alloc (.cells #[.int .i64 0, .int .i64 0] 23)) := ((Grows.refl w).alloc _).below
  generalize w.alloc (.cells #[.int .i64 0, .int .i64 0] 23) = W0 at *
  refine (HC.out _ ((hx.below hb0 (Nat.le_refl _)).more hb0.size)).mono ?_
  rintro e W1 ⟨rfl, b1⟩
  replace t1 := t1.below b1 t1.2.2.2.2
  replace hb0 := hb0.trans (b1.mono hb0.size)
  clear b1
  obtain ⟨c0, c1, f0, f1, hl1⟩ := t1
  go_wp2
  exact bodyPost_ret (v := .tuple #[.agg #[.int .i64 m1, .int .i64 m2], .bool true]) (by simp [results, Tryd.results13, go_sem, c0, c1]) rfl ⟨rfl, (hb0.setCell (p := ⟨w.heap.size, 0, none⟩) (Nat.le_refl _) _).setCell (p := ⟨w.heap.size, 1, none⟩) (Nat.le_refl _) _⟩
theorem most_none (A : Option Addr) (c : Nat) (w : World) :
    Calls Tryd.prog 13 #[.slice A 0 c] w fun e w' => e = .returned (.tuple #[itemV (0, 0), .bool false]) ∧ Below w.heap.size w w' := by
  go_enter Tryd.func13, Tryd.ntmps13
  go_wp2
  exact bodyPost_ret (v := .tuple #[itemV (0, 0), .bool false]) (by simp [itemV, results, Tryd.results13, go_sem]) rfl ⟨rfl, ((Grows.refl w).alloc _).below⟩
end Go.Proofs.YtocblnbnifljmaaDoor.Item
