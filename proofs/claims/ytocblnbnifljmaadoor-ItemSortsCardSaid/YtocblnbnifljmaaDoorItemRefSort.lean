/- whilomref02.Sorted: what it answers. -/
import Derived.Test.YtocblnbnifljmaaDoorItemSort
import Derived.IntWalk
import Derived.BigQuiet
namespace Go.Proofs.YtocblnbnifljmaaDoor.Item
open Go.Sort Go.RowKit Go.Lib
set_option linter.unusedVariables false

def OwnsNow (w : World) (xs : List It) (e : Ending) (w' : World) : Prop := ∃ v, e = .returned v ∧ Own w' w.heap.size v xs ∧ Below w.heap.size w w'
theorem posTo_yes {x : It} {l : List It} {j : Nat} (h : aheadB x (l.getD j (0, 0)) = true) : posTo x l (j + 1) = posTo x l j := by rw [posTo, if_pos h]
theorem posTo_no {x : It} {l : List It} {j : Nat} (h : aheadB x (l.getD j (0, 0)) = false) : posTo x l (j + 1) = j + 1 := by rw [posTo, if_neg (by rw [h]; decide)]

set_option maxRecDepth 100000 in
set_option maxHeartbeats 8000000 in
theorem rsorted_any (A : Option Addr) (xs : List It) (c : Nat) (w : World) (hx : Rd w w.heap.size A xs) (hn : xs.length ≤ 1000) :
    Calls Tryd.prog 11 #[.slice A xs.length c] w (OwnsNow w (sortedL xs)) := by
  go_enter Tryd.func11, Tryd.ntmps11
  go_wp2
  go_loopw [3, 4] (fun v i wr => ∃ k : Nat, k ≤ xs.length ∧ i = .int .i64 k ∧ Own wr w.heap.size v (insTo xs k) ∧ Below w.heap.size w wr) (fun _ i _ => xs.length - (intOf i).toNat)
  case atStart => exact ⟨0, by omega, rfl, Own.nil w w.heap.size, Below.refl _ _⟩
  case round =>
    obtain ⟨k, hk, rfl, hown, hbel⟩ := hrel
    rename World => wo
    by_cases hlt : k < xs.length
    · obtain ⟨L, hL⟩ : ∃ L, L = insTo xs k := ⟨_, rfl⟩
      have hLl : L.length = k := by rw [hL]; exact insTo_length xs k
      have hLle : L.length ≤ 1000 := by omega
      rw [← hL] at hown
      obtain ⟨Ao, co, rfl, hLr, hco, hco2⟩ := hown.form
      obtain ⟨x, hxk⟩ : ∃ x, x = xs.getD k (0, 0) := ⟨_, rfl⟩
      have HL := Lib.hid hL
      have HLL := Lib.hid hLl
      have HXK := Lib.hid hxk
      clear hL hLl hxk
      have k0 : (0 : Int) ≤ (k : Int) := Int.natCast_nonneg _
      have k1 : (k : Int) < (xs.length : Int) := by omega
      go_wp2
      go_loopw [5] (fun q wi => ∃ j : Nat, j ≤ L.length ∧ q = .int .i64 j ∧ Hid (posTo x L L.length = posTo x L j) ∧ Grows wo wi) (fun q _ => (intOf q).toNat)
      case atStart => exact ⟨L.length, Nat.le_refl _, rfl, rfl, Grows.refl _⟩
      case round =>
        obtain ⟨p, hp, rfl, hpos, hgi⟩ := hrel
        have hw2 : Below w.heap.size w wr := hbel.trans (hgi.below.mono hbel.size)
        obtain ⟨b, o, eA, hb, x0, x1⟩ := (hx.below hw2 (Nat.le_refl _)).at_ hlt
        rw [← HXK.out] at x0 x1
        have hszi := hgi.below.size
        have hszw := hbel.size
        obtain ⟨a1, a2⟩ := x
        simp only at x0 x1
        subst eA
        by_cases hp0 : p = 0
        · have hP : Hid (pos (a1, a2) L = p) := by show _ = _; unfold pos; rw [hpos.out, hp0]; rfl
          have HP0 := Lib.hid hp0
          have hpd : ¬ 0 < p := by omega
          have hd : decide ((0 : Int) < (p : Int)) = false := decide_eq_false (by omega)
          clear hp0
          go_wp2
          refine wp_region_quiet_grown (by kernel_rfl) (by kernel_rfl) ?_
          repeat (go_big_quiet_step (fail))
          refine wpQuiet_nil ?_
          intro _ hw'
          obtain ⟨⟨nq, osq⟩, hw''⟩ := hw'
          subst hw''
          have hgi' := hgi.grow nq osq
          clear hgi hpd hd hw2
          have gq : Below wr.heap.size wr (grow (wr.drewN nq) osq) := Grows.below ⟨nq, osq, rfl⟩
          have xi0 := (gq.cell (p := ⟨b, o + k * 2, none⟩) (show b < wr.heap.size by omega)).trans x0
          have xi1 := (gq.cell (p := ⟨b, o + k * 2 + 1, none⟩) (show b < wr.heap.size by omega)).trans x1
          clear gq x0 x1
          have hszi : w.heap.size ≤ (grow (wr.drewN nq) osq).heap.size := Nat.le_trans hbel.size hgi'.below.size
          generalize grow (wr.drewN nq) osq = wi at *
          have hw2f : Below w.heap.size w wi := hbel.trans (hgi'.below.mono hbel.size)
          have hLi : Rd wi wi.heap.size Ao L := (hLr.below hgi'.below (Nat.le_refl _)).more hgi'.below.size
          have HT : Hid (p = (L.take (p)).length) := by show _ = _; rw [List.length_take]; omega
          have HD : Hid (L.length - (p) = (L.drop (p)).length) := by show _ = _; rw [List.length_drop]
          have n1 := Own.nil wi wi.heap.size
          have p0 : (0 : Int) ≤ (p : Int) := by omega
          have p1 : (p : Int) ≤ (L.length : Int) := by omega
          have p2 : (p : Int) ≤ (co : Int) := by omega
          have p3 : (L.length : Int) ≤ (co : Int) := by omega
          go_wp2_with (at_builtin; first
            | (refine wpList_append_it rfl _ _ rfl wi.heap.size (.slice none 0 0) [] (by rfl) n1 wi.heap.size Ao (L.take (p)) (p) co (by rfl) HT.out (hLi.take (p)) (by simp only [List.length_nil]; rw [← HT.out]; omega) (Nat.le_refl _) ?_
               intro v1 w1 hown1 hg1 hat1
               have b1 : Below wi.heap.size wi w1 := (Below.refl _ _).grown hg1 (Nat.le_refl _) (by simp [Value.ownBlock])
               have z0 := (b1.cell (p := ⟨b, o + k * 2, none⟩) (show b < wi.heap.size by omega)).trans xi0
               have z1 := (b1.cell (p := ⟨b, o + k * 2 + 1, none⟩) (show b < wi.heap.size by omega)).trans xi1
               clear n1)
            | (refine wpList_append_it rfl _ _ rfl wi.heap.size v1 ([] ++ L.take (p)) (by rfl) (hown1.below ((Below.refl _ _).alloc (Nat.le_refl _) _) (Nat.le_refl _)) (w1.heap.size + 1) (some ⟨w1.heap.size, 0, none⟩) [(a1, a2)] 1 1 (by rfl) rfl (Rd.one w1 (a1, a2) _ (by omega))
                 (by simp only [List.nil_append, List.length_cons, List.length_nil]; rw [← HT.out]; omega) (by simp; have := b1.size; omega) ?_
               intro v2 w2 hown2 hg2 hat2
               have b2 : Below wi.heap.size wi w2 := (b1.alloc b1.size _).grown hg2 (by simp; have := b1.size; omega) (fun k hk => hown1.block_ge k hk)
               clear z0 z1)
            | (refine wpList_append_it rfl _ _ rfl wi.heap.size v2 ([] ++ L.take (p) ++ [(a1, a2)]) (by rfl) hown2 wi.heap.size _ (L.drop (p)) (L.length - (p)) (co - (p)) (by rfl) HD.out ((hLi.below b2 (Nat.le_refl _)).drop (p) co hco)
                 (by simp only [List.nil_append, List.length_append, List.length_cons, List.length_nil]; rw [← HT.out, ← HD.out]; omega) b2.size ?_
               intro v3 w3 hown3 hg3 hat3
               have b3 : Below wi.heap.size wi w3 := b2.grown hg3 b2.size (fun k hk => hown2.block_ge k hk)))
          have hins : [] ++ L.take (p) ++ [(a1, a2)] ++ L.drop (p) = insTo xs (k + 1) := by
            rw [insTo, ← HXK.out, ← HL.out]; unfold ins; rw [hP.out]; simp
          rw [hins] at hown3
          clear hins
          go_roundw
          case rel => exact ⟨k + 1, by omega, by go_num, hown3.down hszi, hw2f.trans (b3.mono hszi)⟩
          case measure => simp [intOf]; omega
        · obtain ⟨j, rfl⟩ : ∃ j, p = j + 1 := ⟨p - 1, by omega⟩
          have hjl : j < L.length := by omega
          obtain ⟨b', o', eO, hb', y0, y1⟩ := (hLr.below hgi.below (Nat.le_refl _)).at_ hjl
          obtain ⟨y, hy⟩ : ∃ y, y = L.getD j (0, 0) := ⟨_, rfl⟩
          rw [← hy] at y0 y1
          have HY := Lib.hid hy
          clear hy
          have j1 : (j : Int) < (L.length : Int) := by omega
          have j2 : (0 : Int) ≤ (j : Int) := by omega
          obtain ⟨bb, hbb⟩ : ∃ bb, AheadIs a1 a2 y.1 y.2 bb := ⟨_, rfl⟩
          have hahead : Hid (aheadB (a1, a2) (L.getD j (0, 0)) = bb) := by show _ = _; rw [← HY.out]; exact hbb
          obtain ⟨b1, b2⟩ := y
          simp only at y0 y1 hbb
          subst eO
          go_wp2
          have gx0 := fun n os => cell_grown (a := ⟨b, o + k * 2, none⟩) (show b < wr.heap.size by omega) x0 n os
          have gx1 := fun n os => cell_grown (a := ⟨b, o + k * 2 + 1, none⟩) (show b < wr.heap.size by omega) x1 n os
          have gy0 := fun n os => cell_grown (a := ⟨b', o' + j * 2, none⟩) (show b' < wr.heap.size by omega) y0 n os
          have gy1 := fun n os => cell_grown (a := ⟨b', o' + j * 2 + 1, none⟩) (show b' < wr.heap.size by omega) y1 n os
          refine wp_region_quiet_grown (by kernel_rfl) (by kernel_rfl) ?_
          have hwj : IntKind.i64.wrap (j : Int) = (j : Int) := IntWalk.i64_in _ ⟨by omega, by omega⟩
          repeat (quiet_step ((go_at_call 10; exact Grows.calls (ahead_c _ _ _ _ _ _ hbb))))
          clear hwj
          refine wpQuiet_nil ?_
          intro _ hw'
          obtain ⟨⟨nq, osq⟩, hw''⟩ := hw'
          subst hw''
          have hgi' := hgi.grow nq osq
          clear gx0 gx1 gy0 gy1 y0 y1 hgi hw2 hbb
          cases bb
          · have hP : Hid (pos (a1, a2) L = j + 1) := by show _ = _; unfold pos; rw [hpos.out]; exact posTo_no hahead.out
            have gq : Below wr.heap.size wr (grow (wr.drewN nq) osq) := Grows.below ⟨nq, osq, rfl⟩
            have xi0 := (gq.cell (p := ⟨b, o + k * 2, none⟩) (show b < wr.heap.size by omega)).trans x0
            have xi1 := (gq.cell (p := ⟨b, o + k * 2 + 1, none⟩) (show b < wr.heap.size by omega)).trans x1
            clear gq x0 x1
            have hszi : w.heap.size ≤ (grow (wr.drewN nq) osq).heap.size := Nat.le_trans hbel.size hgi'.below.size
            generalize grow (wr.drewN nq) osq = wi at *
            have hw2f : Below w.heap.size w wi := hbel.trans (hgi'.below.mono hbel.size)
            have hLi : Rd wi wi.heap.size (some ⟨b', o', none⟩) L := (hLr.below hgi'.below (Nat.le_refl _)).more hgi'.below.size
            have HT : Hid (j + 1 = (L.take (j + 1)).length) := by show _ = _; rw [List.length_take]; omega
            have HD : Hid (L.length - (j + 1) = (L.drop (j + 1)).length) := by show _ = _; rw [List.length_drop]
            have n1 := Own.nil wi wi.heap.size
            have p0 : (0 : Int) ≤ ((j : Int) + 1) := by omega
            have p1 : ((j : Int) + 1) ≤ (L.length : Int) := by omega
            have p2 : ((j : Int) + 1) ≤ (co : Int) := by omega
            have p3 : (L.length : Int) ≤ (co : Int) := by omega
            go_wp2_with (at_builtin; first
              | (refine wpList_append_it rfl _ _ rfl wi.heap.size (.slice none 0 0) [] (by rfl) n1 wi.heap.size (some ⟨b', o', none⟩) (L.take (j + 1)) (j + 1) co (by rfl) HT.out (hLi.take (j + 1)) (by simp only [List.length_nil]; rw [← HT.out]; omega) (Nat.le_refl _) ?_
                 intro v1 w1 hown1 hg1 hat1
                 have b1 : Below wi.heap.size wi w1 := (Below.refl _ _).grown hg1 (Nat.le_refl _) (by simp [Value.ownBlock])
                 have z0 := (b1.cell (p := ⟨b, o + k * 2, none⟩) (show b < wi.heap.size by omega)).trans xi0
                 have z1 := (b1.cell (p := ⟨b, o + k * 2 + 1, none⟩) (show b < wi.heap.size by omega)).trans xi1
                 clear n1)
              | (refine wpList_append_it rfl _ _ rfl wi.heap.size v1 ([] ++ L.take (j + 1)) (by rfl) (hown1.below ((Below.refl _ _).alloc (Nat.le_refl _) _) (Nat.le_refl _)) (w1.heap.size + 1) (some ⟨w1.heap.size, 0, none⟩) [(a1, a2)] 1 1 (by rfl) rfl (Rd.one w1 (a1, a2) _ (by omega))
                   (by simp only [List.nil_append, List.length_cons, List.length_nil]; rw [← HT.out]; omega) (by simp; have := b1.size; omega) ?_
                 intro v2 w2 hown2 hg2 hat2
                 have b2 : Below wi.heap.size wi w2 := (b1.alloc b1.size _).grown hg2 (by simp; have := b1.size; omega) (fun k hk => hown1.block_ge k hk)
                 clear z0 z1)
              | (refine wpList_append_it rfl _ _ rfl wi.heap.size v2 ([] ++ L.take (j + 1) ++ [(a1, a2)]) (by rfl) hown2 wi.heap.size _ (L.drop (j + 1)) (L.length - (j + 1)) (co - (j + 1)) (by rfl) HD.out ((hLi.below b2 (Nat.le_refl _)).drop (j + 1) co hco)
                   (by simp only [List.nil_append, List.length_append, List.length_cons, List.length_nil]; rw [← HT.out, ← HD.out]; omega) b2.size ?_
                 intro v3 w3 hown3 hg3 hat3
                 have b3 : Below wi.heap.size wi w3 := b2.grown hg3 b2.size (fun k hk => hown2.block_ge k hk)))
            have hins : [] ++ L.take (j + 1) ++ [(a1, a2)] ++ L.drop (j + 1) = insTo xs (k + 1) := by
              rw [insTo, ← HXK.out, ← HL.out]; unfold ins; rw [hP.out]; simp
            rw [hins] at hown3
            clear hins
            go_roundw
            case rel => exact ⟨k + 1, by omega, by go_num, hown3.down hszi, hw2f.trans (b3.mono hszi)⟩
            case measure => simp [intOf]; omega
          · have hpos2 : Hid (posTo (a1, a2) L L.length = posTo (a1, a2) L j) := by
              show _ = _
              rw [hpos.out]; exact posTo_yes hahead.out
            go_wp2
            go_roundw
            case rel => exact ⟨j, by omega, by go_num, hpos2, hgi'⟩
            case measure => simp [intOf]
    · have hkk : k = xs.length := by omega
      have hfin : Hid (insTo xs k = sortedL xs) := by show _ = _; rw [hkk]; rfl
      clear hx
      subst hkk
      go_wp2
      go_ret
      exact ⟨_, rfl, by rw [← hfin.out]; exact hown, hbel⟩
end Go.Proofs.YtocblnbnifljmaaDoor.Item
