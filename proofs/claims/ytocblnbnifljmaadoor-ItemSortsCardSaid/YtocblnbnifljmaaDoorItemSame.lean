/- Slices of items that are read: whilomref02.Same, slices.MinFunc and MaxFunc at item.Compare, item.Least and Most. -/
import Derived.Test.YtocblnbnifljmaaDoorItemOrdPlain
import Derived.Test.YtocblnbnifljmaaDoorItemAwake
namespace Go.Proofs.YtocblnbnifljmaaDoor.Item
open Go.Sort Go.RowKit Go.Lib
set_option linter.unusedVariables false

/-- the cells of a row of items -/
def flatI (xs : List It) : List Value := xs.flatMap fun x => [Value.int .i64 x.1, Value.int .i64 x.2]
theorem flatI_cons (x : It) (xs : List It) : flatI (x :: xs) = Value.int .i64 x.1 :: Value.int .i64 x.2 :: flatI xs := rfl
theorem flatI_append (xs ys : List It) : flatI (xs ++ ys) = flatI xs ++ flatI ys := by unfold flatI; rw [List.flatMap_append]
theorem flatI_length (xs : List It) : (flatI xs).length = xs.length * 2 := by
  induction xs with
  | nil => rfl
  | cons x t ih => rw [flatI_cons]; simp [ih]; omega
theorem flatI_at (xs : List It) : ∀ i, i < xs.length → (flatI xs)[i * 2]? = some (Value.int .i64 (xs.getD i (0, 0)).1) ∧ (flatI xs)[i * 2 + 1]? = some (Value.int .i64 (xs.getD i (0, 0)).2) := by
  induction xs with
  | nil => intro i h; simp at h
  | cons x t ih =>
    intro i h
    rw [flatI_cons]
    cases i with
    | zero => exact ⟨rfl, rfl⟩
    | succ i =>
      have := ih i (by simpa using h)
      rw [show (i + 1) * 2 = i * 2 + 1 + 1 by omega]
      simpa using this
theorem flatI_one (xs : List It) : ∀ u ∈ flatI xs, u.oneCell' = true := by
  intro u hu
  unfold flatI at hu
  obtain ⟨x, _, hx⟩ := List.mem_flatMap.1 hu
  simp only [List.mem_cons, List.not_mem_nil, or_false] at hx
  rcases hx with rfl | rfl <;> rfl

/-- the slice at A reads as xs, in blocks below B -/
def Rd (w : World) (B : Nat) (A : Option Addr) (xs : List It) : Prop :=
  0 < xs.length → ∃ b o, A = some ⟨b, o, none⟩ ∧ b < B ∧ ∀ j u, (flatI xs)[j]? = some u → w.cell? ⟨b, o + j, none⟩ = some u
theorem Rd.below {w w' : World} {B C : Nat} {A : Option Addr} {xs : List It} (h : Rd w B A xs) (hb : Below C w w') (hB : B ≤ C) : Rd w' B A xs := fun hl => by
  obtain ⟨b, o, e, hlt, hc⟩ := h hl
  exact ⟨b, o, e, hlt, fun j u hu => (hb.cell (p := ⟨b, o + j, none⟩) (show b < C by omega)).trans (hc j u hu)⟩
theorem Rd.more {w : World} {B C : Nat} {A : Option Addr} {xs : List It} (h : Rd w B A xs) (hB : B ≤ C) : Rd w C A xs := fun hl => by
  obtain ⟨b, o, e, hlt, hc⟩ := h hl
  exact ⟨b, o, e, by omega, hc⟩
/-- its item at place k -/
theorem Rd.at_ {w : World} {B : Nat} {A : Option Addr} {xs : List It} (h : Rd w B A xs) {k : Nat} (hk : k < xs.length) :
    ∃ b o, A = some ⟨b, o, none⟩ ∧ b < B ∧ w.cell? ⟨b, o + k * 2, none⟩ = some (.int .i64 (xs.getD k (0, 0)).1) ∧ w.cell? ⟨b, o + k * 2 + 1, none⟩ = some (.int .i64 (xs.getD k (0, 0)).2) := by
  obtain ⟨b, o, e, hlt, hc⟩ := h (by omega)
  obtain ⟨f0, f1⟩ := flatI_at xs k hk
  exact ⟨b, o, e, hlt, hc _ _ f0, by rw [Nat.add_assoc]; exact hc _ _ f1⟩

theorem take_same {xs ys : List It} {k : Nat} (h : xs.take k = ys.take k) (hx : k < xs.length) (hy : k < ys.length) (he : xs.getD k (0, 0) = ys.getD k (0, 0)) : xs.take (k + 1) = ys.take (k + 1) := by
  rw [List.take_succ_eq_append_getElem hx, List.take_succ_eq_append_getElem hy, h, ← getD_mem hx, ← getD_mem hy, he]
theorem take_differ {xs ys : List It} {k : Nat} (hx : k < xs.length) (hy : k < ys.length) (he : ¬ xs.getD k (0, 0) = ys.getD k (0, 0)) : ¬ xs = ys := fun e => he (by rw [e])

set_option maxRecDepth 100000 in
set_option maxHeartbeats 2000000 in
theorem same_any (A B : Option Addr) (xs ys : List It) (c d : Nat) (w : World) (hx : Rd w w.heap.size A xs) (hy : Rd w w.heap.size B ys) (hn : xs.length ≤ 1000) (hm : ys.length ≤ 1000) :
    Calls Tryd.prog 14 #[.slice A xs.length c, .slice B ys.length d] w fun e w' => e = .returned (.bool (decide (xs = ys))) ∧ Grows w w' := by
  by_cases hl : xs.length = ys.length
  · have hl1 : ((xs.length : Int) != (ys.length : Int)) = false := by simp [hl]
    have HL := Lib.hid hl
    clear hl
    go_enter Tryd.func14, Tryd.ntmps14
    go_wp2
    go_loopw [5] (fun i wr => ∃ k : Nat, k ≤ xs.length ∧ i = .int .i64 k ∧ Hid (xs.take k = ys.take k) ∧ Grows w wr) (fun i _ => xs.length - (intOf i).toNat)
    case atStart => exact ⟨0, by omega, rfl, by show _ = _; simp, Grows.refl _⟩
    case round =>
      obtain ⟨k, hk, rfl, ht, hg⟩ := hrel
      by_cases hlt : k < xs.length
      · have hlty : k < ys.length := by have := HL.out; omega
        obtain ⟨b, o, rfl, hb, x0, x1⟩ := (hx.below hg.below (Nat.le_refl _)).at_ hlt
        obtain ⟨b', o', rfl, hb', y0, y1⟩ := (hy.below hg.below (Nat.le_refl _)).at_ hlty
        have hsz := hg.below.size
        have k0 : (0 : Int) ≤ (k : Int) := Int.natCast_nonneg _
        have k1 : (k : Int) < (xs.length : Int) := by omega
        have k2 : (k : Int) < (ys.length : Int) := by omega
        by_cases he : xs.getD k (0, 0) = ys.getD k (0, 0)
        · have ht2 : Hid (xs.take (k + 1) = ys.take (k + 1)) := take_same ht.out hlt hlty he
          have hn2 : ∀ W, (binOp .neq 23 (.agg #[.int .i64 (xs.getD k (0, 0)).1, .int .i64 (xs.getD k (0, 0)).2]) (.agg #[.int .i64 (ys.getD k (0, 0)).1, .int .i64 (ys.getD k (0, 0)).2])).run Tryd.prog W = .ok (.bool false) W := fun W => by
            rw [item_neq, eqI_iff (xs.getD k (0, 0)) (ys.getD k (0, 0)), he]; simp
          clear he
          generalize (xs.getD k (0, 0)).1 = p1 at *
          generalize (xs.getD k (0, 0)).2 = p2 at *
          generalize (ys.getD k (0, 0)).1 = q1 at *
          generalize (ys.getD k (0, 0)).2 = q2 at *
          go_wp2
          have gx0 := fun n os => cell_grown (a := ⟨b, o + k * 2, none⟩) (show b < wr.heap.size by omega) x0 n os
          have gx1 := fun n os => cell_grown (a := ⟨b, o + k * 2 + 1, none⟩) (show b < wr.heap.size by omega) x1 n os
          have gy0 := fun n os => cell_grown (a := ⟨b', o' + k * 2, none⟩) (show b' < wr.heap.size by omega) y0 n os
          have gy1 := fun n os => cell_grown (a := ⟨b', o' + k * 2 + 1, none⟩) (show b' < wr.heap.size by omega) y1 n os
          refine wp_region_quiet_grown (by kernel_rfl) (by kernel_rfl) ?_
          repeat (quiet_step (fail))
          refine wpQuiet_nil ?_
          intro _ hw'
          obtain ⟨⟨nq, osq⟩, hw''⟩ := hw'
          subst hw''
          clear gx0 gx1 gy0 gy1 hn2
          go_wp2
          go_roundw
          case rel => exact ⟨k + 1, by omega, by go_num, ht2, hg.grow _ _⟩
          case measure => simp [intOf]; omega
        · have hne : Hid (¬ xs = ys) := take_differ hlt hlty he
          have hn2 : ∀ W, (binOp .neq 23 (.agg #[.int .i64 (xs.getD k (0, 0)).1, .int .i64 (xs.getD k (0, 0)).2]) (.agg #[.int .i64 (ys.getD k (0, 0)).1, .int .i64 (ys.getD k (0, 0)).2])).run Tryd.prog W = .ok (.bool true) W := fun W => by
            rw [item_neq, eqI_iff (xs.getD k (0, 0)) (ys.getD k (0, 0)), decide_eq_false he]; simp
          clear he
          generalize (xs.getD k (0, 0)).1 = p1 at *
          generalize (xs.getD k (0, 0)).2 = p2 at *
          generalize (ys.getD k (0, 0)).1 = q1 at *
          generalize (ys.getD k (0, 0)).2 = q2 at *
          go_wp2
          have gx0 := fun n os => cell_grown (a := ⟨b, o + k * 2, none⟩) (show b < wr.heap.size by omega) x0 n os
          have gx1 := fun n os => cell_grown (a := ⟨b, o + k * 2 + 1, none⟩) (show b < wr.heap.size by omega) x1 n os
          have gy0 := fun n os => cell_grown (a := ⟨b', o' + k * 2, none⟩) (show b' < wr.heap.size by omega) y0 n os
          have gy1 := fun n os => cell_grown (a := ⟨b', o' + k * 2 + 1, none⟩) (show b' < wr.heap.size by omega) y1 n os
          refine wp_region_quiet_grown (by kernel_rfl) (by kernel_rfl) ?_
          repeat (quiet_step (fail))
          refine wpQuiet_nil ?_
          intro _ hw'
          obtain ⟨⟨nq, osq⟩, hw''⟩ := hw'
          subst hw''
          clear gx0 gx1 gy0 gy1 hn2
          go_wp2
          go_ret
          exact ⟨ret_bool (by rw [decide_eq_false hne.out]), hg.grow _ _⟩
      · have hkk : k = xs.length := by omega
        have hall : Hid (xs = ys) := by
          show xs = ys
          have h := ht.out
          rw [List.take_of_length_le (by omega), List.take_of_length_le (by have := HL.out; omega)] at h
          exact h
        subst hkk
        go_wp2
        go_ret
        exact ⟨ret_bool (by rw [decide_eq_true hall.out]), hg⟩
  · have hl1 : ((xs.length : Int) != (ys.length : Int)) = true := by rw [bne_iff_ne]; omega
    have hne : Hid (¬ xs = ys) := fun e => hl (by rw [e])
    clear hl
    go_enter Tryd.func14, Tryd.ntmps14
    go_wp2
    go_ret
    exact ⟨ret_bool (by rw [decide_eq_false hne.out]), Grows.refl _⟩
end Go.Proofs.YtocblnbnifljmaaDoor.Item
