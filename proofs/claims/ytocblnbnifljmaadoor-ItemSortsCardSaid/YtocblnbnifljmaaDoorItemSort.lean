/- item.Sorted: what it answers. -/
import Derived.Test.YtocblnbnifljmaaDoorItemAppend
import Derived.Test.YtocblnbnifljmaaDoorItemShelf
namespace Go.Proofs.YtocblnbnifljmaaDoor.Item
open Go.Sort Go.RowKit Go.Lib Go.Shelf
set_option linter.unusedVariables false

/-- an item's two cells -/
def encI (x : It) : List Value := [.int .i64 x.1, .int .i64 x.2]
theorem encI_length (x : It) : (encI x).length = 2 := rfl
theorem encI_one (x : It) : ∀ v ∈ encI x, v.oneCell' = true := by
  intro v hv; simp [encI] at hv; rcases hv with rfl | rfl <;> rfl
theorem lt_eq (x y : It) : ltOf cmpI x y = decide (cmpI x y < 0) := rfl
theorem swoI : SWO (ltOf cmpI) where
  irrefl x := by
    rw [lt_eq]; rcases cmpI_facts x x with ⟨h, k⟩ | ⟨h, k⟩ | ⟨h, k, _⟩ <;> simp <;> omega
  trans x y z h1 h2 := by
    rw [lt_eq] at *
    simp only [decide_eq_true_eq] at *
    have h : leI x z := leI_trans (show leI x y by unfold leI; omega) (show leI y z by unfold leI; omega)
    rcases cmpI_facts x z with ⟨g, k⟩ | ⟨g, k⟩ | ⟨g, k, e⟩
    · omega
    · unfold leI at h; omega
    · subst e
      rcases cmpI_facts x y with ⟨p, q⟩ | ⟨p, q⟩ | ⟨p, q, _⟩ <;> omega
  ntrans x y z h1 h2 := by
    rw [lt_eq] at *
    simp only [decide_eq_false_iff_not] at *
    have a : leI y x := by rcases cmpI_facts x y with ⟨p, q⟩ | ⟨p, q⟩ | ⟨p, q, _⟩ <;> unfold leI <;> omega
    have b : leI z y := by rcases cmpI_facts y z with ⟨p, q⟩ | ⟨p, q⟩ | ⟨p, q, _⟩ <;> unfold leI <;> omega
    have c : leI z x := leI_trans b a
    rcases cmpI_facts x z with ⟨p, q⟩ | ⟨p, q⟩ | ⟨p, q, _⟩ <;> unfold leI at c <;> omega
theorem totI (x y : It) (h1 : ltOf cmpI x y = false) (h2 : ltOf cmpI y x = false) : x = y := by
  rw [lt_eq] at *
  simp only [decide_eq_false_iff_not] at *
  rcases cmpI_facts x y with ⟨p, q⟩ | ⟨p, q⟩ | ⟨p, q, e⟩
  · omega
  · omega
  · exact e
theorem cmpLaysI (blk off size : Nat) (w : World) : CmpLays Tryd.prog 9 #[] encI 2 cmpI blk off size w := fun m os dk _ x y => by
  have h := compare_any x y (sortWorldK encI 2 w blk off m dk os)
  exact h
theorem mergeI (xs : List It) : (xs.toArray.toList.mergeSort fun x y => !(ltOf cmpI) y x) = sortedL xs := by
  have e : xs.toArray.toList = xs := by simp
  rw [e]
  refine mergeSort_eq xs _ (fun a b => ?_)
  rw [lt_eq]
  rcases cmpI_facts a b with ⟨p, q⟩ | ⟨p, q⟩ | ⟨p, q, _⟩ <;> simp [p, q]

/-- an owned row, as the sort's words have it -/
theorem Own.holds {w : World} {base g cap : Nat} {xs : List It} (h : Own w base (.slice (some ⟨g, 0, none⟩) xs.length cap) xs) (hl : 0 < xs.length) : HoldsK encI 2 w g 0 xs.toArray ∧ g < w.heap.size ∧ base ≤ g := by
  rcases h.2 with ⟨e, hn⟩ | ⟨g', cap', cur, e, hb, hh, hnc, hcm, hsz, htake⟩
  · cases e
  · have eg : g' = g := by injection e with e _ _; injection e with e; injection e with e; exact e.symm
    subst eg
    have hlt : g' < w.heap.size := by
      rcases Nat.lt_or_ge g' w.heap.size with h | h
      · exact h
      · rw [Array.getElem?_eq_none h] at hh; cases hh
    refine ⟨fun j hj => ?_, hlt, hb⟩
    have hj2 : j < xs.length * 2 := by simpa [size_flatK] using hj
    have hi : j / 2 < xs.length := by omega
    have hc : w.cell? ⟨g', 0 + j, none⟩ = (flatI xs)[j]? := by
      rw [cell_of_row w g' (0 + j) cur 23 (0, 0) hh, Nat.zero_add, ← Array.getElem?_toList, ← htake, List.getElem?_take, if_pos hj2]
    constructor
    · rw [hc, get_flatK encI 2 xs.toArray j (by simpa using hj2)]
      have ed : xs.toArray[j / 2]! = xs.getD (j / 2) (0, 0) := by
        rw [getD_mem hi, getElem!_pos _ _ (by simpa using hi)]; simp
      rw [ed]
      obtain ⟨f0, f1⟩ := flatI_at xs (j / 2) hi
      rcases Nat.mod_two_eq_zero_or_one j with hm | hm
      · rw [hm, show j = j / 2 * 2 by omega, f0]
        rw [show j / 2 * 2 / 2 = j / 2 by omega]; rfl
      · rw [hm, show j = j / 2 * 2 + 1 by omega, f1]
        rw [show (j / 2 * 2 + 1) / 2 = j / 2 by omega]; rfl
    · unfold World.frozen?
      simp only [hh]
      rfl
theorem Rd.of_holds {w : World} {g B : Nat} {ys : List It} (h : HoldsK encI 2 w g 0 ys.toArray) (hg : g < B) : Rd w B (some ⟨g, 0, none⟩) ys := fun _ => by
  refine ⟨g, 0, rfl, hg, fun j u hu => ?_⟩
  have hj : j < ys.length * 2 := by
    rw [← flatI_length ys]
    exact (List.getElem?_eq_some_iff.1 hu).1
  have hi : j / 2 < ys.length := by omega
  have ed : ys.toArray[j / 2]! = ys.getD (j / 2) (0, 0) := by
    rw [getD_mem hi, getElem!_pos _ _ (by simpa using hi)]; simp
  have hcell := (HoldsK.cell h (i := j / 2) (c := j % 2) (by simpa using hi) (Nat.mod_lt _ (by decide))).1
  rw [ed, show 0 + j / 2 * 2 + j % 2 = 0 + j by omega] at hcell
  rw [hcell]
  obtain ⟨f0, f1⟩ := flatI_at ys (j / 2) hi
  rcases Nat.mod_two_eq_zero_or_one j with hm | hm
  · rw [hm]
    rw [show j = j / 2 * 2 by omega, f0] at hu
    exact hu
  · rw [hm]
    rw [show j = j / 2 * 2 + 1 by omega, f1] at hu
    exact hu
theorem sort_below (w : World) (g n B : Nat) (d : Array It) (os : Array Obj) (hB : B ≤ g) (hg : g < w.heap.size) : Below B w (sortWorldK encI 2 w g 0 n d os) := by
  refine ⟨rfl, rfl, rfl, size_sortWorldK_c encI 2 w g 0 n d os, fun k hk => ?_⟩
  unfold sortWorldK
  rw [heap_grow_old _ _ (by rw [size_putRowK]; simp; omega)]
  simp only [putRowK, putRow, mapBlock, Array.getElem?_modify]
  rw [if_neg (by omega)]
  rfl

/-- what the sort leaves of a row of its own -/
theorem sortf_any (g cap base : Nat) (xs : List It) (w : World) (h : Own w base (.slice (some ⟨g, 0, none⟩) xs.length cap) xs) (hl : 0 < xs.length) (hn : xs.length ≤ 1000) :
    Calls Tryd.prog 24 #[.slice (some ⟨g, 0, none⟩) xs.length cap, .func (.func 9) #[] #[]] w fun e w' =>
      e = .returned (.tuple #[]) ∧ Rd w' w'.heap.size (some ⟨g, 0, none⟩) (sortedL xs) ∧ Below base w w' := by
  obtain ⟨hH, hg, hb⟩ := h.holds hl
  have eg : ∀ args w, (callFunc 9 args).run Tryd.prog w = .ok (.enter 9 args) w := enters_of Tryd.func9 (by kernel_rfl) rfl
  have hcon := AnyQ.slices_SortFunc_total Tryd.sortIt 2 Tryd.isAgg23 Tryd.sizeOf23 encI encI_length encI_one cmpI swoI 9 #[] g 0 cap xs.toArray w eg (cmpLaysI g 0 xs.toArray.size w) hH hg (by simp; omega) totI
  rw [mergeI] at hcon
  have es : xs.toArray.size = xs.length := by simp
  rw [es] at hcon
  refine Calls.mono hcon fun e w' ⟨he, n, os, hw⟩ => ?_
  subst hw
  refine ⟨he, ?_, sort_below w g n base _ os hb hg⟩
  have hk := holdsK_sortWorldK_c encI 2 w g 0 xs.toArray (sortedL xs).toArray n os hH hg (by simp [sortedL_length])
  exact Rd.of_holds hk (Nat.lt_of_lt_of_le hg (size_sortWorldK_c encI 2 w g 0 n _ os))

set_option maxRecDepth 100000 in
set_option maxHeartbeats 4000000 in
theorem sorted_any (A : Option Addr) (xs : List It) (c : Nat) (w : World) (hx : Rd w w.heap.size A xs) (hn : xs.length ≤ 1000) :
    Calls Tryd.prog 15 #[.slice A xs.length c] w fun e w' => ∃ A' c', e = .returned (.slice A' (sortedL xs).length c') ∧ Rd w' w'.heap.size A' (sortedL xs) ∧ Below w.heap.size w w' := by
  have hnil := Own.nil w w.heap.size
  rw [sortedL_length]
  go_enter Tryd.func15, Tryd.ntmps15
  go_wp2_with (at_builtin; refine wpList_append_it rfl _ _ rfl w.heap.size _ [] (by rfl) hnil w.heap.size A xs _ c (by rfl) rfl hx (by simp; omega) (Nat.le_refl _) ?_; intro v1 w1 hown1 hg1 hat1)
  have b1 : Below w.heap.size w w1 := (Below.refl _ _).grown hg1 (Nat.le_refl _) (by simp [Value.ownBlock])
  rw [List.nil_append] at hown1
  by_cases h0 : 0 < xs.length
  · obtain ⟨g, cap, rfl, _, _⟩ := hown1.form' h0
    refine (sortf_any g cap w.heap.size xs w1 hown1 h0 hn).mono ?_
    rintro e w2 ⟨rfl, hrd, b2⟩
    go_wp2_with fail
    go_ret
    exact ⟨_, _, rfl, hrd, b1.trans b2⟩
  · obtain ⟨A1, c1, rfl, _, _, _⟩ := hown1.form
    have hz : xs.length = 0 := by omega
    have hz2 : sortedL xs = [] := List.eq_nil_of_length_eq_zero (by rw [sortedL_length]; exact hz)
    have HZ := Lib.hid hz
    rw [hz] at hown1 ⊢
    clear hz
    refine (AnyF.slices_SortFunc_none Tryd.sortIt A1 c1 (.func (.func 9) #[] #[]) w1).mono ?_
    rintro e w2 ⟨rfl, rfl⟩
    go_wp2_with fail
    go_ret
    exact ⟨A1, c1, by rw [HZ.out]; rfl, by rw [hz2]; intro h; simp at h, b1⟩
end Go.Proofs.YtocblnbnifljmaaDoor.Item
