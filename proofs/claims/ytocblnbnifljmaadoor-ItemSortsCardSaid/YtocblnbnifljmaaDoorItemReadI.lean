/- item.Read: what it answers. -/
import Derived.Test.YtocblnbnifljmaaDoorItemText
namespace Go.Proofs.YtocblnbnifljmaaDoor.Item
open Go.Sort Go.RowKit Go.Lib
set_option linter.unusedVariables false

def readO (l : List UInt8) (x : Int × Int) : Option (Int × Int) := if textL x = l then some x else none
theorem readO_yes {l : List UInt8} {x : Int × Int} (h : textL x = l) : readO l x = some x := if_pos h
theorem readO_no {l : List UInt8} {x : Int × Int} (h : ¬ textL x = l) : readO l x = none := if_neg h
/-- an item that was looked for -/
def optV : Option (Int × Int) → Value
  | some x => .tuple #[itemV x, .bool true]
  | none => .tuple #[itemV (0, 0), .bool false]
/-- a block of w's own, its two cells: kept by what is below -/
def Two (W : World) (b : Nat) (x y : Value) : Prop := W.cell? ⟨b, 0, none⟩ = some x ∧ W.cell? ⟨b, 1, none⟩ = some y ∧ W.frozen? ⟨b, 0, none⟩ = false ∧ W.frozen? ⟨b, 1, none⟩ = false ∧ b < W.heap.size
theorem Two.below {W W' : World} {b : Nat} {x y : Value} (h : Two W b x y) {B : Nat} (hb : Below B W W') (hB : b < B) : Two W' b x y :=
  ⟨(hb.cell (p := ⟨b, 0, none⟩) hB).trans h.1, (hb.cell (p := ⟨b, 1, none⟩) hB).trans h.2.1, (hb.frozen (p := ⟨b, 0, none⟩) hB).trans h.2.2.1, (hb.frozen (p := ⟨b, 1, none⟩) hB).trans h.2.2.2.1, Nat.lt_of_lt_of_le h.2.2.2.2 hb.size⟩
theorem Two.new (W : World) (x y : Value) (t : TypeId) : Two (W.alloc (.cells #[x, y] t)) W.heap.size x y := by
  have h := heap_alloc_new W (.cells #[x, y] t)
  refine ⟨?_, ?_, ?_, ?_, by simp⟩
  · exact cell_of_row _ _ 0 _ _ _ h
  · exact cell_of_row _ _ 1 _ _ _ h
  · unfold World.frozen?; rw [h]; rfl
  · unfold World.frozen?; rw [h]; rfl

set_option maxRecDepth 100000 in
set_option maxHeartbeats 2000000 in
theorem read_left (s L R : ByteArray) (b : Bool) (w : World) (hs : s.size ≤ 1000) (hL : L.size ≤ 1000) (hR : R.size ≤ 1000) (hw : Env w) (h : Lib.cut s.data.toList [35] = (L.data.toList, R.data.toList, b))
    (hx : ∀ v, Lib.atoiAll L.data.toList ≠ .ok v) :
    Calls Tryd.prog 17 #[.string s] w fun e w' => e = .returned (optV none) ∧ Below w.heap.size w w' := by
  have HC := Lib.hid h
  clear h
  go_enter Tryd.func17, Tryd.ntmps17
  go_wp2_with fail
  have hw0 : Env (w.alloc (Obj.cells #[Value.int IntKind.i64 0, Value.int IntKind.i64 0] 23)) := hw.grows ((Grows.refl w).alloc _)
  have h2 := Two.new w (.int .i64 0) (.int .i64 0) 23
  have hb0 : Below w.heap.size w (w.alloc (Obj.cells #[Value.int IntKind.i64 0, Value.int IntKind.i64 0] 23)) := (Below.refl _ _).alloc (Nat.le_refl _) _
  generalize w.alloc (Obj.cells #[Value.int IntKind.i64 0, Value.int IntKind.i64 0] 23) = W0 at *
  refine (cut_c s L R b _ hs hw0 HC.out).mono ?_
  rintro e W1 ⟨rfl, b1⟩
  have hw1 := hw0.below b1 (Nat.le_refl _)
  replace h2 := h2.below b1 h2.2.2.2.2
  replace hb0 := hb0.trans (b1.mono hb0.size)
  clear b1 hw0
  go_wp2_with fail
  refine (atoi_no L _ hL hw1 hx).mono ?_
  rintro e W2 ⟨v, N, rfl, b2⟩
  have hw2 := hw1.below b2 (Nat.le_refl _)
  replace h2 := h2.below b2 h2.2.2.2.2
  replace hb0 := hb0.trans (b2.mono hb0.size)
  clear b2 hw1
  go_wp2_with fail
  refine (atoi_any R _ hR hw2).mono ?_
  rintro e W3 ⟨v2, ev, rfl, b3⟩
  replace h2 := h2.below b3 h2.2.2.2.2
  replace hb0 := hb0.trans (b3.mono hb0.size)
  clear b3 hw2
  unfold errV
  obtain ⟨c0, c1, f0, f1, hlt⟩ := h2
  go_wp2
  exact bodyPost_ret (v := optV none) (by simp [optV, itemV, results, Tryd.results17, go_sem, c0, c1]) rfl ⟨rfl, (hb0.setCell (Nat.le_refl _) _).setCell (Nat.le_refl _) _⟩
set_option maxRecDepth 100000 in
set_option maxHeartbeats 2000000 in
theorem read_right (s L R : ByteArray) (b : Bool) (w : World) (hs : s.size ≤ 1000) (hL : L.size ≤ 1000) (hR : R.size ≤ 1000) (hw : Env w) (h : Lib.cut s.data.toList [35] = (L.data.toList, R.data.toList, b))
    (v : Int) (hl : Lib.atoiAll L.data.toList = .ok v) (hx : ∀ v, Lib.atoiAll R.data.toList ≠ .ok v) :
    Calls Tryd.prog 17 #[.string s] w fun e w' => e = .returned (optV none) ∧ Below w.heap.size w w' := by
  have HC := Lib.hid h
  clear h
  have HL := Lib.hid hl
  clear hl
  go_enter Tryd.func17, Tryd.ntmps17
  go_wp2_with fail
  have hw0 : Env (w.alloc (Obj.cells #[Value.int IntKind.i64 0, Value.int IntKind.i64 0] 23)) := hw.grows ((Grows.refl w).alloc _)
  have h2 := Two.new w (.int .i64 0) (.int .i64 0) 23
  have hb0 : Below w.heap.size w (w.alloc (Obj.cells #[Value.int IntKind.i64 0, Value.int IntKind.i64 0] 23)) := (Below.refl _ _).alloc (Nat.le_refl _) _
  generalize w.alloc (Obj.cells #[Value.int IntKind.i64 0, Value.int IntKind.i64 0] 23) = W0 at *
  refine (cut_c s L R b _ hs hw0 HC.out).mono ?_
  rintro e W1 ⟨rfl, b1⟩
  have hw1 := hw0.below b1 (Nat.le_refl _)
  replace h2 := h2.below b1 h2.2.2.2.2
  replace hb0 := hb0.trans (b1.mono hb0.size)
  clear b1 hw0
  go_wp2_with fail
  refine (atoi_ok L v _ hL HL.out).mono ?_
  rintro e W2 ⟨rfl, b2⟩
  have hw2 := hw1.below b2 (Nat.le_refl _)
  replace h2 := h2.below b2 h2.2.2.2.2
  replace hb0 := hb0.trans (b2.mono hb0.size)
  clear b2 hw1
  go_wp2_with fail
  refine (atoi_no R _ hR hw2 hx).mono ?_
  rintro e W3 ⟨v2, N, rfl, b3⟩
  replace h2 := h2.below b3 h2.2.2.2.2
  replace hb0 := hb0.trans (b3.mono hb0.size)
  clear b3 hw2
  unfold errV
  obtain ⟨c0, c1, f0, f1, hlt⟩ := h2
  go_wp2
  exact bodyPost_ret (v := optV none) (by simp [optV, itemV, results, Tryd.results17, go_sem, c0, c1]) rfl ⟨rfl, (hb0.setCell (Nat.le_refl _) _).setCell (Nat.le_refl _) _⟩

set_option maxRecDepth 100000 in
set_option maxHeartbeats 2000000 in
theorem read_ok (s L R : ByteArray) (b : Bool) (w : World) (hs : s.size ≤ 1000) (hL : L.size ≤ 1000) (hR : R.size ≤ 1000) (hw : Env w) (h : Lib.cut s.data.toList [35] = (L.data.toList, R.data.toList, b))
    (v u : Int) (hl : Lib.atoiAll L.data.toList = .ok v) (hr : Lib.atoiAll R.data.toList = .ok u) :
    Calls Tryd.prog 17 #[.string s] w fun e w' => e = .returned (optV (readO s.data.toList (v, u))) ∧ Below w.heap.size w w' := by
  have HC := Lib.hid h
  clear h
  have hvu : inItem (v, u) := ⟨Lib.atoiAll_bounds hl, Lib.atoiAll_bounds hr⟩
  have HL := Lib.hid hl
  have HR := Lib.hid hr
  clear hl hr
  go_enter Tryd.func17, Tryd.ntmps17
  go_wp2_with fail
  have hw0 : Env (w.alloc (Obj.cells #[Value.int IntKind.i64 0, Value.int IntKind.i64 0] 23)) := hw.grows ((Grows.refl w).alloc _)
  have h2 := Two.new w (.int .i64 0) (.int .i64 0) 23
  have hb0 : Below w.heap.size w (w.alloc (Obj.cells #[Value.int IntKind.i64 0, Value.int IntKind.i64 0] 23)) := (Below.refl _ _).alloc (Nat.le_refl _) _
  generalize w.alloc (Obj.cells #[Value.int IntKind.i64 0, Value.int IntKind.i64 0] 23) = W0 at *
  refine (cut_c s L R b _ hs hw0 HC.out).mono ?_
  rintro e W1 ⟨rfl, b1⟩
  have hw1 := hw0.below b1 (Nat.le_refl _)
  replace h2 := h2.below b1 h2.2.2.2.2
  replace hb0 := hb0.trans (b1.mono hb0.size)
  clear b1 hw0
  go_wp2_with fail
  refine (atoi_ok L v _ hL HL.out).mono ?_
  rintro e W2 ⟨rfl, b2⟩
  have hw2 := hw1.below b2 (Nat.le_refl _)
  replace h2 := h2.below b2 h2.2.2.2.2
  replace hb0 := hb0.trans (b2.mono hb0.size)
  clear b2 hw1
  go_wp2_with fail
  refine (atoi_ok R u _ hR HR.out).mono ?_
  rintro e W3 ⟨rfl, b3⟩
  have hw3 := hw2.below b3 (Nat.le_refl _)
  replace h2 := h2.below b3 h2.2.2.2.2
  replace hb0 := hb0.trans (b3.mono hb0.size)
  clear b3 hw2
  go_wp2_with fail
  have hw4 : Env (W3.alloc (Obj.cells #[Value.int IntKind.i64 v, Value.int IntKind.i64 u] 23)) := hw3.grows ((Grows.refl _).alloc _)
  have h3 := Two.new W3 (.int .i64 v) (.int .i64 u) 23
  have b4 : RowKit.Below W3.heap.size W3 (W3.alloc (Obj.cells #[Value.int IntKind.i64 v, Value.int IntKind.i64 u] 23)) := (Below.refl _ _).alloc (Nat.le_refl _) _
  generalize W3.alloc (Obj.cells #[Value.int IntKind.i64 v, Value.int IntKind.i64 u] 23) = W4 at *
  refine (text_any (v, u) _ hvu hw4).mono ?_
  rintro e W5 ⟨rfl, hg⟩
  have b5 := hg.below
  have hlt3 := h2.2.2.2.2
  replace h2 := (h2.below b4 h2.2.2.2.2).below b5 (Nat.lt_of_lt_of_le h2.2.2.2.2 b4.size)
  replace h3 := h3.below b5 h3.2.2.2.2
  replace hb0 := hb0.trans ((b4.trans (b5.mono b4.size)).mono hb0.size)
  clear b4 b5 hg hw4 hw3
  obtain ⟨c0, c1, f0, f1, hlt⟩ := h2
  obtain ⟨d0, d1, g0, g1, hlt'⟩ := h3
  unfold strV
  by_cases he : textL (v, u) = s.data.toList
  · have ht : (!textL (v, u) == s.toList) = false := by rw [ByteArray.toList_eq, he]; simp
    have hpost := Lib.hid (readO_yes he)
    clear he
    generalize textL (v, u) = l at *
    go_wp2
    exact bodyPost_ret (v := optV (some (v, u))) (by simp [optV, itemV, results, Tryd.results17, go_sem, c0, c1]) rfl ⟨by rw [hpost.out], (hb0.setCell (Nat.le_refl _) _).setCell (Nat.le_refl _) _⟩
  · have ht : (!textL (v, u) == s.toList) = true := by rw [ByteArray.toList_eq]; simpa using he
    have hpost := Lib.hid (readO_no he)
    clear he
    generalize textL (v, u) = l at *
    go_wp2
    exact bodyPost_ret (v := optV none) (by simp [optV, itemV, results, Tryd.results17, go_sem, c0, c1]) rfl ⟨by rw [hpost.out], (hb0.setCell (Nat.le_refl _) _).setCell (Nat.le_refl _) _⟩

theorem read_right' (s L R : ByteArray) (b : Bool) (w : World) (hs : s.size ≤ 1000) (hL : L.size ≤ 1000) (hR : R.size ≤ 1000) (hw : Env w) (h : Lib.cut s.data.toList [35] = (L.data.toList, R.data.toList, b))
    (hx : ∀ v, Lib.atoiAll R.data.toList ≠ .ok v) :
    Calls Tryd.prog 17 #[.string s] w fun e w' => e = .returned (optV none) ∧ Below w.heap.size w w' := by
  by_cases h1 : ∃ v, Lib.atoiAll L.data.toList = .ok v
  · obtain ⟨v, h1⟩ := h1
    exact read_right s L R b w hs hL hR hw h v h1 hx
  · exact read_left s L R b w hs hL hR hw h (fun v hv => h1 ⟨v, hv⟩)
theorem size_toList (s : ByteArray) : s.data.toList.length = s.size := Array.length_toList
/-- item.Read: the item whose text s just is -/
theorem read_any (s : ByteArray) (w : World) (hs : s.size ≤ 1000) (hw : Env w) :
    Calls Tryd.prog 17 #[.string s] w fun e w' => e = .returned (optV (readL s.data.toList)) ∧ Below w.heap.size w w' := by
  have hlen := size_toList s
  rcases split35 s.data.toList with hno | ⟨a, r, hs2, hno⟩
  · rw [readL_none _ hno]
    exact read_right' s ⟨s.data.toList.toArray⟩ ⟨#[]⟩ false w hs (by simpa using hs) (by decide) hw (cut35_none _ hno)
      (fun v hv => by cases hv)
  · have hla : (⟨a.toArray⟩ : ByteArray).size ≤ 1000 := by
      rw [hs2, List.length_append] at hlen
      show a.toArray.size ≤ 1000
      simp; omega
    have hlr : (⟨r.toArray⟩ : ByteArray).size ≤ 1000 := by
      rw [hs2, List.length_append, List.length_cons] at hlen
      show r.toArray.size ≤ 1000
      simp; omega
    have hcut : Lib.cut s.data.toList [35] = ((⟨a.toArray⟩ : ByteArray).data.toList, (⟨r.toArray⟩ : ByteArray).data.toList, true) := by
      rw [hs2]; exact cut35_at a r hno
    by_cases h1 : ∃ v, Lib.atoiAll a = .ok v
    · obtain ⟨v, h1⟩ := h1
      by_cases h2 : ∃ u, Lib.atoiAll r = .ok u
      · obtain ⟨u, h2⟩ := h2
        rw [hs2, readL_of_ok a r hno v u h1 h2, ← hs2]
        exact read_ok s ⟨a.toArray⟩ ⟨r.toArray⟩ true w hs hla hlr hw hcut v u h1 h2
      · rw [hs2, readL_right a r hno (fun v hv => h2 ⟨v, hv⟩)]
        exact read_right s ⟨a.toArray⟩ ⟨r.toArray⟩ true w hs hla hlr hw hcut v h1 (fun v hv => h2 ⟨v, hv⟩)
    · rw [hs2, readL_left a r hno (fun v hv => h1 ⟨v, hv⟩)]
      exact read_left s ⟨a.toArray⟩ ⟨r.toArray⟩ true w hs hla hlr hw hcut (fun v hv => h1 ⟨v, hv⟩)
end Go.Proofs.YtocblnbnifljmaaDoor.Item
