/- The walks of layer 2's statements on texts: ItemTexts, ItemReads. -/
import Derived.Test.YtocblnbnifljmaaDoorItemAwake
namespace Go.Proofs.YtocblnbnifljmaaDoor.Item
open Go.Sort Go.RowKit Go.Lib
set_option linter.unusedVariables false

set_option maxRecDepth 100000 in
set_option maxHeartbeats 2000000 in
theorem texts_walk (x y : Int) (w : World) (hx : inItem (x, y)) (hw : Env w) :
    Calls Tryd.prog 5 #[.agg #[.int .i64 x, .int .i64 y]] w fun e w' => e = .returned (.bool true) ∧ Below w.heap.size w w' := by
  obtain ⟨T, hT⟩ : ∃ T : ByteArray, T = ⟨(textL (x, y)).toArray⟩ := ⟨_, rfl⟩
  have hl : (textL (x, y)).length ≤ 41 := by
    have h1 := itoa_len x hx.1.1 hx.1.2
    have h2 := itoa_len y hx.2.1 hx.2.2
    unfold textL
    simp only [List.length_append, List.length_cons]
    omega
  have hsz : T.size ≤ 1000 := by
    rw [hT]
    show (textL (x, y)).toArray.size ≤ 1000
    rw [List.size_toArray]; omega
  have hrd : readL T.data.toList = some (x, y) := by rw [hT]; exact readL_textL (x, y) hx.1 hx.2
  have c1 : ∀ W, Env W → Calls Tryd.prog 16 #[.agg #[.int .i64 x, .int .i64 y]] W fun e w' => e = .returned (.string T) ∧ Grows W w' := fun W h => by rw [hT]; exact text_any (x, y) W hx h
  have c2 : ∀ W, Env W → Calls Tryd.prog 17 #[.string T] W fun e w' => e = .returned (.tuple #[.agg #[.int .i64 x, .int .i64 y], .bool true]) ∧ Below W.heap.size W w' := fun W h => by
    have := read_any T W hsz h
    rw [hrd] at this
    exact this
  have c3 : ∀ W, Calls Tryd.prog 18 #[.agg #[.int .i64 x, .int .i64 y]] W fun e w' => e = .returned (.string T) ∧ Grows W w' := fun W => by rw [hT]; exact rtext_any (x, y) W hx
  have C1 := Lib.hid c1
  have C2 := Lib.hid c2
  have C3 := Lib.hid c3
  clear c1 c2 c3 hrd hl hT hx
  go_enter Tryd.func5, Tryd.ntmps5
  go_wp2_with fail
  have hw0 : Env (w.alloc (Obj.cells #[Value.int IntKind.i64 x, Value.int IntKind.i64 y] 23)) := hw.grows ((Grows.refl w).alloc _)
  have h2 := Two.new w (.int .i64 x) (.int .i64 y) 23
  have hb0 : Below w.heap.size w (w.alloc (Obj.cells #[Value.int IntKind.i64 x, Value.int IntKind.i64 y] 23)) := (Below.refl _ _).alloc (Nat.le_refl _) _
  generalize w.alloc (Obj.cells #[Value.int IntKind.i64 x, Value.int IntKind.i64 y] 23) = W0 at *
  refine (awake_any _ hw0).mono ?_
  rintro e W1 ⟨rfl, b1⟩
  have hw1 := hw0.below b1 (Nat.le_refl _)
  replace h2 := h2.below b1 h2.2.2.2.2
  replace hb0 := hb0.trans (b1.mono hb0.size)
  clear b1 hw0
  obtain ⟨c0, c1, f0, f1, hlt⟩ := h2
  have h2 : Two W1 w.heap.size (.int .i64 x) (.int .i64 y) := ⟨c0, c1, f0, f1, hlt⟩
  go_wp2_with fail
  clear c0 c1 f0 f1 hlt
  refine (C1.out _ hw1).mono ?_
  rintro e W2 ⟨rfl, g2⟩
  have b2 := g2.below
  have hw2 := hw1.below b2 (Nat.le_refl _)
  replace h2 := h2.below b2 h2.2.2.2.2
  replace hb0 := hb0.trans (b2.mono hb0.size)
  clear g2 b2 hw1
  go_wp2_with fail
  refine (C2.out _ hw2).mono ?_
  rintro e W3 ⟨rfl, b3⟩
  replace h2 := h2.below b3 h2.2.2.2.2
  replace hb0 := hb0.trans (b3.mono hb0.size)
  clear b3 hw2
  have h3 := Two.new W3 (.int .i64 x) (.int .i64 y) 23
  have hb1 : Below W3.heap.size W3 (W3.alloc (Obj.cells #[Value.int IntKind.i64 x, Value.int IntKind.i64 y] 23)) := (Below.refl _ _).alloc (Nat.le_refl _) _
  have h2' := h2.below hb1 h2.2.2.2.2
  obtain ⟨c0, c1, f0, f1, hlt⟩ := h2
  go_wp2_with fail
  clear c0 c1 f0 f1
  replace hb0 := hb0.trans (hb1.mono hb0.size)
  clear hb1
  generalize W3.alloc (Obj.cells #[Value.int IntKind.i64 x, Value.int IntKind.i64 y] 23) = W4 at *
  refine (C3.out _).mono ?_
  rintro e W5 ⟨rfl, g5⟩
  have b5 := g5.below
  replace h3 := h3.below b5 h3.2.2.2.2
  replace h2' := h2'.below b5 h2'.2.2.2.2
  replace hb0 := hb0.trans (b5.mono hb0.size)
  clear g5 b5
  obtain ⟨c0, c1, f0, f1, hl1⟩ := h2'
  obtain ⟨d0, d1, e0, e1, hl2⟩ := h3
  have heq := item_eql x y x y
  have hE : eqI x y x y = true := by unfold eqI; simp
  rw [hE] at heq
  clear hE
  go_wp2_with fail
  go_ret
  exact ⟨rfl, hb0⟩

theorem optV_form (o : Option (Int × Int)) : ∃ x y b, optV o = .tuple #[.agg #[.int .i64 x, .int .i64 y], .bool b] := by
  cases o with
  | none => exact ⟨0, 0, false, rfl⟩
  | some z => exact ⟨z.1, z.2, true, rfl⟩

set_option maxRecDepth 100000 in
set_option maxHeartbeats 2000000 in
theorem reads_walk (s : ByteArray) (w : World) (hs : s.size ≤ maxLen) (hw : Env w) :
    Calls Tryd.prog 6 #[.string s] w fun e w' => e = .returned (.bool true) ∧ Below w.heap.size w w' := by
  unfold maxLen at hs
  by_cases h200 : 200 < s.size
  · go_enter Tryd.func6, Tryd.ntmps6
    go_wp2_with fail
    refine (awake_any _ hw).mono ?_
    rintro e W1 ⟨rfl, b1⟩
    have hw1 := hw.below b1 (Nat.le_refl _)
    go_wp2_with fail
    refine (awake_any _ hw1).mono ?_
    rintro e W2 ⟨rfl, b2⟩
    go_wp2_with fail
    go_ret
    exact ⟨rfl, b1.trans (b2.mono b1.size)⟩
  · obtain ⟨x, y, b, hV⟩ := optV_form (readL s.data.toList)
    have c2 : ∀ W, Env W → Calls Tryd.prog 17 #[.string s] W fun e w' => e = .returned (.tuple #[.agg #[.int .i64 x, .int .i64 y], .bool b]) ∧ Below W.heap.size W w' := fun W h => by
      have := read_any s W (by omega) h
      rw [hV] at this
      exact this
    have c3 : ∀ W, Calls Tryd.prog 19 #[.string s] W fun e w' => e = .returned (.tuple #[.agg #[.int .i64 x, .int .i64 y], .bool b]) ∧ Below W.heap.size W w' := fun W => by
      have := rread_any s W (by omega)
      rw [hV] at this
      exact this
    have C2 := Lib.hid c2
    have C3 := Lib.hid c3
    clear c2 c3 hV
    go_enter Tryd.func6, Tryd.ntmps6
    go_wp2_with fail
    refine (awake_any _ hw).mono ?_
    rintro e W1 ⟨rfl, b1⟩
    have hw1 := hw.below b1 (Nat.le_refl _)
    go_wp2_with fail
    refine (C2.out _ hw1).mono ?_
    rintro e W2 ⟨rfl, b2⟩
    have hb0 := b1.trans (b2.mono b1.size)
    clear b1 b2 hw1
    have h2 := Two.new W2 (.int .i64 x) (.int .i64 y) 23
    have hb1 : Below W2.heap.size W2 (W2.alloc (Obj.cells #[Value.int IntKind.i64 x, Value.int IntKind.i64 y] 23)) := (Below.refl _ _).alloc (Nat.le_refl _) _
    replace hb0 := hb0.trans (hb1.mono hb0.size)
    clear hb1
    go_wp2_with fail
    generalize W2.alloc (Obj.cells #[Value.int IntKind.i64 x, Value.int IntKind.i64 y] 23) = W3 at *
    refine (C3.out _).mono ?_
    rintro e W4 ⟨rfl, b4⟩
    replace h2 := h2.below b4 h2.2.2.2.2
    replace hb0 := hb0.trans (b4.mono hb0.size)
    clear b4
    have hb1 : Below W4.heap.size W4 (W4.alloc (Obj.cells #[Value.int IntKind.i64 x, Value.int IntKind.i64 y] 23)) := (Below.refl _ _).alloc (Nat.le_refl _) _
    replace hb0 := hb0.trans (hb1.mono hb0.size)
    obtain ⟨c0, c1, f0, f1, hl1⟩ := h2
    have heq := item_eql x y x y
    have hE : eqI x y x y = true := by unfold eqI; simp
    rw [hE] at heq
    clear hE hb1
    go_wp2_with fail
    go_ret
    exact ⟨rfl, hb0⟩
end Go.Proofs.YtocblnbnifljmaaDoor.Item
