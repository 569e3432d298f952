/- The walks of layer 2's statements on the order: ItemOrders, ItemApart. -/
import Derived.Test.YtocblnbnifljmaaDoorItemAwake
namespace Go.Proofs.YtocblnbnifljmaaDoor.Item
open Go.Sort Go.RowKit Go.Lib
set_option linter.unusedVariables false

/-- c is how (x, y) and (u, v) stand -/
def CmpIs (x y u v c : Int) : Prop := cmpI (x, y) (u, v) = c
theorem compare_c (x y u v c : Int) (W : World) (h : CmpIs x y u v c) :
    Calls Tryd.prog 9 #[.agg #[.int .i64 x, .int .i64 y], .agg #[.int .i64 u, .int .i64 v]] W fun e w' => e = .returned (.int .i64 c) ∧ Grows W w' := by
  have := compare_any (x, y) (u, v) W
  rw [h] at this
  exact this
def AheadIs (x y u v : Int) (b : Bool) : Prop := aheadB (x, y) (u, v) = b
theorem ahead_c (x y u v : Int) (b : Bool) (W : World) (h : AheadIs x y u v b) :
    Calls Tryd.prog 10 #[.agg #[.int .i64 x, .int .i64 y], .agg #[.int .i64 u, .int .i64 v]] W fun e w' => e = .returned (.bool b) ∧ Grows W w' := by
  have := ahead_any (x, y) (u, v) W
  rw [h] at this
  exact this
def TextIs (x y : Int) (A : ByteArray) : Prop := A = ⟨(textL (x, y)).toArray⟩ ∧ inItem (x, y)
theorem text_c (x y : Int) (A : ByteArray) (W : World) (h : TextIs x y A) (he : Env W) :
    Calls Tryd.prog 16 #[.agg #[.int .i64 x, .int .i64 y]] W fun e w' => e = .returned (.string A) ∧ Grows W w' := by
  obtain ⟨rfl, hx⟩ := h
  exact text_any (x, y) W hx he

theorem Two.grown {W : World} {b : Nat} {x y : Value} (h : Two W b x y) : (∀ n os, (grow (W.drewN n) os).cell? ⟨b, 0, none⟩ = some x) ∧ (∀ n os, (grow (W.drewN n) os).cell? ⟨b, 1, none⟩ = some y) :=
  ⟨fun n os => cell_grown h.2.2.2.2 h.1 n os, fun n os => cell_grown h.2.2.2.2 h.2.1 n os⟩

/-- what three comparisons come to -/
theorem cmp_three (a b : Int × Int) : (cmpI a b = 1 ∧ aheadB a b = false ∧ aheadB b a = true) ∨
    ((cmpI a b = 0 ∧ aheadB a b = false ∧ aheadB b a = false) ∨ (cmpI a b = -1 ∧ aheadB a b = true ∧ aheadB b a = false)) := by
  have e1 : ∀ a b, aheadB a b = decide (cmpI a b < 0) := fun a b => by
    cases h : aheadB a b
    · have : ¬ cmpI a b < 0 := fun hc => by rw [(aheadB_iff a b).2 hc] at h; cases h
      simp; omega
    · have := (aheadB_iff a b).1 h; simp; omega
  rw [e1, e1]
  rcases cmpI_cases a b with ⟨h, h2⟩ | ⟨h, h2⟩ | ⟨h, h2⟩ <;> rcases cmpI_cases b a with ⟨g, g2⟩ | ⟨g, g2⟩ | ⟨g, g2⟩ <;> simp [h, g] <;> (first | omega | (subst h2; omega) | (subst g2; omega) | skip)
theorem cmp_trans (a b c : Int × Int) (hx : cmpI a b = 0 ∨ cmpI a b = -1) (hy : cmpI b c = 0 ∨ cmpI b c = -1) :
    (cmpI a b = 0 ∧ cmpI b c = 0 ∧ cmpI a c = 0) ∨ ((cmpI a b = -1 ∨ cmpI b c = -1) ∧ cmpI a c = -1) := by
  rcases cmpI_cases a b with ⟨h, h2⟩ | ⟨h, h2⟩ | ⟨h, h2⟩ <;> rcases cmpI_cases b c with ⟨g, g2⟩ | ⟨g, g2⟩ | ⟨g, g2⟩ <;> rcases cmpI_cases a c with ⟨k, k2⟩ | ⟨k, k2⟩ | ⟨k, k2⟩ <;>
    simp [h, g, k] <;> (first | omega | (subst h2; omega) | (subst g2; omega) | (subst k2; omega) | (subst h2; subst g2; omega) | (subst h2; subst g2; simp_all))

set_option maxRecDepth 100000 in
set_option maxHeartbeats 4000000 in
/-- ItemOrders, once the comparisons are known -/
theorem orders_core (a1 a2 b1 b2 c1 c2 x y z : Int) (p q : Bool) (w : World) (hw : Env w) (hx : CmpIs a1 a2 b1 b2 x) (hy : CmpIs b1 b2 c1 c2 y) (hz : CmpIs a1 a2 c1 c2 z)
    (hp : AheadIs a1 a2 b1 b2 p) (hq : AheadIs b1 b2 a1 a2 q)
    (hall : (x = 1 ∧ p = false ∧ q = true) ∨ (x = 0 ∧ p = false ∧ q = false ∧ y = 1) ∨ (x = -1 ∧ p = true ∧ q = false ∧ y = 1) ∨ (x = 0 ∧ p = false ∧ q = false ∧ y = 0 ∧ z = 0) ∨
      (x = 0 ∧ p = false ∧ q = false ∧ y = -1 ∧ z = -1) ∨ (x = -1 ∧ p = true ∧ q = false ∧ y = 0 ∧ z = -1) ∨ (x = -1 ∧ p = true ∧ q = false ∧ y = -1 ∧ z = -1)) :
    Calls Tryd.prog 3 #[.agg #[.int .i64 a1, .int .i64 a2], .agg #[.int .i64 b1, .int .i64 b2], .agg #[.int .i64 c1, .int .i64 c2]] w fun e w' => e = .returned (.bool true) ∧ Below w.heap.size w w' := by
  have HALL := Lib.hid hall
  clear hall
  go_enter Tryd.func3, Tryd.ntmps3
  go_wp2_with fail
  have g0 : Grows w (((w.alloc (Obj.cells #[Value.int IntKind.i64 a1, Value.int IntKind.i64 a2] 23)).alloc (Obj.cells #[Value.int IntKind.i64 b1, Value.int IntKind.i64 b2] 23)).alloc (Obj.cells #[Value.int IntKind.i64 c1, Value.int IntKind.i64 c2] 23)) := (((Grows.refl w).alloc _).alloc _).alloc _
  have hw0 := hw.grows g0
  have hb0 := g0.below
  have t1 := Two.new w (.int .i64 a1) (.int .i64 a2) 23
  have t2 := Two.new (w.alloc (Obj.cells #[Value.int IntKind.i64 a1, Value.int IntKind.i64 a2] 23)) (.int .i64 b1) (.int .i64 b2) 23
  have t3 := Two.new ((w.alloc (Obj.cells #[Value.int IntKind.i64 a1, Value.int IntKind.i64 a2] 23)).alloc (Obj.cells #[Value.int IntKind.i64 b1, Value.int IntKind.i64 b2] 23)) (.int .i64 c1) (.int .i64 c2) 23
  replace t1 := (t1.below ((Below.refl _ _).alloc (Nat.le_refl _) (Obj.cells #[Value.int IntKind.i64 b1, Value.int IntKind.i64 b2] 23)) t1.2.2.2.2)
  replace t1 := (t1.below ((Below.refl _ _).alloc (Nat.le_refl _) (Obj.cells #[Value.int IntKind.i64 c1, Value.int IntKind.i64 c2] 23)) t1.2.2.2.2)
  replace t2 := (t2.below ((Below.refl _ _).alloc (Nat.le_refl _) (Obj.cells #[Value.int IntKind.i64 c1, Value.int IntKind.i64 c2] 23)) t2.2.2.2.2)
  have es1 : (w.alloc (Obj.cells #[Value.int IntKind.i64 a1, Value.int IntKind.i64 a2] 23)).heap.size = w.heap.size + 1 := by simp
  have es2 : ((w.alloc (Obj.cells #[Value.int IntKind.i64 a1, Value.int IntKind.i64 a2] 23)).alloc (Obj.cells #[Value.int IntKind.i64 b1, Value.int IntKind.i64 b2] 23)).heap.size = w.heap.size + 1 + 1 := by simp
  rw [es1] at t2
  rw [es2] at t3
  clear es1 es2 g0
  generalize (((w.alloc (Obj.cells #[Value.int IntKind.i64 a1, Value.int IntKind.i64 a2] 23)).alloc (Obj.cells #[Value.int IntKind.i64 b1, Value.int IntKind.i64 b2] 23)).alloc (Obj.cells #[Value.int IntKind.i64 c1, Value.int IntKind.i64 c2] 23)) = W0 at *
  refine (awake_any _ hw0).mono ?_
  rintro e W1 ⟨rfl, b1⟩
  replace t1 := t1.below b1 t1.2.2.2.2
  replace t2 := t2.below b1 t2.2.2.2.2
  replace t3 := t3.below b1 t3.2.2.2.2
  replace hb0 := hb0.trans (b1.mono hb0.size)
  clear b1 hw0 hw
  obtain ⟨ca, cb⟩ := t1.grown
  obtain ⟨cc, cd⟩ := t2.grown
  obtain ⟨ce, cf⟩ := t3.grown
  go_wp2_with fail
  refine wp_region_quiet_grown (by kernel_rfl) (by kernel_rfl) ?_
  repeat (quiet_step ((go_at_call 9; exact Grows.calls (compare_c _ _ _ _ _ _ (by first | exact hx | exact hy | exact hz)))))
  refine wpQuiet_nil ?_
  intro _ hw'
  obtain ⟨⟨nq, osq⟩, hw''⟩ := hw'
  subst hw''
  have gq : Grows W1 (grow (W1.drewN nq) osq) := ⟨nq, osq, rfl⟩
  replace t1 := t1.below gq.below t1.2.2.2.2
  replace t2 := t2.below gq.below t2.2.2.2.2
  replace hb0 := hb0.trans (gq.below.mono hb0.size)
  clear ca cb cc cd ce cf gq t3
  generalize grow (W1.drewN nq) osq = W2 at *
  have t1' := t1
  have t2' := t2
  obtain ⟨c0, c1, f0, f1, hl1⟩ := t1
  obtain ⟨d0, d1, e0, e1, hl2⟩ := t2
  rcases HALL.out with ⟨rfl, rfl, rfl⟩ | ⟨rfl, rfl, rfl, rfl⟩ | ⟨rfl, rfl, rfl, rfl⟩ | ⟨rfl, rfl, rfl, rfl, rfl⟩ | ⟨rfl, rfl, rfl, rfl, rfl⟩ | ⟨rfl, rfl, rfl, rfl, rfl⟩ | ⟨rfl, rfl, rfl, rfl, rfl⟩
  all_goals
    clear HALL
    go_wp2_with fail
    refine (ahead_c _ _ _ _ _ _ hp).mono ?_
    rintro e W3 ⟨rfl, g3⟩
    clear c0 c1 f0 f1 hl1 d0 d1 e0 e1 hl2
    replace t1' := t1'.below g3.below t1'.2.2.2.2
    replace t2' := t2'.below g3.below t2'.2.2.2.2
    replace hb0 := hb0.trans (g3.below.mono hb0.size)
    clear g3
    obtain ⟨c0, c1, f0, f1, hl1⟩ := t1'
    obtain ⟨d0, d1, e0, e1, hl2⟩ := t2'
    go_wp2_with fail
    refine (ahead_c _ _ _ _ _ _ hq).mono ?_
    rintro e W4 ⟨rfl, g4⟩
    clear c0 c1 f0 f1 hl1 d0 d1 e0 e1 hl2
    replace hb0 := hb0.trans (g4.below.mono hb0.size)
    clear g4
    go_wp2_with fail
    go_ret
    exact ⟨rfl, hb0⟩

theorem orders_walk (a1 a2 b1 b2 c1 c2 : Int) (w : World) (hw : Env w) :
    Calls Tryd.prog 3 #[.agg #[.int .i64 a1, .int .i64 a2], .agg #[.int .i64 b1, .int .i64 b2], .agg #[.int .i64 c1, .int .i64 c2]] w fun e w' => e = .returned (.bool true) ∧ Below w.heap.size w w' := by
  refine orders_core a1 a2 b1 b2 c1 c2 _ _ _ _ _ w hw rfl rfl rfl rfl rfl ?_
  have h1 := cmp_three (a1, a2) (b1, b2)
  have h2 := cmp_three (b1, b2) (c1, c2)
  rcases h1 with ⟨hx, hp, hq⟩ | ⟨hx, hp, hq⟩ | ⟨hx, hp, hq⟩
  · exact Or.inl ⟨hx, hp, hq⟩
  · rcases h2 with ⟨hy, _, _⟩ | ⟨hy, _, _⟩ | ⟨hy, _, _⟩
    · exact Or.inr (Or.inl ⟨hx, hp, hq, hy⟩)
    · have h3 := cmp_trans (a1, a2) (b1, b2) (c1, c2) (Or.inl hx) (Or.inl hy)
      have hz : cmpI (a1, a2) (c1, c2) = 0 := by omega
      exact Or.inr (Or.inr (Or.inr (Or.inl ⟨hx, hp, hq, hy, hz⟩)))
    · have h3 := cmp_trans (a1, a2) (b1, b2) (c1, c2) (Or.inl hx) (Or.inr hy)
      have hz : cmpI (a1, a2) (c1, c2) = -1 := by omega
      exact Or.inr (Or.inr (Or.inr (Or.inr (Or.inl ⟨hx, hp, hq, hy, hz⟩))))
  · rcases h2 with ⟨hy, _, _⟩ | ⟨hy, _, _⟩ | ⟨hy, _, _⟩
    · exact Or.inr (Or.inr (Or.inl ⟨hx, hp, hq, hy⟩))
    · have h3 := cmp_trans (a1, a2) (b1, b2) (c1, c2) (Or.inr hx) (Or.inl hy)
      have hz : cmpI (a1, a2) (c1, c2) = -1 := by omega
      exact Or.inr (Or.inr (Or.inr (Or.inr (Or.inr (Or.inl ⟨hx, hp, hq, hy, hz⟩)))))
    · have h3 := cmp_trans (a1, a2) (b1, b2) (c1, c2) (Or.inr hx) (Or.inr hy)
      have hz : cmpI (a1, a2) (c1, c2) = -1 := by omega
      exact Or.inr (Or.inr (Or.inr (Or.inr (Or.inr (Or.inr ⟨hx, hp, hq, hy, hz⟩)))))

/-- what two items come to -/
theorem cmp_pair (a b : Int × Int) : (a = b ∧ cmpI a b = 0 ∧ cmpI b a = 0) ∨ (a ≠ b ∧ ((cmpI a b = 1 ∧ cmpI b a = -1) ∨ (cmpI a b = -1 ∧ cmpI b a = 1))) := by
  rcases cmpI_cases a b with ⟨h, h2⟩ | ⟨h, h2⟩ | ⟨h, h2⟩ <;> rcases cmpI_cases b a with ⟨g, g2⟩ | ⟨g, g2⟩ | ⟨g, g2⟩
  all_goals first
    | (exfalso; omega)
    | (right; exact ⟨fun e => by subst e; omega, by omega⟩)
    | (exfalso; subst g2; omega)
    | (exfalso; subst h2; omega)
    | (left; exact ⟨h2, h, g⟩)

set_option maxRecDepth 100000 in
set_option maxHeartbeats 4000000 in
theorem apart_core (a1 a2 b1 b2 c d : Int) (p : Bool) (A B : ByteArray) (w : World) (hw : Env w) (hA : TextIs a1 a2 A) (hB : TextIs b1 b2 B) (hc : CmpIs a1 a2 b1 b2 c) (hd : CmpIs b1 b2 a1 a2 d)
    (he : eqI a1 a2 b1 b2 = p) (hs : (A.toList == B.toList) = p) (hall : (p = true ∧ c = 0 ∧ d = 0) ∨ (p = false ∧ c = 1 ∧ d = -1) ∨ (p = false ∧ c = -1 ∧ d = 1)) :
    Calls Tryd.prog 7 #[.agg #[.int .i64 a1, .int .i64 a2], .agg #[.int .i64 b1, .int .i64 b2]] w fun e w' => e = .returned (.bool true) ∧ Below w.heap.size w w' := by
  have HALL := Lib.hid hall
  have heq := item_eql a1 a2 b1 b2
  rw [he] at heq
  have HS := Lib.hid hs
  clear hall he hs
  go_enter Tryd.func7, Tryd.ntmps7
  go_wp2_with fail
  have g0 : Grows w ((w.alloc (Obj.cells #[Value.int IntKind.i64 a1, Value.int IntKind.i64 a2] 23)).alloc (Obj.cells #[Value.int IntKind.i64 b1, Value.int IntKind.i64 b2] 23)) := ((Grows.refl w).alloc _).alloc _
  have hw0 := hw.grows g0
  have hb0 := g0.below
  have t1 := Two.new w (.int .i64 a1) (.int .i64 a2) 23
  have t2 := Two.new (w.alloc (Obj.cells #[Value.int IntKind.i64 a1, Value.int IntKind.i64 a2] 23)) (.int .i64 b1) (.int .i64 b2) 23
  replace t1 := (t1.below ((Below.refl _ _).alloc (Nat.le_refl _) (Obj.cells #[Value.int IntKind.i64 b1, Value.int IntKind.i64 b2] 23)) t1.2.2.2.2)
  have es1 : (w.alloc (Obj.cells #[Value.int IntKind.i64 a1, Value.int IntKind.i64 a2] 23)).heap.size = w.heap.size + 1 := by simp
  rw [es1] at t2
  clear es1 g0
  generalize ((w.alloc (Obj.cells #[Value.int IntKind.i64 a1, Value.int IntKind.i64 a2] 23)).alloc (Obj.cells #[Value.int IntKind.i64 b1, Value.int IntKind.i64 b2] 23)) = W0 at *
  refine (awake_any _ hw0).mono ?_
  rintro e W1 ⟨rfl, b1⟩
  have hw1 := hw0.below b1 (Nat.le_refl _)
  replace t1 := t1.below b1 t1.2.2.2.2
  replace t2 := t2.below b1 t2.2.2.2.2
  replace hb0 := hb0.trans (b1.mono hb0.size)
  clear b1 hw0 hw
  have henv : ∀ n os, Env (grow (W1.drewN n) os) := fun n os => hw1.grows ⟨n, os, rfl⟩
  obtain ⟨ca, cb⟩ := t1.grown
  obtain ⟨cc, cd⟩ := t2.grown
  rcases HALL.out with ⟨rfl, rfl, rfl⟩ | ⟨rfl, rfl, rfl⟩ | ⟨rfl, rfl, rfl⟩
  all_goals
    have hs := HS.out
    clear HALL HS
    go_wp2_with fail
    refine wp_region_quiet_grown (by kernel_rfl) (by kernel_rfl) ?_
    repeat (quiet_step (first
      | (go_at_call 16; exact Grows.calls (text_c _ _ _ _ (by first | exact hA | exact hB) (henv _ _)))
      | (go_at_call 9; exact Grows.calls (compare_c _ _ _ _ _ _ (by first | exact hc | exact hd)))))
    refine wpQuiet_nil ?_
    intro _ hw'
    obtain ⟨⟨nq, osq⟩, hw''⟩ := hw'
    subst hw''
    have gq : Grows W1 (grow (W1.drewN nq) osq) := ⟨nq, osq, rfl⟩
    replace hb0 := hb0.trans (gq.below.mono hb0.size)
    go_wp2_with fail
    go_ret
    exact ⟨rfl, hb0⟩

theorem text_beq (a b : List UInt8) : ((⟨a.toArray⟩ : ByteArray).toList == (⟨b.toArray⟩ : ByteArray).toList) = decide (a = b) := by
  rw [ByteArray.toList_eq, ByteArray.toList_eq]
  show (a == b) = decide (a = b)
  by_cases h : a = b <;> simp [h]
theorem apart_walk (a1 a2 b1 b2 : Int) (w : World) (ha : inItem (a1, a2)) (hb : inItem (b1, b2)) (hw : Env w) :
    Calls Tryd.prog 7 #[.agg #[.int .i64 a1, .int .i64 a2], .agg #[.int .i64 b1, .int .i64 b2]] w fun e w' => e = .returned (.bool true) ∧ Below w.heap.size w w' := by
  have hE := eqI_iff (a1, a2) (b1, b2)
  rcases cmp_pair (a1, a2) (b1, b2) with ⟨h, hc, hd⟩ | ⟨h, hcd⟩
  · refine apart_core a1 a2 b1 b2 _ _ true _ _ w hw ⟨rfl, ha⟩ ⟨rfl, hb⟩ rfl rfl ?_ ?_ (Or.inl ⟨rfl, hc, hd⟩)
    · simpa [h] using hE
    · rw [text_beq, h]; simp
  · have ht : textL (a1, a2) ≠ textL (b1, b2) := fun e => h (textL_inj ha.1 ha.2 hb.1 hb.2 e)
    refine apart_core a1 a2 b1 b2 _ _ false _ _ w hw ⟨rfl, ha⟩ ⟨rfl, hb⟩ rfl rfl ?_ ?_ (Or.inr ?_)
    · rw [show eqI a1 a2 b1 b2 = decide ((a1, a2) = (b1, b2)) from hE]; simpa using h
    · rw [text_beq]; simpa using ht
    · rcases hcd with ⟨hc, hd⟩ | ⟨hc, hd⟩
      · exact Or.inl ⟨rfl, hc, hd⟩
      · exact Or.inr ⟨rfl, hc, hd⟩
end Go.Proofs.YtocblnbnifljmaaDoor.Item
