/- item.Compare and whilomref02.Ahead: what each call answers, for all items. -/
import Derived.Test.YtocblnbnifljmaaDoorChecked
import Derived.Test.YtocblnbnifljmaaDoorItemPlain
import Derived.WalkKit
import Derived.WalkSpells
import Derived.WalkLawsBesides
import Derived.Lib.Hide
import Derived.Lib.Small
import Derived.Deep.RegionHeld3
import Derived.Deep.DeepCutAuto
import Derived.Shelf.SlSortCmp.QuietGrown
namespace Go.Proofs.YtocblnbnifljmaaDoor.Item
open Go.Sort Go.RowKit
set_option linter.unusedVariables false

theorem ret_int {k : IntKind} {a b : Int} (h : a = b) : Ending.returned (.int k a) = .returned (.int k b) := by rw [h]
theorem ret_true {c : Bool} (h : c = true) : Ending.returned (.bool c) = .returned (.bool true) := by rw [h]

/-- w' is w with some draws made and some blocks laid behind it -/
def Grows (w w' : World) : Prop := ∃ q os, w' = grow (w.drewN q) os
theorem Grows.refl (w : World) : Grows w w := ⟨0, #[], by rw [grow_empty]; rfl⟩
theorem Grows.trans {a b c : World} (h : Grows a b) (k : Grows b c) : Grows a c := by
  obtain ⟨n, os, rfl⟩ := h
  obtain ⟨m, ot, rfl⟩ := k
  exact ⟨n + m, os ++ ot, by show grow (grow ((a.drewN n).drewN m) os) ot = _; rw [grow_grow, World.drewN_drewN]⟩
theorem Grows.alloc {a b : World} (h : Grows a b) (o : Obj) : Grows a (b.alloc o) := h.trans ⟨0, #[o], by rw [alloc_eq_grow]; rfl⟩
theorem Grows.drewN {a b : World} (h : Grows a b) (n : Nat) : Grows a (b.drewN n) := h.trans ⟨n, #[], by rw [grow_empty]⟩
theorem Grows.drew {a b : World} (h : Grows a b) : Grows a b.drew := h.drewN 1
theorem Grows.grow {a b : World} (h : Grows a b) (q : Nat) (os : Array Obj) : Grows a (Go.Sort.grow (b.drewN q) os) := h.trans ⟨q, os, rfl⟩
theorem Grows.below {w w' : World} (h : Grows w w') : Below w.heap.size w w' := by
  obtain ⟨n, os, rfl⟩ := h
  exact ⟨rfl, rfl, rfl, by simp, fun k hk => heap_grow_old (w.drewN n) os hk⟩
/-- a callee that lays blocks, met in a region that draws its order -/
theorem Grows.calls {P : Program} {f : FuncId} {args : Array Value} {w : World} {n : Nat} {os : Array Obj} {v : Value}
    (h : Calls P f args (Go.Sort.grow (w.drewN n) os) fun e w' => e = .returned v ∧ Grows (Go.Sort.grow (w.drewN n) os) w') : Calls P f args (Go.Sort.grow (w.drewN n) os) fun e w'' => e = .returned v ∧ ∃ p : GrownBy, w'' = Go.Sort.grow (w.drewN p.n) p.os :=
  Calls.grown_of h

/-- the first of two ints that isn't 0 -/
def orI (x y : Int) : Int := if x = 0 then y else x
/-- an item as a value -/
def itemV (x : Int × Int) : Value := .agg #[.int .i64 x.1, .int .i64 x.2]
/-- how two items stand -/
def cmpI (a b : Int × Int) : Int := orI (Lib.compareInt a.1 b.1) (Lib.compareInt a.2 b.2)
theorem cmpI_cases (a b : Int × Int) : (cmpI a b = -1 ∧ (a.1 < b.1 ∨ a.1 = b.1 ∧ a.2 < b.2)) ∨ (cmpI a b = 1 ∧ (b.1 < a.1 ∨ b.1 = a.1 ∧ b.2 < a.2)) ∨ (cmpI a b = 0 ∧ a = b) := by
  unfold cmpI orI Lib.compareInt
  rcases Int.lt_trichotomy a.1 b.1 with h | h | h
  · left; simp [h]
  · rcases Int.lt_trichotomy a.2 b.2 with h2 | h2 | h2
    · left; simp [h, h2]
    · right; right; simp [h, h2]; exact Prod.ext h h2
    · right; left; simp [h, h2]; omega
  · right; left
    have h' : ¬ a.1 < b.1 := by omega
    simp [h, h']

theorem compareInt_any (x y : Int) (w : World) : Calls Tryd.prog 21 #[.int .i64 x, .int .i64 y] w fun e w' => e = .returned (.int .i64 (Lib.compareInt x y)) ∧ w = w' := by
  unfold Lib.compareInt
  by_cases h1 : x < y
  · rw [if_pos h1]
    go_enter Tryd.func21, Tryd.ntmps21
    go_wp2
    go_ret
    exact ⟨rfl, rfl⟩
  · rw [if_neg h1]
    by_cases h2 : y < x
    · rw [if_pos h2]
      go_enter Tryd.func21, Tryd.ntmps21
      go_wp2
      go_ret
      exact ⟨rfl, rfl⟩
    · rw [if_neg h2]
      go_enter Tryd.func21, Tryd.ntmps21
      go_wp2
      go_ret
      exact ⟨rfl, rfl⟩

set_option maxHeartbeats 1000000 in
theorem or_any (b : Nat) (x y : Int) (w : World) (h0 : w.cell? ⟨b, 0, none⟩ = some (.int .i64 x)) (h1 : w.cell? ⟨b, 1, none⟩ = some (.int .i64 y)) :
    Calls Tryd.prog 20 #[.slice (some ⟨b, 0, none⟩) 2 2] w fun e w' => e = .returned (.int .i64 (orI x y)) ∧ w = w' := by
  go_enter Tryd.func20, Tryd.ntmps20
  go_wp2
  go_loop [8] (fun i => ∃ k : Nat, k ≤ 2 ∧ i = .int .i64 k ∧ (0 < k → x = 0) ∧ (1 < k → y = 0)) (fun i => 2 - (intOf i).toNat)
  case atStart => exact ⟨0, by omega, rfl, by omega, by omega⟩
  case round =>
    obtain ⟨k, hk, rfl, k0, k1⟩ := hrel
    by_cases e0 : k = 0
    · subst e0
      clear k0 k1
      by_cases hx : (x == 0) = true
      · have hx' : (x != 0) = false := by simpa using hx
        go_wp2
        go_round
        case rel => exact ⟨1, by omega, rfl, fun _ => by simpa using hx, by omega⟩
        case measure => simp [intOf]
      · have hx' : (x != 0) = true := by simpa using hx
        go_wp2
        go_ret
        exact ⟨ret_int (by unfold orI; rw [if_neg (by simpa using hx)]), rfl⟩
    · by_cases e1 : k = 1
      · subst e1
        have ex := k0 (by omega)
        have HX := Lib.hid ex
        clear ex k0 k1
        by_cases hy : (y == 0) = true
        · have hy' : (y != 0) = false := by simpa using hy
          go_wp2
          go_round
          case rel => exact ⟨2, by omega, rfl, fun _ => HX.out, fun _ => by simpa using hy⟩
          case measure => simp [intOf]
        · have hy' : (y != 0) = true := by simpa using hy
          go_wp2
          go_ret
          exact ⟨ret_int (by unfold orI; rw [if_pos HX.out]), rfl⟩
      · have e2 : k = 2 := by omega
        subst e2
        have HX := Lib.hid (k0 (by omega))
        have HY := Lib.hid (k1 (by omega))
        clear k0 k1
        go_wp2
        go_ret
        exact ⟨ret_int (by unfold orI; rw [if_pos HX.out, HY.out]), rfl⟩

theorem new_third (w : World) (o1 o2 : Obj) (cs : Array Value) (t : TypeId) (i : Nat) : (((w.alloc o1).alloc o2).alloc (.cells cs t)).drew.cell? ⟨w.heap.size + 1 + 1, i, none⟩ = cs[i]? := by
  have hs : ((w.alloc o1).alloc o2).heap.size = w.heap.size + 1 + 1 := by simp
  have h := cell_of_row (((w.alloc o1).alloc o2).alloc (.cells cs t)) ((w.alloc o1).alloc o2).heap.size i cs t (0, 0) (heap_alloc_new _ _)
  rw [hs] at h
  exact h
set_option maxHeartbeats 2000000 in
theorem compare_any (a b : Int × Int) (w : World) : Calls Tryd.prog 9 #[itemV a, itemV b] w fun e w' => e = .returned (.int .i64 (cmpI a b)) ∧ Grows w w' := by
  obtain ⟨x, y⟩ := a
  obtain ⟨u, v⟩ := b
  unfold itemV cmpI
  simp only
  go_enter Tryd.func9, Tryd.ntmps9
  go_wp2_with fail
  go_region_held3 (fun w' => w'.cell? ⟨w.heap.size, 0, none⟩ = some (.int .i64 x) ∧ w'.cell? ⟨w.heap.size, 1, none⟩ = some (.int .i64 y) ∧ w'.cell? ⟨w.heap.size + 1, 0, none⟩ = some (.int .i64 u) ∧ w'.cell? ⟨w.heap.size + 1, 1, none⟩ = some (.int .i64 v))
    (go_keep)
    (first
      | (go_at_call 21; refine (compareInt_any _ _ _).mono ?_; rintro e w' ⟨rfl, rfl⟩)
      | (go_at_call 20; refine (or_any _ (Lib.compareInt x u) (Lib.compareInt y v) _ (by exact new_third _ _ _ _ _ 0) (by exact new_third _ _ _ _ _ 1)).mono ?_; rintro e w' ⟨rfl, rfl⟩))
  go_wp2_with fail
  go_ret
  exact ⟨rfl, ((((Grows.refl w).alloc _).alloc _).alloc _).drew⟩

/-- is a ahead of b? -/
def aheadB (a b : Int × Int) : Bool := decide (a.1 < b.1) || (decide (a.1 = b.1) && decide (a.2 < b.2))
theorem aheadB_iff (a b : Int × Int) : aheadB a b = true ↔ cmpI a b < 0 := by
  unfold aheadB
  rcases cmpI_cases a b with ⟨h, h2⟩ | ⟨h, h2⟩ | ⟨h, h2⟩
  · simp [h]; exact h2
  · simp [h]; omega
  · subst h2; simp [h]
theorem ret_bool {a b : Bool} (h : a = b) : Ending.returned (.bool a) = .returned (.bool b) := by rw [h]
set_option maxHeartbeats 2000000 in
theorem ahead_any (a b : Int × Int) (w : World) : Calls Tryd.prog 10 #[itemV a, itemV b] w fun e w' => e = .returned (.bool (aheadB a b)) ∧ Grows w w' := by
  obtain ⟨x, y⟩ := a
  obtain ⟨u, v⟩ := b
  unfold itemV
  simp only
  by_cases h1 : x < u
  · have e : aheadB (x, y) (u, v) = true := by unfold aheadB; simp [h1]
    have HE := Lib.hid e
    clear e
    go_enter Tryd.func10, Tryd.ntmps10
    go_wp2
    go_ret
    exact ⟨ret_bool HE.out.symm, ((Grows.refl w).alloc _).alloc _⟩
  · by_cases h2 : x = u
    · subst h2
      have e : aheadB (x, y) (x, v) = decide (y < v) := by unfold aheadB; simp
      have HE := Lib.hid e
      clear e
      go_enter Tryd.func10, Tryd.ntmps10
      go_wp2
      all_goals
        go_ret
        exact ⟨ret_bool (by first | (rw [HE.out]; done) | (rw [HE.out]; simp [*]; done)), ((Grows.refl w).alloc _).alloc _⟩
    · have e : aheadB (x, y) (u, v) = false := by unfold aheadB; simp [h1, h2]
      have HE := Lib.hid e
      have h3 : (x == u) = false := beq_eq_false_iff_ne.2 h2
      clear e
      go_enter Tryd.func10, Tryd.ntmps10
      go_wp2
      go_ret
      exact ⟨ret_bool HE.out.symm, ((Grows.refl w).alloc _).alloc _⟩
end Go.Proofs.YtocblnbnifljmaaDoor.Item
