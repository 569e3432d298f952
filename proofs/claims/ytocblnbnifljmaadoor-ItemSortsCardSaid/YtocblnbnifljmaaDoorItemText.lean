/- item.Text and item.Read: what they answer, where the library's variables hold what the program's text lays. -/
import Derived.Test.YtocblnbnifljmaaDoorItemRead
import Derived.Test.YtocblnbnifljmaaDoorItemShelf
import Derived.WalkSmall
import Derived.Lib.SmallJoins
namespace Go.Proofs.YtocblnbnifljmaaDoor.Item
open Go.Sort Go.RowKit Go.Lib
set_option linter.unusedVariables false

theorem gTab : Tryd.prog.globalNamed "internal/strconv.uint64pow10" = some 3 := by kernel_rfl
theorem gSyn : Tryd.prog.globalNamed "strconv.ErrSyntax" = some 1 := by kernel_rfl
theorem gRng : Tryd.prog.globalNamed "strconv.ErrRange" = some 2 := by kernel_rfl
/-- what the library's variables hold -/
def Env (w : World) : Prop := Lib.TabIs Tryd.prog w "internal/strconv.uint64pow10" .u64 Lib.pow10Tab ∧ (∃ tp p, w.var? Tryd.prog "strconv.ErrSyntax" = some #[.iface tp p]) ∧
  (∃ tp p, w.var? Tryd.prog "strconv.ErrRange" = some #[.iface tp p]) ∧ ∃ m : Int, w.cell? ⟨0, 0, none⟩ = some (.int .i64 m)
theorem var?_lt {P : Program} {w : World} {n : String} {g : Nat} {cs : Array Value} (hg : P.globalNamed n = some g) (h : w.var? P n = some cs) : g < w.heap.size := by
  unfold World.var? at h
  simp only [hg, Option.bind_some] at h
  rcases Nat.lt_or_ge g w.heap.size with h' | h'
  · exact h'
  · simp [Array.getElem?_eq_none h'] at h
theorem Env.below {w w' : World} {B : Nat} (h : Env w) (hb : Below B w w') (hB : w.heap.size ≤ B) : Env w' := by
  obtain ⟨ht, ⟨tp, p, hy⟩, ⟨tr, q, hr⟩, m, hm⟩ := h
  have l0 := World.block_lt_of_cell? w _ hm
  exact ⟨var?_below hb gTab (Nat.lt_of_lt_of_le (var?_lt gTab ht) hB) ht, ⟨tp, p, var?_below hb gSyn (Nat.lt_of_lt_of_le (var?_lt gSyn hy) hB) hy⟩, ⟨tr, q, var?_below hb gRng (Nat.lt_of_lt_of_le (var?_lt gRng hr) hB) hr⟩, m, (hb.cell (Nat.lt_of_lt_of_le l0 hB)).trans hm⟩
theorem Env.grows {w w' : World} (h : Env w) (hg : Grows w w') : Env w' := h.below hg.below (Nat.le_refl _)

theorem itoa_c (n : Int) (A : ByteArray) (W : World) (h : NumIs n A) (he : Env W) :
    Calls Tryd.prog 25 #[.int .i64 n] W fun e w' => e = .returned (.string A) ∧ Grows W w' := by
  obtain ⟨rfl, h0, h1⟩ := h
  exact Tryd.strconv_Itoa n h0 h1 W he.1

set_option maxRecDepth 100000 in
set_option maxHeartbeats 2000000 in
theorem text_any (x : Int × Int) (w : World) (hx : inItem x) (hw : Env w) :
    Calls Tryd.prog 16 #[itemV x] w fun e w' => e = .returned (strV (textL x)) ∧ Grows w w' := by
  obtain ⟨A, B, S, T, hA, hB, HT, hadd1, hadd2⟩ := text_sums x hx
  obtain ⟨a, b⟩ := x
  unfold itemV
  simp only at hA hB ⊢
  clear hx
  go_enter Tryd.func16, Tryd.ntmps16
  go_wp2_with fail
  have hc0 : ∀ n os, (grow ((w.alloc (Obj.cells #[Value.int IntKind.i64 a, Value.int IntKind.i64 b] 23)).drewN n) os).cell? ⟨w.heap.size, 0, none⟩ = some (Value.int IntKind.i64 a) :=
    fun n os => cell_grown (by simp) (by have h := cell_of_row (w.alloc (Obj.cells #[Value.int IntKind.i64 a, Value.int IntKind.i64 b] 23)) w.heap.size 0 _ _ (0, 0) (heap_alloc_new _ _); exact h) n os
  have hc1 : ∀ n os, (grow ((w.alloc (Obj.cells #[Value.int IntKind.i64 a, Value.int IntKind.i64 b] 23)).drewN n) os).cell? ⟨w.heap.size, 1, none⟩ = some (Value.int IntKind.i64 b) :=
    fun n os => cell_grown (by simp) (by have h := cell_of_row (w.alloc (Obj.cells #[Value.int IntKind.i64 a, Value.int IntKind.i64 b] 23)) w.heap.size 1 _ _ (0, 0) (heap_alloc_new _ _); exact h) n os
  have henv : ∀ n os, Env (grow ((w.alloc (Obj.cells #[Value.int IntKind.i64 a, Value.int IntKind.i64 b] 23)).drewN n) os) := fun n os => hw.grows (((Grows.refl w).alloc _).grow n os)
  refine wp_region_quiet_grown (by kernel_rfl) (by kernel_rfl) ?_
  repeat (quiet_step ((go_at_call 25; exact Grows.calls (itoa_c _ _ _ (by first | exact hA | exact hB) (henv _ _)))))
  refine wpQuiet_nil ?_
  intro _ hw'
  obtain ⟨⟨nq, osq⟩, hw''⟩ := hw'
  subst hw''
  go_wp2_with fail
  go_ret
  exact ⟨by rw [HT.out]; rfl, ((Grows.refl w).alloc _).grow nq osq⟩

/-- an error value -/
def errV (N : Nat) : Value := .iface 74 (.pointer (some ⟨N, 0, none⟩))
theorem atoi_ok (s : ByteArray) (v : Int) (w : World) (hs : s.size ≤ 1000) (h : Lib.atoiAll s.data.toList = .ok v) :
    Calls Tryd.prog 27 #[.string s] w fun e w' => e = .returned (.tuple #[.int .i64 v, .nilIface]) ∧ Below w.heap.size w w' :=
  (Tryd.strconv_Atoi_ok s (by omega) v h w).mono fun e w' ⟨he, hw⟩ => ⟨he, by
    rcases hw with rfl | ⟨t, rfl⟩
    · exact Below.refl _ _
    · exact Joins.below_bytesWorld _ _ _ _ (Nat.le_refl _)⟩
theorem atoi_no (s : ByteArray) (w : World) (hs : s.size ≤ 1000) (he : Env w) (h : ∀ v, Lib.atoiAll s.data.toList ≠ .ok v) :
    Calls Tryd.prog 27 #[.string s] w fun e w' => ∃ (v : Int) (N : Nat), e = .returned (.tuple #[.int .i64 v, errV N]) ∧ Below w.heap.size w w' := by
  obtain ⟨_, ⟨tp, p, hy⟩, ⟨tr, q, hr⟩, _⟩ := he
  cases ha : Lib.atoiAll s.data.toList
  · exact absurd ha (h _)
  · exact (Any.strconv_Atoi_syntax_var Tryd.laysC172 s (by omega) ha tp p w hy).mono fun e w' ⟨N, he, _, _, hb⟩ => ⟨_, N, he, hb⟩
  · exact (Tryd.strconv_Atoi_range_var s (by omega) ha tr q w hr).mono fun e w' ⟨N, he, _, _, hb⟩ => ⟨_, N, he, hb⟩
theorem atoi_any (s : ByteArray) (w : World) (hs : s.size ≤ 1000) (he : Env w) :
    Calls Tryd.prog 27 #[.string s] w fun e w' => ∃ (v : Int) (ev : Value), e = .returned (.tuple #[.int .i64 v, ev]) ∧ Below w.heap.size w w' := by
  by_cases h : ∃ v, Lib.atoiAll s.data.toList = .ok v
  · obtain ⟨v, h⟩ := h
    exact (atoi_ok s v w hs h).mono fun e w' ⟨he, hb⟩ => ⟨v, _, he, hb⟩
  · exact (atoi_no s w hs he (fun v hv => h ⟨v, hv⟩)).mono fun e w' ⟨v, N, he, hb⟩ => ⟨v, _, he, hb⟩
theorem cut_c (s L R : ByteArray) (b : Bool) (w : World) (hs : s.size ≤ 1000) (he : Env w) (h : Lib.cut s.data.toList [35] = (L.data.toList, R.data.toList, b)) :
    Calls Tryd.prog 26 #[.string s, .string ⟨#[35]⟩] w fun e w' => e = .returned (.tuple #[.string L, .string R, .bool b]) ∧ Below w.heap.size w w' := by
  obtain ⟨_, _, _, m, hm⟩ := he
  refine (Tryd.strings_Cut s ⟨#[35]⟩ m w (by omega) hm).mono fun e w' ⟨he, n, hw⟩ => ⟨?_, by rw [hw]; exact below_drewN (Below.refl _ _) n⟩
  rw [he]
  have h' : Lib.cut s.data.toList (⟨#[35]⟩ : ByteArray).data.toList = (L.data.toList, R.data.toList, b) := h
  rw [h']
end Go.Proofs.YtocblnbnifljmaaDoor.Item
