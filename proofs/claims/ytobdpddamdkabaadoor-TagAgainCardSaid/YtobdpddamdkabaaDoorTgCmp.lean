/- tag: the order of time, as the library's sort asks for it. -/
import Derived.Test.YtobdpddamdkabaaDoorTgSeq
import Derived.Lib.Small
import Derived.Shelf.SlSortCmp.QuietGrown
namespace Go.Proofs.YtobdpddamdkabaaDoor.Tg
open Go.RowKit Go.Maps Go.Sort Go.Shelf
set_option linter.unusedVariables false
set_option linter.unusedSimpArgs false
/-- w' is w with some draws made and some blocks laid behind it -/
def Grows (w w' : World) : Prop := ∃ q os, w' = Go.Sort.grow (w.drewN q) os
theorem Grows.refl (w : World) : Grows w w := ⟨0, #[], by rw [grow_empty]; rfl⟩
theorem Grows.trans {a b c : World} (h : Grows a b) (k : Grows b c) : Grows a c := by
  obtain ⟨n, os, rfl⟩ := h
  obtain ⟨m, ot, rfl⟩ := k
  exact ⟨n + m, os ++ ot, by show Go.Sort.grow (Go.Sort.grow ((a.drewN n).drewN m) os) ot = _; rw [grow_grow, World.drewN_drewN]⟩
theorem Grows.alloc {a b : World} (h : Grows a b) (o : Obj) : Grows a (b.alloc o) := h.trans ⟨0, #[o], by rw [alloc_eq_grow]; rfl⟩
theorem compareInt_any (x y : Int) (w : World) : Calls Tryd.prog 57 #[.int .i64 x, .int .i64 y] w fun e w' => e = .returned (.int .i64 (Lib.compareInt x y)) ∧ w = w' := by
  unfold Lib.compareInt
  by_cases h1 : x < y
  · rw [if_pos h1]
    go_enter Tryd.func57, Tryd.ntmps57
    go_wp2
    go_ret
    exact ⟨rfl, rfl⟩
  · rw [if_neg h1]
    by_cases h2 : y < x
    · rw [if_pos h2]
      go_enter Tryd.func57, Tryd.ntmps57
      go_wp2
      go_ret
      exact ⟨rfl, rfl⟩
    · rw [if_neg h2]
      go_enter Tryd.func57, Tryd.ntmps57
      go_wp2
      go_ret
      exact ⟨rfl, rfl⟩
set_option maxHeartbeats 1000000 in
theorem byTime_any (x y : Ls) (w : World) : Calls Tryd.prog 44 #[encL x, encL y] w fun e w' => e = .returned (.int .i64 (Lib.compareInt x.tm y.tm)) ∧ Grows w w' := by
  unfold encL lsL
  go_enter Tryd.func44, Tryd.ntmps44
  go_wp2_with fail
  refine (compareInt_any _ _ _).mono ?_
  rintro e w' ⟨rfl, rfl⟩
  go_wp2_with fail
  go_ret
  exact ⟨rfl, ((Grows.refl w).alloc _).alloc _⟩
end Go.Proofs.YtobdpddamdkabaaDoor.Tg
