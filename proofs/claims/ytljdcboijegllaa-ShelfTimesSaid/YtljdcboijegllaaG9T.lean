/- grove: trees of slots, alone in their pools, as things. -/
import Derived.Test.YtljdcboijegllaaG9K
import Derived.Test.YtljdcboijegllaaG9Res
import Derived.Test.YtljdcboijegllaaRxU
import Derived.Test.YtljdcboijegllaaGvK
namespace Go.Proofs.Ytljdcboijegllaa.G9
open Go.Proofs.Ytljdcboijegllaa.Rx
set_option linter.unusedVariables false
set_option linter.unusedSimpArgs false
set_option maxRecDepth 100000
abbrev Ts := Gv.TS k9
inductive Rt
  | tree (s : Ts)
def lay2 : Rt → Hp Rs
  | .tree s => [some (.inl (59, [.pointer (some ⟨1, 0, none⟩), .int .i64 s.r.i, .int .i64 s.r.g])), some (.inr (.inr (.inr (.pool s.m))))]
def L2 : Lay Rt Rs where
  lay := lay2
  ne x := by cases x <;> exact Nat.succ_pos _
  own x b X h := by
    cases x with
    | tree s =>
      match b, h with
      | 0, h => simp only [lay2, List.getElem?_cons_zero, Option.some.injEq] at h; subst h; rfl
      | 1, h => simp only [lay2, List.getElem?_cons_succ, List.getElem?_cons_zero, Option.some.injEq] at h; subst h; rfl
      | b + 2, h => simp [lay2] at h
  ins x := by cases x <;> rfl
def D2 : Res Rt := resOf D L2
abbrev oT (s : Ts) : Option (SB Rt) := some (.inr (.inr (.inr (.tree s))))
end Go.Proofs.Ytljdcboijegllaa.G9
