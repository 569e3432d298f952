/- grove: trees of marks, alone in their pools, as things. -/
import Derived.Test.YtegekenkfomlbaaG8Res
import Derived.Test.YtegekenkfomlbaaRxU
import Derived.Test.YtegekenkfomlbaaGvK
import Derived.Test.YtegekenkfomlbaaWvSw
namespace Go.Proofs.Ytegekenkfomlbaa.G8
open Go.Proofs.Ytegekenkfomlbaa.Rx
set_option linter.unusedVariables false
set_option linter.unusedSimpArgs false
set_option maxRecDepth 100000
/-- marks, and what they come to -/
def k8 : Gv.Kd Wv.Mk Wv.Sw := ⟨Wv.O8, Wv.S8, Wv.good8, (fun l => inferInstanceAs (Decidable (l.length ≤ 60))), Wv.laws8, (fun x h => Nat.le_trans h (by decide)), Nat.zero_le _, (fun x y h => by
  unfold Wv.good8 at *
  rw [List.length_append] at *
  rw [List.length_tail]
  omega)⟩
abbrev Ts := Gv.TS k8
inductive Rt
  | tree (s : Ts)
def lay2 : Rt → Hp Rs
  | .tree s => [some (.inl (76, [.pointer (some ⟨1, 0, none⟩), .int .i64 s.r.i, .int .i64 s.r.g])), some (.inr (.inr (.inr (.pool s.m))))]
def L2 : Lay Rt Rs where
  lay := lay2
  ne x := by cases x <;> exact Nat.succ_pos _
  own x b X h := by
    cases x with
    | tree s =>
      match b, h with
      | 0, h => simp only [lay2, List.getElem?_cons_zero, Option.some.injEq] at h; subst h; rfl
      | 1, h => simp only [lay2, List.getElem?_cons_succ, List.getElem?_cons_zero, Option.some.injEq] at h; subst h; rfl
      | b + 2, h => simp [lay2] at h
  ins x := by cases x <;> rfl
def D2 : Res Rt := resOf D L2
abbrev oT (s : Ts) : Option (SB Rt) := some (.inr (.inr (.inr (.tree s))))
end Go.Proofs.Ytegekenkfomlbaa.G8
