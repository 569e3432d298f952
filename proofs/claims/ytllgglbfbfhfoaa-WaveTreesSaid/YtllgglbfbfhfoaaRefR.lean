/- whilomref01: Rest (for seats without Ints). -/
import Derived.Test.YtllgglbfbfhfoaaRxP
namespace Go.Proofs.Ytllgglbfbfhfoaa.Rx
set_option linter.unusedVariables false
set_option linter.unusedSimpArgs false
set_option maxRecDepth 100000
def restI (a n : Int) : Int := ((a.tmod n) + n).tmod n
theorem rest_bounds {a n : Int} (h : 0 < n) : 0 ≤ restI a n ∧ restI a n < n := by
  have h1 : 0 ≤ a.tmod n + n := by have := Int.tmod_lt_of_pos a h; have := Int.lt_tmod_of_pos a h; omega
  exact ⟨Int.tmod_nonneg _ h1, Int.tmod_lt_of_pos _ h⟩
def restP {R : Type} : Prim R := fun args hh => match args, hh with
  | [.int .i64 a, .int .i64 n], [] => some ⟨0 < n ∧ n < 1000000, .int .i64 (restI a n), none, hh, [], []⟩
  | _, _ => none
theorem rest_ok {R : Type} {D : Res R} : ConOk D Try.prog 10 (con1 restP) := by
  refine con1_ok (prim_at (fn := Try.f10) (root := codeOf Try.f10) (by kernel_rfl) (by kernel_rfl) (by kernel_rfl) fun args hh x hx => ?_)
  unfold restP at hx
  split at hx
  · rename_i a n
    injection hx with hx
    subst hx
    refine ⟨by first | exact Nat.le_refl _ | exact Nat.zero_le _ | exact Nat.le_succ _, noLit rfl, (fun hw => by first | rfl | cases hw), fun _ hv => ?_⟩
    generalize hG : Rx.Ends (R := R) _ _ = G
    refine rx_ok (T := []) trivial mixed 200 ?_
    refine as_text (q := Vc (n ≠ (0 : Int)) ∧ Vc (fits (Int.tmod a n + n)) ∧ Vc (n ≠ (0 : Int)) ∧ Post (G (Value.int IntKind.i64 (Int.tmod (Int.tmod a n + n) n)) [])) ?_ (by kernel_rfl)
    subst hG
    have h1 := Int.tmod_lt_of_pos a hv.1
    have h2 := Int.lt_tmod_of_pos a hv.1
    refine ⟨⟨by omega⟩, ⟨⟨by omega, by omega⟩⟩, ⟨by omega⟩, ⟨⟨[], rfl, rfl, trivial, rfl, rfl, rfl, rfl⟩⟩⟩
  · cases hx
end Go.Proofs.Ytllgglbfbfhfoaa.Rx
