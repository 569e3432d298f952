/- tide: the law's small. -/
import Derived.Test.YtegekenkfomlbaaTiPool
namespace Go.Proofs.Ytegekenkfomlbaa.Ti
open Go.Proofs.Ytegekenkfomlbaa.Rx
set_option linter.unusedVariables false
set_option linter.unusedSimpArgs false
set_option maxRecDepth 100000
def leastP {R : Type} : Prim R := fun args hh => match args, hh with
  | [.agg ⟨[.int .i64 n, .int .i64 s, .int .i64 l]⟩, .int .i64 x], [] => some ⟨True, .int .i64 (Td.least ⟨n, s, l⟩ x), none, hh, [], []⟩
  | _, _ => none
theorem least_ok {R : Type} {D : Res R} : ConOk D Try.prog 25 (con1 leastP) := by
  refine con1_ok (prim_at (fn := Try.f25) (root := codeOf Try.f25) (by kernel_rfl) (by kernel_rfl) (by kernel_rfl) fun args hh x hx => ?_)
  unfold leastP at hx
  split at hx
  · rename_i n s l x
    injection hx with hx
    subst hx
    refine ⟨by first | exact Nat.le_refl _ | exact Nat.zero_le _ | exact Nat.le_succ _ | exact Nat.le_add_left 1 3 | exact Nat.le_add_left 2 2 | exact Nat.le_add_left 1 2, noLit rfl, (fun hw => by first | rfl | cases hw), fun _ hv => ?_⟩
    generalize hG : Rx.Ends (R := R) _ _ = G
    refine rx_ok (T := TW) TW_ok mixed 200 ?_
    refine as_text (q := ((n == (0 : Int)) = true → Post (G (Value.int IntKind.i64 x) [some (Sum.inl (48, [Value.int IntKind.i64 n, Value.int IntKind.i64 s, Value.int IntKind.i64 l]))])) ∧ ((n == (0 : Int)) = false → Vc True ∧ Post (G (Value.int IntKind.i64 (if IntKind.wrap IntKind.i64 (x + l) < x then IntKind.wrap IntKind.i64 (x + l) else x)) [some (Sum.inl (48, [Value.int IntKind.i64 n, Value.int IntKind.i64 s, Value.int IntKind.i64 l]))]))) ?_ (by kernel_rfl)
    have fin : ∀ (t : Int) (hp : Hp R), t = Td.least ⟨n, s, l⟩ x → G (.int .i64 t) hp := by
      intro t hp ht
      subst ht
      subst hG
      exact ⟨⟨[], rfl, rfl, trivial, rfl, rfl, rfl, rfl⟩⟩
    clear hG
    refine ⟨fun h => ⟨?_⟩, fun h => ⟨⟨trivial⟩, ⟨?_⟩⟩⟩
    · exact fin x _ (by rw [Td.least, if_pos (eq_of_beq h)])
    · have e : ∀ p q : Int, (if p < q then p else q) = min q p := fun p q => by split <;> omega
      refine fin (if w64 (x + l) < x then w64 (x + l) else x) _ ?_
      rw [Td.least, if_neg (ne_of_beq_false h)]
      simp only [e]
  · cases hx
def smallB (x : List Int) (k : Nat) : Bool := (x.take k).all fun v => decide (-1099511627776 ≤ v) && decide (v ≤ 1099511627776)
end Go.Proofs.Ytegekenkfomlbaa.Ti
