/- tide: the document's sums. -/
import Derived.Test.YtegekenkfomlbaaRxP
namespace Go.Proofs.Ytegekenkfomlbaa.Ti
open Go.Proofs.Ytegekenkfomlbaa.Rx
set_option linter.unusedVariables false
set_option linter.unusedSimpArgs false
set_option maxRecDepth 100000
/-- the sum of the first k -/
def psum (x : List Int) (k : Nat) : Int := (x.take k).sum
/-- the least of the sums of the first one, the first two, .., the first k -/
def lowTo (x : List Int) : Nat → Int
  | 0 => 0
  | 1 => psum x 1
  | k + 2 => min (lowTo x (k + 1)) (psum x (k + 2))
def low (x : List Int) : Int := lowTo x x.length
structure Small (x : List Int) : Prop where
  len : x.length ≤ 60
  lo : ∀ i, i < x.length → -1099511627776 ≤ x.getD i 0
  hi : ∀ i, i < x.length → x.getD i 0 ≤ 1099511627776
theorem psum_succ {x : List Int} {k : Nat} (h : k < x.length) : psum x (k + 1) = psum x k + x.getD k 0 := by
  unfold psum
  rw [take_succ_getD 0 h, List.sum_append]
  simp
theorem psum_bounds {x : List Int} (hx : Small x) : ∀ k, k ≤ x.length → -(k : Int) * 1099511627776 ≤ psum x k ∧ psum x k ≤ (k : Int) * 1099511627776
  | 0, _ => by simp [psum]
  | k + 1, h => by
    have h1 := psum_bounds hx k (by omega)
    have h2 := hx.lo k (by omega)
    have h3 := hx.hi k (by omega)
    rw [psum_succ (by omega)]
    omega
theorem psum_small {x : List Int} (hx : Small x) (k : Nat) (hk : k ≤ x.length) : -65970697666560 ≤ psum x k ∧ psum x k ≤ 65970697666560 := by
  have := psum_bounds hx k hk
  have := hx.len
  omega
theorem lowTo_small {x : List Int} (hx : Small x) : ∀ k, k ≤ x.length → -65970697666560 ≤ lowTo x k ∧ lowTo x k ≤ 65970697666560
  | 0, _ => by simp [lowTo]
  | 1, h => psum_small hx 1 h
  | k + 2, h => by
    have h1 := lowTo_small hx (k + 1) (by omega)
    have h2 := psum_small hx (k + 2) h
    simp only [lowTo]
    omega
def vI {R : Type} (l : List Int) : Option (SB R) := some (.inr (.inr (.inl ⟨[.int .i64 0], l.length, [⟨l, [], []⟩]⟩)))
def sumP {R : Type} : Prim R := fun args hh => match args, hh with
  | [.slice (some ⟨0, 0, some 1000⟩) n c, .int .i64 k], [some (.inr (.inr (.inl ⟨[.int .i64 0], n', [⟨x, [], []⟩]⟩)))] => some ⟨n = x.length ∧ n' = x.length ∧ Small x ∧ 0 ≤ k ∧ k ≤ x.length, .int .i64 (psum x k.toNat), none, hh, [], []⟩
  | _, _ => none
theorem sum_ok {R : Type} {D : Res R} : ConOk D Try.prog 27 (con1 sumP) := by
  refine con1_ok (prim_at (fn := Try.f27) (root := codeOf Try.f27) (by kernel_rfl) (by kernel_rfl) (by kernel_rfl) fun args hh x hx => ?_)
  unfold sumP at hx
  split at hx
  · rename_i n c k n' x
    injection hx with hx
    subst hx
    refine ⟨by first | exact Nat.le_refl _ | exact Nat.zero_le _ | exact Nat.le_succ _ | exact Nat.le_add_left 1 3 | exact Nat.le_add_left 2 2 | exact Nat.le_add_left 1 2, noLit rfl, (fun hw => by first | rfl | cases hw), fun _ hv => ?_⟩
    obtain ⟨rfl, rfl, hx, hk0, hk⟩ := hv
    generalize hG : Rx.Ends (R := R) _ _ = G
    refine rx_ok (T := []) trivial mixed 200 ?_
    refine as_text (q := At D Try.prog (codeOf Try.f27) 1 (retK Try.prog (Array.toList (Func.results Try.f27)) G) [Sum.inl [1, 1, 0, 1, 0], Sum.inr (Sum.inl 0), Sum.inl [1, 1, 1]] (SS.mk [some (Value.slice (some (Addr.mk 0 0 (some 1000))) (List.length x) c), some (Value.int IntKind.i64 k), none, none, some (Value.int IntKind.i64 0), some (Value.int IntKind.i64 0), some (Value.int IntKind.i64 0), none, none, none, none, none, none, none, none, none, none, none, none] [] [some (Sum.inr (Sum.inr (Sum.inl (Row.mk [Value.int IntKind.i64 0] (List.length x) [Col.mk x [] []]))))])) ?_ (by kernel_rfl)
    refine loop_atM (by kernel_rfl) (ι := Nat) (fun i => i ≤ k.toNat) [0, 1, 5, 6] (fun i => [.slice (some ⟨0, 0, some 1000⟩) x.length c, .int .i64 k, .int .i64 (psum x i), .int .i64 i]) (fun i => [vI x]) (fun i => k.toNat - i) 19 (fun i hi => ⟨rfl, rfl, Nat.le_refl _⟩) ⟨0, Nat.zero_le _, ⟨[0], rfl, ⟨rfl, trivial⟩, rfl, rfl, rfl, rfl⟩⟩ fun i hi => ?_
    refine rx_ok (T := []) trivial mixed 200 ?_
    refine as_text (q := (decide ((↑i : Int) < k) = true → Vc ((0 : Int) ≤ (↑i : Int) ∧ (↑i : Int) < (↑(List.length x) : Int) ∧ 0 + List.length x ≤ List.length x) ∧ Vc (0 + Int.toNat (↑i : Int) < List.length x) ∧ Vc (fits (psum x i + List.getD x (0 + Int.toNat (↑i : Int)) (0 : Int))) ∧ Vc (fits ((↑i : Int) + (1 : Int))) ∧ Post (∃ j, j ≤ Int.toNat k ∧ Int.toNat k - j < Int.toNat k - i ∧ FitsM R 1 19 [0, 1, 5, 6] [Value.slice (some (Addr.mk 0 0 (some 1000))) (List.length x) c, Value.int IntKind.i64 k, Value.int IntKind.i64 (psum x j), Value.int IntKind.i64 (↑j : Int)] [vI x] [some (Value.slice (some (Addr.mk 0 0 (some 1000))) (List.length x) c), some (Value.int IntKind.i64 k), some (Value.int IntKind.i64 (psum x i + List.getD x (0 + Int.toNat (↑i : Int)) (0 : Int))), some (Value.int IntKind.i64 ((↑i : Int) + (1 : Int)))] [some (Sum.inr (Sum.inr (Sum.inl (Row.mk [Value.int IntKind.i64 0] (List.length x) [Col.mk x [] []]))))] 19)) ∧ (decide ((↑i : Int) < k) = false → Post (G (Value.int IntKind.i64 (psum x i)) [some (Sum.inr (Sum.inr (Sum.inl (Row.mk [Value.int IntKind.i64 0] (List.length x) [Col.mk x [] []]))))]))) ?_ (by kernel_rfl)
    refine ⟨fun h => ?_, fun h => ?_⟩
    · have hlt : (i : Int) < k := of_decide_eq_true h
      have e0 : 0 + (i : Int).toNat = i := by omega
      have b1 := psum_small hx i (by omega)
      have b2 := hx.lo i (by omega)
      have b3 := hx.hi i (by omega)
      have b4 := hx.len
      rw [e0]
      refine ⟨⟨by omega, by omega, by omega⟩, ⟨by omega⟩, ⟨⟨by omega, by omega⟩⟩, ⟨⟨by omega, by omega⟩⟩, ⟨i + 1, by omega, by omega, ⟨[0], ?_, ⟨rfl, trivial⟩, rfl, rfl, rfl, rfl⟩⟩⟩
      rw [← psum_succ (by omega)]
      rfl
    · have hlt : ¬ (i : Int) < k := of_decide_eq_false h
      obtain rfl : k = (i : Int) := by omega
      subst hG
      exact ⟨⟨⟨[0], rfl, rfl, ⟨rfl, trivial⟩, rfl, rfl, rfl, rfl⟩⟩⟩
  · cases hx
def z0 : Nat → Bool := fun j => Nat.beq j 0
theorem lowTo_succ {x : List Int} {k : Nat} (h : 0 < k) : lowTo x (k + 1) = min (lowTo x k) (psum x (k + 1)) := by
  cases k with
  | zero => omega
  | succ k => rfl
end Go.Proofs.Ytegekenkfomlbaa.Ti
