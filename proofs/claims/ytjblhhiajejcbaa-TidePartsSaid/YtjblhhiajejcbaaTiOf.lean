/- tide: Of. -/
import Derived.Test.YtjblhhiajejcbaaTiPool
namespace Go.Proofs.Ytjblhhiajejcbaa.Ti
open Go.Proofs.Ytjblhhiajejcbaa.Rx
set_option linter.unusedVariables false
set_option linter.unusedSimpArgs false
set_option maxRecDepth 100000
def TP {R : Type} : Tab R := [(12, liftC zN 2 (con1 plusP))]
theorem TP_ok {R : Type} {D : Res R} : TabOk D Try.prog TP := ⟨liftC_ok _ _ plus_ok, trivial⟩
def ofP {R : Type} : Prim R := fun args hh => match args, hh with
  | [.slice (some ⟨0, 0, some 1000⟩) n c], [some (.inr (.inr (.inl ⟨[.int .i64 0], n', [⟨x, [], []⟩]⟩)))] => some ⟨n = x.length ∧ n' = x.length ∧ Small x, .agg ⟨[.int .i64 x.length, .int .i64 (psum x x.length), .int .i64 (low x)]⟩, none, hh, [], []⟩
  | _, _ => none
theorem of_ok {R : Type} {D : Res R} : ConOk D Try.prog 9 (con1 ofP) := by
  refine con1_ok (prim_at (fn := Try.f9) (root := codeOf Try.f9) (by kernel_rfl) (by kernel_rfl) (by kernel_rfl) fun args hh x hx => ?_)
  unfold ofP at hx
  split at hx
  · rename_i n c n' x
    injection hx with hx
    subst hx
    refine ⟨by first | exact Nat.le_refl _ | exact Nat.zero_le _ | exact Nat.le_succ _, noLit rfl, (fun hw => by first | rfl | cases hw), fun _ hv => ?_⟩
    obtain ⟨rfl, rfl, hx⟩ := hv
    generalize hG : Rx.Ends (R := R) _ _ = G
    refine rx_ok (T := TP) TP_ok mixed 200 ?_
    refine as_text (q := At D Try.prog (codeOf Try.f9) 1 (retK Try.prog (Array.toList (Func.results Try.f9)) G) [Sum.inl [1, 1, 0, 1, 0], Sum.inr (Sum.inl 0), Sum.inl [1, 1, 1]] (SS.mk [some (Value.slice (some (Addr.mk 0 0 (some 1000))) (List.length x) c), none, some (Value.pointer (some (Addr.mk 1 0 none))), some (Value.pointer (some (Addr.mk 2 0 none))), none, none, some (Value.slice (some (Addr.mk 0 0 (some 1000))) (List.length x) c), some (Value.int IntKind.i64 (↑(List.length x) : Int)), some (Value.int IntKind.i64 0), none, none, none, none, none, none, none, none, none, none] [] [some (Sum.inr (Sum.inr (Sum.inl (Row.mk [Value.int IntKind.i64 0] (List.length x) [Col.mk x [] []])))), some (Sum.inl (26, [Value.int IntKind.i64 0, Value.int IntKind.i64 0, Value.int IntKind.i64 0])), some (Sum.inl (26, [Value.int IntKind.i64 0, Value.int IntKind.i64 0, Value.int IntKind.i64 0]))])) ?_ (by kernel_rfl)
    refine loop_atM (by kernel_rfl) (ι := Nat) (fun i => i ≤ x.length) [2, 3, 6, 7, 8] (fun i => [.pointer (some ⟨1, 0, none⟩), .pointer (some ⟨2, 0, none⟩), .slice (some ⟨0, 0, some 1000⟩) x.length c, .int .i64 x.length, .int .i64 i]) (fun i => [vI x, some (.inl (26, [.int .i64 0, .int .i64 0, .int .i64 0])), some (.inl (26, [.int .i64 i, .int .i64 (psum x i), .int .i64 (lowTo x i)]))]) (fun i => x.length - i) 19 (fun i hi => ⟨rfl, rfl, by simp⟩) ⟨0, Nat.zero_le _, ⟨[0, 1, 2], rfl, ⟨rfl, .inl rfl, .inl rfl, trivial⟩, rfl, rfl, rfl, rfl⟩⟩ fun i hi => ?_
    refine rx_ok (T := TP) TP_ok mixed 200 ?_
    refine as_text (q := (decide ((↑i : Int) < (↑(List.length x) : Int)) = true → Vc ((0 : Int) ≤ (↑i : Int) ∧ (↑i : Int) < (↑(List.length x) : Int) ∧ 0 + List.length x ≤ List.length x) ∧ Vc (0 + Int.toNat (↑i : Int) < List.length x) ∧ Vc True ∧ Vc (fits ((↑i : Int) + (1 : Int))) ∧ Post (∃ j, j ≤ List.length x ∧ List.length x - j < List.length x - i ∧ FitsM R 1 19 [2, 3, 6, 7, 8] [Value.pointer (some (Addr.mk 1 0 none)), Value.pointer (some (Addr.mk 2 0 none)), Value.slice (some (Addr.mk 0 0 (some 1000))) (List.length x) c, Value.int IntKind.i64 (↑(List.length x) : Int), Value.int IntKind.i64 (↑j : Int)] [vI x, some (Sum.inl ((26 : TypeId), [Value.int IntKind.i64 0, Value.int IntKind.i64 0, Value.int IntKind.i64 0])), some (Sum.inl ((26 : TypeId), [Value.int IntKind.i64 (↑j : Int), Value.int IntKind.i64 (psum x j), Value.int IntKind.i64 (lowTo x j)]))] [some (Value.pointer (some (Addr.mk 1 0 none))), some (Value.pointer (some (Addr.mk 2 0 none))), some (Value.slice (some (Addr.mk 0 0 (some 1000))) (List.length x) c), some (Value.int IntKind.i64 (↑(List.length x) : Int)), some (Value.int IntKind.i64 ((↑i : Int) + (1 : Int)))] [some (Sum.inr (Sum.inr (Sum.inl (Row.mk [Value.int IntKind.i64 0] (List.length x) [Col.mk x [] []])))), some (Sum.inl (26, [Value.int IntKind.i64 0, Value.int IntKind.i64 0, Value.int IntKind.i64 0])), some (Sum.inl (26, [Value.int IntKind.i64 (Td.n (Td.plus (Td.mk (↑i : Int) (psum x i) (lowTo x i)) (Td.mk (1 : Int) (List.getD x (0 + Int.toNat (↑i : Int)) (0 : Int)) (List.getD x (0 + Int.toNat (↑i : Int)) (0 : Int))))), Value.int IntKind.i64 (Td.s (Td.plus (Td.mk (↑i : Int) (psum x i) (lowTo x i)) (Td.mk (1 : Int) (List.getD x (0 + Int.toNat (↑i : Int)) (0 : Int)) (List.getD x (0 + Int.toNat (↑i : Int)) (0 : Int))))), Value.int IntKind.i64 (Td.l (Td.plus (Td.mk (↑i : Int) (psum x i) (lowTo x i)) (Td.mk (1 : Int) (List.getD x (0 + Int.toNat (↑i : Int)) (0 : Int)) (List.getD x (0 + Int.toNat (↑i : Int)) (0 : Int)))))]))] 19)) ∧ (decide ((↑i : Int) < (↑(List.length x) : Int)) = false → Post (G (Value.agg (Array.mk [Value.int IntKind.i64 (↑i : Int), Value.int IntKind.i64 (psum x i), Value.int IntKind.i64 (lowTo x i)])) [some (Sum.inr (Sum.inr (Sum.inl (Row.mk [Value.int IntKind.i64 0] (List.length x) [Col.mk x [] []])))), some (Sum.inl (26, [Value.int IntKind.i64 (↑i : Int), Value.int IntKind.i64 (psum x i), Value.int IntKind.i64 (lowTo x i)])), some (Sum.inl (26, [Value.int IntKind.i64 (↑i : Int), Value.int IntKind.i64 (psum x i), Value.int IntKind.i64 (lowTo x i)]))]))) ?_ (by kernel_rfl)
    have e0 : 0 + (i : Int).toNat = i := by omega
    have hn := hx.len
    simp only [e0]
    refine ⟨fun h => ?_, fun h => ⟨?_⟩⟩
    · have hlt : i < x.length := by have := of_decide_eq_true h; omega
      rw [tide_snoc hx hlt]
      exact ⟨⟨by omega, by omega, by omega⟩, ⟨hlt⟩, ⟨trivial⟩, ⟨⟨by omega, by omega⟩⟩, ⟨i + 1, hlt, by omega, ⟨[0, 1, 2], rfl, ⟨rfl, .inl rfl, .inl rfl, trivial⟩, rfl, rfl, rfl, rfl⟩⟩⟩
    · have h0 : i = x.length := by have := of_decide_eq_false h; omega
      subst h0
      subst hG
      exact ⟨⟨[0], rfl, rfl, ⟨rfl, trivial⟩, rfl, rfl, rfl, rfl⟩⟩
  · cases hx
end Go.Proofs.Ytjblhhiajejcbaa.Ti
