/- box: Pick, Pour; what was picked. -/
import Derived.Test.YtagiodenlhfgfaaBxPool
import Derived.Test.YtagiodenlhfgfaaBxPour
namespace Go.Proofs.Ytagiodenlhfgfaa.Bx
open Go.Proofs.Ytagiodenlhfgfaa.Rx
set_option linter.unusedVariables false
set_option linter.unusedSimpArgs false
set_option maxRecDepth 100000
def TFn : Tab Rs := [(12, liftC zN 2 (con1 offerP)), (14, liftC zN 2 (con1 takeP)), (21, liftC zN 2 (con1 lenP)), (10, liftC zN 2 (con1 capP)),
  (30, liftC zN 2 (con1 takeSP)), (15, liftC zN 2 (con1 rtakeP)), (1000000000, rdBox)]
theorem TFn_ok : TabOk D Try.prog TFn := ⟨liftC_ok _ _ offer_ok, liftC_ok _ _ take_ok, liftC_ok _ _ len_ok, liftC_ok _ _ cap_ok, liftC_ok _ _ takeS_ok, liftC_ok _ _ rtake_ok, rdBox_ok, trivial⟩
def BI.has (m : BI) : Bool := decide (m.xs.length ≠ 0)
def BS.has (m : BS) : Bool := decide (m.xs.length ≠ 0)
theorem BI.has_t {m : BI} (h : m.xs.length ≠ 0) : m.has = true := decide_eq_true h
theorem BI.has_f {m : BI} (h : ¬ m.xs.length ≠ 0) : m.has = false := decide_eq_false h
theorem BI.zero {m : BI} (h : ¬ m.xs.length ≠ 0) : m.xs.getD 0 0 = 0 := by
  have : m.xs = [] := List.eq_nil_of_length_eq_zero (by omega)
  rw [this]; rfl
def arrI (l : List Value) : Option (SB Rs) := some (.inl (25, l))
def bI (m : BI) : Option (SB Rs) := some (.inr (.inr (.inr (.ints m))))
def p4 : List Value := [.pointer (some ⟨1, 0, none⟩), .pointer (some ⟨2, 0, none⟩), .pointer none, .pointer (some ⟨3, 0, none⟩)]
def pickV (m1 m2 m3 : BI) : Int := bif m1.has then m1.xs.getD 0 0 else bif m2.has then m2.xs.getD 0 0 else m3.xs.getD 0 0
def pickK (m1 m2 m3 : BI) : Int := bif m1.has then 0 else bif m2.has then 1 else bif m3.has then 3 else -1
def pickB (m1 m2 m3 : BI) : Bool := m1.has || m2.has || m3.has
def BI.takeIf (m : BI) (b : Bool) : BI := bif b then m.take else m
theorem pick4_run {G : Value → Hp Rs → Prop} (m1 m2 m3 : BI) (hG : G (.tuple #[.int .i64 (pickV m1 m2 m3), .int .i64 (pickK m1 m2 m3), .bool (pickB m1 m2 m3)]) [arrI p4, bI m1.take, bI (m2.takeIf (!m1.has)), bI (m3.takeIf (!(m1.has || m2.has)))]) :
    At D Try.prog (codeOf Try.f17) 4 (retK Try.prog Try.f17.results.toList G) [.inl []] ⟨someL [.slice (some ⟨0, 0, none⟩) 4 4] ++ List.replicate (Try.f17.ntmps - 1) none, [], [arrI p4, bI m1, bI m2, bI m3]⟩ := by
  refine rx_ok (T := TFn) TFn_ok mixed 200 ?_
  refine as_text (q := At D Try.prog (codeOf Try.f17) 4 (retK Try.prog (Array.toList (Func.results Try.f17)) G) [Sum.inl [1, 0, 1, 0], Sum.inr (Sum.inl 0), Sum.inl [1, 1]] (SS.mk [some (Value.slice (some (Addr.mk 0 0 none)) 4 4), none, some (Value.int IntKind.i64 0), some (Value.int IntKind.i64 0), some (Value.bool false), none, none, none, none, none, some (Value.slice (some (Addr.mk 0 0 none)) 4 4), some (Value.int IntKind.i64 4), some (Value.int IntKind.i64 0), none, none, none, none, none, none, none, none, none, none, none, none, none, none, none, none] [(4, false)] [some (Sum.inl (25, [Value.pointer (some (Addr.mk 1 0 none)), Value.pointer (some (Addr.mk 2 0 none)), Value.pointer none, Value.pointer (some (Addr.mk 3 0 none))])), some (Sum.inr (Sum.inr (Sum.inr (Rs.ints m1)))), some (Sum.inr (Sum.inr (Sum.inr (Rs.ints m2)))), some (Sum.inr (Sum.inr (Sum.inr (Rs.ints m3))))])) ?_ (by kernel_rfl)
  refine loop_round (by kernel_rfl) retK_only ?_
  refine rx_ok (T := TFn) TFn_ok mixed 200 ?_
  refine as_text (q := (true = true → Vc ((0 : Int) ≤ (0 : Int) ∧ (0 : Int) < (4 : Int)) ∧ Vc True ∧ (decide (List.length (BI.xs m1) ≠ 0) = true → Post (G (Value.tuple (Array.mk [Value.int IntKind.i64 (List.getD (BI.xs m1) 0 (0 : Int)), Value.int IntKind.i64 0, Value.bool true])) [some (Sum.inl (25, [Value.pointer (some (Addr.mk 1 0 none)), Value.pointer (some (Addr.mk 2 0 none)), Value.pointer none, Value.pointer (some (Addr.mk 3 0 none))])), some (Sum.inr (Sum.inr (Sum.inr (Rs.ints (BI.take m1))))), some (Sum.inr (Sum.inr (Sum.inr (Rs.ints m2)))), some (Sum.inr (Sum.inr (Sum.inr (Rs.ints m3))))])) ∧ (decide (List.length (BI.xs m1) ≠ 0) = false → Vc (fits (1 : Int)) ∧ At D Try.prog (codeOf Try.f17) 4 (retK Try.prog (Array.toList (Func.results Try.f17)) G) [Sum.inl [1, 0, 1, 0], Sum.inr (Sum.inl 0), Sum.inl [1, 1]] (SS.mk [some (Value.slice (some (Addr.mk 0 0 none)) 4 4), none, some (Value.int IntKind.i64 0), some (Value.int IntKind.i64 0), some (Value.bool false), some (Value.int IntKind.i64 0), some (Value.pointer (some (Addr.mk 1 0 none))), some (Value.int IntKind.i64 (List.getD (BI.xs m1) 0 (0 : Int))), some (Value.bool (decide (List.length (BI.xs m1) ≠ 0))), none, some (Value.slice (some (Addr.mk 0 0 none)) 4 4), some (Value.int IntKind.i64 4), some (Value.int IntKind.i64 1), some (Value.bool true), some (Value.int IntKind.i64 0), some (Value.pointer (some (Addr.mk 0 0 none))), some (Value.pointer (some (Addr.mk 1 0 none))), some (Value.pointer (some (Addr.mk 1 0 none))), some (Value.bool false), some (Value.tuple (Array.mk [Value.int IntKind.i64 (List.getD (BI.xs m1) 0 (0 : Int)), Value.bool (decide (List.length (BI.xs m1) ≠ 0))])), some (Value.pointer (some (Addr.mk 1 0 none))), some (Value.tuple (Array.mk [Value.int IntKind.i64 (List.getD (BI.xs m1) 0 (0 : Int)), Value.bool (decide (List.length (BI.xs m1) ≠ 0))])), some (Value.int IntKind.i64 (List.getD (BI.xs m1) 0 (0 : Int))), some (Value.bool (decide (List.length (BI.xs m1) ≠ 0))), some (Value.bool false), none, none, some (Value.int IntKind.i64 1), none] [(24, false), (18, false), (13, true), (4, false)] [some (Sum.inl (25, [Value.pointer (some (Addr.mk 1 0 none)), Value.pointer (some (Addr.mk 2 0 none)), Value.pointer none, Value.pointer (some (Addr.mk 3 0 none))])), some (Sum.inr (Sum.inr (Sum.inr (Rs.ints (BI.take m1))))), some (Sum.inr (Sum.inr (Sum.inr (Rs.ints m2)))), some (Sum.inr (Sum.inr (Sum.inr (Rs.ints m3))))]))) ∧ (true = false → Post (G (Value.tuple (Array.mk [Value.int IntKind.i64 0, Value.int IntKind.i64 (-1 : Int), Value.bool false])) [some (Sum.inl (25, [Value.pointer (some (Addr.mk 1 0 none)), Value.pointer (some (Addr.mk 2 0 none)), Value.pointer none, Value.pointer (some (Addr.mk 3 0 none))])), some (Sum.inr (Sum.inr (Sum.inr (Rs.ints m1)))), some (Sum.inr (Sum.inr (Sum.inr (Rs.ints m2)))), some (Sum.inr (Sum.inr (Sum.inr (Rs.ints m3))))]))) ?_ (by kernel_rfl)
  refine ⟨fun _ => ⟨⟨by omega⟩, ⟨trivial⟩, fun h => ⟨?_⟩, fun h => ⟨⟨by omega, by omega⟩, ?_⟩⟩, fun h => by cases h⟩
  · have h1 := BI.has_t (of_decide_eq_true h)
    simp only [pickV, pickK, pickB, BI.takeIf, h1, Bool.true_or, Bool.not_true, cond_true, cond_false] at hG
    exact hG
  have h1 := of_decide_eq_false h
  clear h
  refine loop_round (by kernel_rfl) retK_only ?_
  refine rx_ok (T := TFn) TFn_ok mixed 200 ?_
  refine as_text (q := (true = true → Vc ((0 : Int) ≤ (1 : Int) ∧ (1 : Int) < (4 : Int)) ∧ Vc True ∧ (decide (List.length (BI.xs m2) ≠ 0) = true → Post (G (Value.tuple (Array.mk [Value.int IntKind.i64 (List.getD (BI.xs m2) 0 (0 : Int)), Value.int IntKind.i64 1, Value.bool true])) [some (Sum.inl (25, [Value.pointer (some (Addr.mk 1 0 none)), Value.pointer (some (Addr.mk 2 0 none)), Value.pointer none, Value.pointer (some (Addr.mk 3 0 none))])), some (Sum.inr (Sum.inr (Sum.inr (Rs.ints (BI.take m1))))), some (Sum.inr (Sum.inr (Sum.inr (Rs.ints (BI.take m2))))), some (Sum.inr (Sum.inr (Sum.inr (Rs.ints m3))))])) ∧ (decide (List.length (BI.xs m2) ≠ 0) = false → Vc (fits (2 : Int)) ∧ At D Try.prog (codeOf Try.f17) 4 (retK Try.prog (Array.toList (Func.results Try.f17)) G) [Sum.inl [1, 0, 1, 0], Sum.inr (Sum.inl 0), Sum.inl [1, 1]] (SS.mk [some (Value.slice (some (Addr.mk 0 0 none)) 4 4), none, some (Value.int IntKind.i64 0), some (Value.int IntKind.i64 0), some (Value.bool false), some (Value.int IntKind.i64 1), some (Value.pointer (some (Addr.mk 2 0 none))), some (Value.int IntKind.i64 (List.getD (BI.xs m2) 0 (0 : Int))), some (Value.bool (decide (List.length (BI.xs m2) ≠ 0))), none, some (Value.slice (some (Addr.mk 0 0 none)) 4 4), some (Value.int IntKind.i64 4), some (Value.int IntKind.i64 2), some (Value.bool true), some (Value.int IntKind.i64 1), some (Value.pointer (some (Addr.mk 0 1 none))), some (Value.pointer (some (Addr.mk 2 0 none))), some (Value.pointer (some (Addr.mk 2 0 none))), some (Value.bool false), some (Value.tuple (Array.mk [Value.int IntKind.i64 (List.getD (BI.xs m2) 0 (0 : Int)), Value.bool (decide (List.length (BI.xs m2) ≠ 0))])), some (Value.pointer (some (Addr.mk 2 0 none))), some (Value.tuple (Array.mk [Value.int IntKind.i64 (List.getD (BI.xs m2) 0 (0 : Int)), Value.bool (decide (List.length (BI.xs m2) ≠ 0))])), some (Value.int IntKind.i64 (List.getD (BI.xs m2) 0 (0 : Int))), some (Value.bool (decide (List.length (BI.xs m2) ≠ 0))), some (Value.bool false), none, none, some (Value.int IntKind.i64 2), none] [(24, false), (18, false), (13, true), (4, false)] [some (Sum.inl (25, [Value.pointer (some (Addr.mk 1 0 none)), Value.pointer (some (Addr.mk 2 0 none)), Value.pointer none, Value.pointer (some (Addr.mk 3 0 none))])), some (Sum.inr (Sum.inr (Sum.inr (Rs.ints (BI.take m1))))), some (Sum.inr (Sum.inr (Sum.inr (Rs.ints (BI.take m2))))), some (Sum.inr (Sum.inr (Sum.inr (Rs.ints m3))))]))) ∧ (true = false → Post (G (Value.tuple (Array.mk [Value.int IntKind.i64 0, Value.int IntKind.i64 (-1 : Int), Value.bool false])) [some (Sum.inl (25, [Value.pointer (some (Addr.mk 1 0 none)), Value.pointer (some (Addr.mk 2 0 none)), Value.pointer none, Value.pointer (some (Addr.mk 3 0 none))])), some (Sum.inr (Sum.inr (Sum.inr (Rs.ints (BI.take m1))))), some (Sum.inr (Sum.inr (Sum.inr (Rs.ints m2)))), some (Sum.inr (Sum.inr (Sum.inr (Rs.ints m3))))]))) ?_ (by kernel_rfl)
  refine ⟨fun _ => ⟨⟨by omega⟩, ⟨trivial⟩, fun h => ⟨?_⟩, fun h => ⟨⟨by omega, by omega⟩, ?_⟩⟩, fun h => by cases h⟩
  · have h2 := BI.has_t (of_decide_eq_true h)
    simp only [pickV, pickK, pickB, BI.takeIf, BI.has_f h1, h2, Bool.true_or, Bool.false_or, Bool.not_true, Bool.not_false, cond_true, cond_false] at hG
    exact hG
  have h2 := of_decide_eq_false h
  clear h
  refine loop_round (by kernel_rfl) retK_only ?_
  refine rx_ok (T := TFn) TFn_ok mixed 200 ?_
  refine as_text (q := (true = true → Vc ((0 : Int) ≤ (2 : Int) ∧ (2 : Int) < (4 : Int)) ∧ Vc (fits (3 : Int)) ∧ At D Try.prog (codeOf Try.f17) 4 (retK Try.prog (Array.toList (Func.results Try.f17)) G) [Sum.inl [1, 0, 1, 0], Sum.inr (Sum.inl 0), Sum.inl [1, 1]] (SS.mk [some (Value.slice (some (Addr.mk 0 0 none)) 4 4), none, some (Value.int IntKind.i64 0), some (Value.int IntKind.i64 0), some (Value.bool false), some (Value.int IntKind.i64 2), some (Value.pointer none), some (Value.int IntKind.i64 (List.getD (BI.xs m2) 0 (0 : Int))), some (Value.bool (decide (List.length (BI.xs m2) ≠ 0))), none, some (Value.slice (some (Addr.mk 0 0 none)) 4 4), some (Value.int IntKind.i64 4), some (Value.int IntKind.i64 3), some (Value.bool true), some (Value.int IntKind.i64 2), some (Value.pointer (some (Addr.mk 0 2 none))), some (Value.pointer none), some (Value.pointer none), some (Value.bool true), some (Value.tuple (Array.mk [Value.int IntKind.i64 (List.getD (BI.xs m2) 0 (0 : Int)), Value.bool (decide (List.length (BI.xs m2) ≠ 0))])), some (Value.pointer (some (Addr.mk 2 0 none))), some (Value.tuple (Array.mk [Value.int IntKind.i64 (List.getD (BI.xs m2) 0 (0 : Int)), Value.bool (decide (List.length (BI.xs m2) ≠ 0))])), some (Value.int IntKind.i64 (List.getD (BI.xs m2) 0 (0 : Int))), some (Value.bool (decide (List.length (BI.xs m2) ≠ 0))), some (Value.bool false), none, none, some (Value.int IntKind.i64 3), none] [(18, true), (13, true), (24, false), (4, false)] [some (Sum.inl (25, [Value.pointer (some (Addr.mk 1 0 none)), Value.pointer (some (Addr.mk 2 0 none)), Value.pointer none, Value.pointer (some (Addr.mk 3 0 none))])), some (Sum.inr (Sum.inr (Sum.inr (Rs.ints (BI.take m1))))), some (Sum.inr (Sum.inr (Sum.inr (Rs.ints (BI.take m2))))), some (Sum.inr (Sum.inr (Sum.inr (Rs.ints m3))))])) ∧ (true = false → Post (G (Value.tuple (Array.mk [Value.int IntKind.i64 0, Value.int IntKind.i64 (-1 : Int), Value.bool false])) [some (Sum.inl (25, [Value.pointer (some (Addr.mk 1 0 none)), Value.pointer (some (Addr.mk 2 0 none)), Value.pointer none, Value.pointer (some (Addr.mk 3 0 none))])), some (Sum.inr (Sum.inr (Sum.inr (Rs.ints (BI.take m1))))), some (Sum.inr (Sum.inr (Sum.inr (Rs.ints (BI.take m2))))), some (Sum.inr (Sum.inr (Sum.inr (Rs.ints m3))))]))) ?_ (by kernel_rfl)
  refine ⟨fun _ => ⟨⟨by omega⟩, ⟨by omega, by omega⟩, ?_⟩, fun h => by cases h⟩
  refine loop_round (by kernel_rfl) retK_only ?_
  refine rx_ok (T := TFn) TFn_ok mixed 200 ?_
  refine as_text (q := (true = true → Vc ((0 : Int) ≤ (3 : Int) ∧ (3 : Int) < (4 : Int)) ∧ Vc True ∧ (decide (List.length (BI.xs m3) ≠ 0) = true → Post (G (Value.tuple (Array.mk [Value.int IntKind.i64 (List.getD (BI.xs m3) 0 (0 : Int)), Value.int IntKind.i64 3, Value.bool true])) [some (Sum.inl (25, [Value.pointer (some (Addr.mk 1 0 none)), Value.pointer (some (Addr.mk 2 0 none)), Value.pointer none, Value.pointer (some (Addr.mk 3 0 none))])), some (Sum.inr (Sum.inr (Sum.inr (Rs.ints (BI.take m1))))), some (Sum.inr (Sum.inr (Sum.inr (Rs.ints (BI.take m2))))), some (Sum.inr (Sum.inr (Sum.inr (Rs.ints (BI.take m3)))))])) ∧ (decide (List.length (BI.xs m3) ≠ 0) = false → Vc (fits (4 : Int)) ∧ At D Try.prog (codeOf Try.f17) 4 (retK Try.prog (Array.toList (Func.results Try.f17)) G) [Sum.inl [1, 0, 1, 0], Sum.inr (Sum.inl 0), Sum.inl [1, 1]] (SS.mk [some (Value.slice (some (Addr.mk 0 0 none)) 4 4), none, some (Value.int IntKind.i64 0), some (Value.int IntKind.i64 0), some (Value.bool false), some (Value.int IntKind.i64 3), some (Value.pointer (some (Addr.mk 3 0 none))), some (Value.int IntKind.i64 (List.getD (BI.xs m3) 0 (0 : Int))), some (Value.bool (decide (List.length (BI.xs m3) ≠ 0))), none, some (Value.slice (some (Addr.mk 0 0 none)) 4 4), some (Value.int IntKind.i64 4), some (Value.int IntKind.i64 4), some (Value.bool true), some (Value.int IntKind.i64 3), some (Value.pointer (some (Addr.mk 0 3 none))), some (Value.pointer (some (Addr.mk 3 0 none))), some (Value.pointer (some (Addr.mk 3 0 none))), some (Value.bool false), some (Value.tuple (Array.mk [Value.int IntKind.i64 (List.getD (BI.xs m3) 0 (0 : Int)), Value.bool (decide (List.length (BI.xs m3) ≠ 0))])), some (Value.pointer (some (Addr.mk 3 0 none))), some (Value.tuple (Array.mk [Value.int IntKind.i64 (List.getD (BI.xs m3) 0 (0 : Int)), Value.bool (decide (List.length (BI.xs m3) ≠ 0))])), some (Value.int IntKind.i64 (List.getD (BI.xs m3) 0 (0 : Int))), some (Value.bool (decide (List.length (BI.xs m3) ≠ 0))), some (Value.bool false), none, none, some (Value.int IntKind.i64 4), none] [(24, false), (18, false), (13, true), (4, false)] [some (Sum.inl (25, [Value.pointer (some (Addr.mk 1 0 none)), Value.pointer (some (Addr.mk 2 0 none)), Value.pointer none, Value.pointer (some (Addr.mk 3 0 none))])), some (Sum.inr (Sum.inr (Sum.inr (Rs.ints (BI.take m1))))), some (Sum.inr (Sum.inr (Sum.inr (Rs.ints (BI.take m2))))), some (Sum.inr (Sum.inr (Sum.inr (Rs.ints (BI.take m3)))))]))) ∧ (true = false → Post (G (Value.tuple (Array.mk [Value.int IntKind.i64 0, Value.int IntKind.i64 (-1 : Int), Value.bool false])) [some (Sum.inl (25, [Value.pointer (some (Addr.mk 1 0 none)), Value.pointer (some (Addr.mk 2 0 none)), Value.pointer none, Value.pointer (some (Addr.mk 3 0 none))])), some (Sum.inr (Sum.inr (Sum.inr (Rs.ints (BI.take m1))))), some (Sum.inr (Sum.inr (Sum.inr (Rs.ints (BI.take m2))))), some (Sum.inr (Sum.inr (Sum.inr (Rs.ints m3))))]))) ?_ (by kernel_rfl)
  refine ⟨fun _ => ⟨⟨by omega⟩, ⟨trivial⟩, fun h => ⟨?_⟩, fun h => ⟨⟨by omega, by omega⟩, ?_⟩⟩, fun h => by cases h⟩
  · have h3 := BI.has_t (of_decide_eq_true h)
    simp only [pickV, pickK, pickB, BI.takeIf, BI.has_f h1, BI.has_f h2, h3, Bool.or_true, Bool.false_or, Bool.not_true, Bool.not_false, cond_true, cond_false] at hG
    exact hG
  have h3 := of_decide_eq_false h
  clear h
  refine loop_round (by kernel_rfl) retK_only ?_
  refine rx_ok (T := TFn) TFn_ok mixed 200 ?_
  refine as_text (q := (false = true → Vc ((0 : Int) ≤ (4 : Int) ∧ (4 : Int) < (4 : Int)) ∧ Stuck 2) ∧ (false = false → Post (G (Value.tuple (Array.mk [Value.int IntKind.i64 0, Value.int IntKind.i64 (-1 : Int), Value.bool false])) [some (Sum.inl (25, [Value.pointer (some (Addr.mk 1 0 none)), Value.pointer (some (Addr.mk 2 0 none)), Value.pointer none, Value.pointer (some (Addr.mk 3 0 none))])), some (Sum.inr (Sum.inr (Sum.inr (Rs.ints (BI.take m1))))), some (Sum.inr (Sum.inr (Sum.inr (Rs.ints (BI.take m2))))), some (Sum.inr (Sum.inr (Sum.inr (Rs.ints (BI.take m3)))))]))) ?_ (by kernel_rfl)
  refine ⟨(fun h => by cases h), fun _ => ⟨?_⟩⟩
  simp only [pickV, pickK, pickB, BI.takeIf, BI.has_f h1, BI.has_f h2, BI.has_f h3, BI.zero h3, Bool.or_false, Bool.not_false, cond_true, cond_false] at hG
  exact hG
theorem pick2_run {G : Value → Hp Rs → Prop} (hG : G (.tuple #[.int .i64 0, .int .i64 (-1), .bool false]) [arrI [.pointer none, .pointer none]]) :
    At D Try.prog (codeOf Try.f17) 1 (retK Try.prog Try.f17.results.toList G) [.inl []] ⟨someL [.slice (some ⟨0, 0, none⟩) 2 2] ++ List.replicate (Try.f17.ntmps - 1) none, [], [arrI [.pointer none, .pointer none]]⟩ := by
  refine rx_ok (T := TFn) TFn_ok mixed 200 ?_
  refine as_text (q := At D Try.prog (codeOf Try.f17) 1 (retK Try.prog (Array.toList (Func.results Try.f17)) G) [Sum.inl [1, 0, 1, 0], Sum.inr (Sum.inl 0), Sum.inl [1, 1]] (SS.mk [some (Value.slice (some (Addr.mk 0 0 none)) 2 2), none, some (Value.int IntKind.i64 0), some (Value.int IntKind.i64 0), some (Value.bool false), none, none, none, none, none, some (Value.slice (some (Addr.mk 0 0 none)) 2 2), some (Value.int IntKind.i64 2), some (Value.int IntKind.i64 0), none, none, none, none, none, none, none, none, none, none, none, none, none, none, none, none] [(4, false)] [some (Sum.inl (25, [Value.pointer none, Value.pointer none]))])) ?_ (by kernel_rfl)
  refine loop_round (by kernel_rfl) retK_only ?_
  refine rx_ok (T := TFn) TFn_ok mixed 200 ?_
  refine as_text (q := (true = true → Vc ((0 : Int) ≤ (0 : Int) ∧ (0 : Int) < (2 : Int)) ∧ Vc (fits (1 : Int)) ∧ At D Try.prog (codeOf Try.f17) 1 (retK Try.prog (Array.toList (Func.results Try.f17)) G) [Sum.inl [1, 0, 1, 0], Sum.inr (Sum.inl 0), Sum.inl [1, 1]] (SS.mk [some (Value.slice (some (Addr.mk 0 0 none)) 2 2), none, some (Value.int IntKind.i64 0), some (Value.int IntKind.i64 0), some (Value.bool false), some (Value.int IntKind.i64 0), some (Value.pointer none), none, none, none, some (Value.slice (some (Addr.mk 0 0 none)) 2 2), some (Value.int IntKind.i64 2), some (Value.int IntKind.i64 1), some (Value.bool true), some (Value.int IntKind.i64 0), some (Value.pointer (some (Addr.mk 0 0 none))), some (Value.pointer none), some (Value.pointer none), some (Value.bool true), none, none, none, none, none, none, none, none, some (Value.int IntKind.i64 1), none] [(18, true), (13, true), (4, false)] [some (Sum.inl (25, [Value.pointer none, Value.pointer none]))])) ∧ (true = false → Post (G (Value.tuple (Array.mk [Value.int IntKind.i64 0, Value.int IntKind.i64 (-1 : Int), Value.bool false])) [some (Sum.inl (25, [Value.pointer none, Value.pointer none]))]))) ?_ (by kernel_rfl)
  refine ⟨fun _ => ⟨⟨by omega⟩, ⟨by omega, by omega⟩, ?_⟩, fun h => by cases h⟩
  refine loop_round (by kernel_rfl) retK_only ?_
  refine rx_ok (T := TFn) TFn_ok mixed 200 ?_
  refine as_text (q := (true = true → Vc ((0 : Int) ≤ (1 : Int) ∧ (1 : Int) < (2 : Int)) ∧ Vc (fits (2 : Int)) ∧ At D Try.prog (codeOf Try.f17) 1 (retK Try.prog (Array.toList (Func.results Try.f17)) G) [Sum.inl [1, 0, 1, 0], Sum.inr (Sum.inl 0), Sum.inl [1, 1]] (SS.mk [some (Value.slice (some (Addr.mk 0 0 none)) 2 2), none, some (Value.int IntKind.i64 0), some (Value.int IntKind.i64 0), some (Value.bool false), some (Value.int IntKind.i64 1), some (Value.pointer none), none, none, none, some (Value.slice (some (Addr.mk 0 0 none)) 2 2), some (Value.int IntKind.i64 2), some (Value.int IntKind.i64 2), some (Value.bool true), some (Value.int IntKind.i64 1), some (Value.pointer (some (Addr.mk 0 1 none))), some (Value.pointer none), some (Value.pointer none), some (Value.bool true), none, none, none, none, none, none, none, none, some (Value.int IntKind.i64 2), none] [(18, true), (13, true), (4, false)] [some (Sum.inl (25, [Value.pointer none, Value.pointer none]))])) ∧ (true = false → Post (G (Value.tuple (Array.mk [Value.int IntKind.i64 0, Value.int IntKind.i64 (-1 : Int), Value.bool false])) [some (Sum.inl (25, [Value.pointer none, Value.pointer none]))]))) ?_ (by kernel_rfl)
  refine ⟨fun _ => ⟨⟨by omega⟩, ⟨by omega, by omega⟩, ?_⟩, fun h => by cases h⟩
  refine loop_round (by kernel_rfl) retK_only ?_
  refine rx_ok (T := TFn) TFn_ok mixed 200 ?_
  refine as_text (q := (false = true → Vc ((0 : Int) ≤ (2 : Int) ∧ (2 : Int) < (2 : Int)) ∧ Stuck 2) ∧ (false = false → Post (G (Value.tuple (Array.mk [Value.int IntKind.i64 0, Value.int IntKind.i64 (-1 : Int), Value.bool false])) [some (Sum.inl (25, [Value.pointer none, Value.pointer none]))]))) ?_ (by kernel_rfl)
  refine ⟨(fun h => by cases h), fun _ => ⟨?_⟩⟩
  exact hG
def pickP : Prim Rs := fun args hh => match args, hh with
  | [.slice (some ⟨0, 0, none⟩) 4 4], [some (.inl (25, [.pointer (some ⟨1, 0, none⟩), .pointer (some ⟨2, 0, none⟩), .pointer none, .pointer (some ⟨3, 0, none⟩)])), some (.inr (.inr (.inr (.ints m1)))), some (.inr (.inr (.inr (.ints m2)))), some (.inr (.inr (.inr (.ints m3))))] =>
    some ⟨True, .tuple #[.int .i64 (pickV m1 m2 m3), .int .i64 (pickK m1 m2 m3), .bool (pickB m1 m2 m3)], none, [arrI p4, bI m1.take, bI (m2.takeIf (!m1.has)), bI (m3.takeIf (!(m1.has || m2.has)))], [], [(0, 0)]⟩
  | [.slice (some ⟨0, 0, none⟩) 2 2], [some (.inl (25, [.pointer none, .pointer none]))] => some ⟨True, .tuple #[.int .i64 0, .int .i64 (-1), .bool false], none, hh, [], []⟩
  | [.slice none 0 0], [] => some ⟨True, .tuple #[.int .i64 0, .int .i64 (-1), .bool false], none, hh, [], []⟩
  | _, _ => none
theorem pick_ok : ConOk D Try.prog 17 (con1 pickP) := by
  refine con1_ok (prim_at (fn := Try.f17) (root := codeOf Try.f17) (by kernel_rfl) (by kernel_rfl) (by kernel_rfl) fun args hh x hx => ?_)
  unfold pickP at hx
  split at hx
  · rename_i m1 m2 m3
    injection hx with hx
    subst hx
    refine ⟨Nat.le_refl _, noLit rfl, (fun hw => by cases hw), fun _ _ => pick4_run m1 m2 m3 ?_⟩
    exact ⟨⟨[0, 1, 2, 3], rfl, rfl, ⟨.inl rfl, rfl, rfl, rfl, trivial⟩, rfl, rfl, rfl, rfl⟩⟩
  · injection hx with hx
    subst hx
    refine ⟨Nat.le_refl _, noLit rfl, (fun _ => rfl), fun _ _ => pick2_run ?_⟩
    exact ⟨⟨[0], rfl, rfl, ⟨.inl rfl, trivial⟩, rfl, rfl, rfl, rfl⟩⟩
  · injection hx with hx
    subst hx
    refine ⟨Nat.le_refl _, noLit rfl, (fun _ => rfl), fun _ _ => ?_⟩
    generalize hG : Rx.Ends (R := Rs) _ _ = G
    refine rx_ok (T := TFn) TFn_ok mixed 200 ?_
    refine as_text (q := At D Try.prog (codeOf Try.f17) 0 (retK Try.prog (Array.toList (Func.results Try.f17)) G) [Sum.inl [1, 0, 1, 0], Sum.inr (Sum.inl 0), Sum.inl [1, 1]] (SS.mk [some (Value.slice none 0 0), none, some (Value.int IntKind.i64 0), some (Value.int IntKind.i64 0), some (Value.bool false), none, none, none, none, none, some (Value.slice none 0 0), some (Value.int IntKind.i64 0), some (Value.int IntKind.i64 0), none, none, none, none, none, none, none, none, none, none, none, none, none, none, none, none] [(4, false)] [])) ?_ (by kernel_rfl)
    refine loop_round (by kernel_rfl) retK_only ?_
    refine rx_ok (T := TFn) TFn_ok mixed 200 ?_
    refine as_text (q := (false = true → Stuck 2) ∧ (false = false → Post (G (Value.tuple (Array.mk [Value.int IntKind.i64 0, Value.int IntKind.i64 (-1 : Int), Value.bool false])) []))) ?_ (by kernel_rfl)
    refine ⟨(fun h => by cases h), fun _ => ⟨?_⟩⟩
    subst hG
    exact ⟨⟨[], rfl, rfl, trivial, rfl, rfl, rfl, rfl⟩⟩
  · cases hx
theorem BS.has_t {m : BS} (h : m.xs.length ≠ 0) : m.has = true := decide_eq_true h
theorem BS.has_f {m : BS} (h : ¬ m.xs.length ≠ 0) : m.has = false := decide_eq_false h
theorem BS.zero {m : BS} (h : ¬ m.xs.length ≠ 0) : m.xs.getD 0 ⟨#[]⟩ = ⟨#[]⟩ := by
  have : m.xs = [] := List.eq_nil_of_length_eq_zero (by omega)
  rw [this]; rfl
def pickSP : Prim Rs := fun args hh => match args, hh with
  | [.slice (some ⟨0, 0, none⟩) 1 1], [some (.inl (52, [.pointer (some ⟨1, 0, none⟩)])), some (.inr (.inr (.inr (.texts m))))] => some ⟨True, .tuple #[.string (m.xs.getD 0 ⟨#[]⟩), .int .i64 (bif m.has then 0 else -1), .bool m.has], none, [some (.inl (52, [.pointer (some ⟨1, 0, none⟩)])), some (.inr (.inr (.inr (.texts m.take))))], [], [(0, 0)]⟩
  | _, _ => none
theorem pickS_ok : ConOk D Try.prog 29 (con1 pickSP) := by
  refine con1_ok (prim_at (fn := Try.f29) (root := codeOf Try.f29) (by kernel_rfl) (by kernel_rfl) (by kernel_rfl) fun args hh x hx => ?_)
  unfold pickSP at hx
  split at hx
  · rename_i m
    injection hx with hx
    subst hx
    refine ⟨by first | exact Nat.le_refl _ | exact Nat.zero_le _ | exact Nat.le_succ _, noLit rfl, (fun hw => by first | rfl | cases hw), fun _ hv => ?_⟩
    generalize hG : Rx.Ends (R := Rs) _ _ = G
    refine rx_ok (T := TFn) TFn_ok mixed 200 ?_
    refine as_text (q := At D Try.prog (codeOf Try.f29) 2 (retK Try.prog (Array.toList (Func.results Try.f29)) G) [Sum.inl [1, 0, 1, 0], Sum.inr (Sum.inl 0), Sum.inl [1, 1]] (SS.mk [some (Value.slice (some (Addr.mk 0 0 none)) 1 1), none, some (Value.string (ByteArray.mk #[])), some (Value.int IntKind.i64 0), some (Value.bool false), none, none, none, none, none, some (Value.slice (some (Addr.mk 0 0 none)) 1 1), some (Value.int IntKind.i64 1), some (Value.int IntKind.i64 0), none, none, none, none, none, none, none, none, none, none, none, none, none, none, none, none] [(4, false)] [some (Sum.inl (52, [Value.pointer (some (Addr.mk 1 0 none))])), some (Sum.inr (Sum.inr (Sum.inr (Rs.texts m))))])) ?_ (by kernel_rfl)
    refine loop_round (by kernel_rfl) retK_only ?_
    refine rx_ok (T := TFn) TFn_ok mixed 200 ?_
    refine as_text (q := (true = true → Vc ((0 : Int) ≤ (0 : Int) ∧ (0 : Int) < (1 : Int)) ∧ Vc True ∧ (decide (List.length (BS.xs m) ≠ 0) = true → Post (G (Value.tuple (Array.mk [Value.string (List.getD (BS.xs m) 0 (ByteArray.mk #[])), Value.int IntKind.i64 0, Value.bool true])) [some (Sum.inl (52, [Value.pointer (some (Addr.mk 1 0 none))])), some (Sum.inr (Sum.inr (Sum.inr (Rs.texts (BS.take m)))))])) ∧ (decide (List.length (BS.xs m) ≠ 0) = false → Vc (fits (1 : Int)) ∧ At D Try.prog (codeOf Try.f29) 2 (retK Try.prog (Array.toList (Func.results Try.f29)) G) [Sum.inl [1, 0, 1, 0], Sum.inr (Sum.inl 0), Sum.inl [1, 1]] (SS.mk [some (Value.slice (some (Addr.mk 0 0 none)) 1 1), none, some (Value.string (ByteArray.mk #[])), some (Value.int IntKind.i64 0), some (Value.bool false), some (Value.int IntKind.i64 0), some (Value.pointer (some (Addr.mk 1 0 none))), some (Value.string (List.getD (BS.xs m) 0 (ByteArray.mk #[]))), some (Value.bool (decide (List.length (BS.xs m) ≠ 0))), none, some (Value.slice (some (Addr.mk 0 0 none)) 1 1), some (Value.int IntKind.i64 1), some (Value.int IntKind.i64 1), some (Value.bool true), some (Value.int IntKind.i64 0), some (Value.pointer (some (Addr.mk 0 0 none))), some (Value.pointer (some (Addr.mk 1 0 none))), some (Value.pointer (some (Addr.mk 1 0 none))), some (Value.bool false), some (Value.tuple (Array.mk [Value.string (List.getD (BS.xs m) 0 (ByteArray.mk #[])), Value.bool (decide (List.length (BS.xs m) ≠ 0))])), some (Value.pointer (some (Addr.mk 1 0 none))), some (Value.tuple (Array.mk [Value.string (List.getD (BS.xs m) 0 (ByteArray.mk #[])), Value.bool (decide (List.length (BS.xs m) ≠ 0))])), some (Value.string (List.getD (BS.xs m) 0 (ByteArray.mk #[]))), some (Value.bool (decide (List.length (BS.xs m) ≠ 0))), some (Value.bool false), none, none, some (Value.int IntKind.i64 1), none] [(24, false), (18, false), (13, true), (4, false)] [some (Sum.inl (52, [Value.pointer (some (Addr.mk 1 0 none))])), some (Sum.inr (Sum.inr (Sum.inr (Rs.texts (BS.take m)))))]))) ∧ (true = false → Post (G (Value.tuple (Array.mk [Value.string (ByteArray.mk #[]), Value.int IntKind.i64 (-1 : Int), Value.bool false])) [some (Sum.inl (52, [Value.pointer (some (Addr.mk 1 0 none))])), some (Sum.inr (Sum.inr (Sum.inr (Rs.texts m))))]))) ?_ (by kernel_rfl)
    refine ⟨fun _ => ⟨⟨by omega⟩, ⟨trivial⟩, fun h => ⟨?_⟩, fun h => ⟨⟨by omega, by omega⟩, ?_⟩⟩, fun h => by cases h⟩
    · have h1 := BS.has_t (of_decide_eq_true h)
      subst hG
      rw [h1]
      exact ⟨⟨[0, 1], rfl, rfl, ⟨.inl rfl, rfl, trivial⟩, rfl, rfl, rfl, rfl⟩⟩
    have h1 := of_decide_eq_false h
    clear h
    refine loop_round (by kernel_rfl) retK_only ?_
    refine rx_ok (T := TFn) TFn_ok mixed 200 ?_
    refine as_text (q := (false = true → Vc ((0 : Int) ≤ (1 : Int) ∧ (1 : Int) < (1 : Int)) ∧ Stuck 2) ∧ (false = false → Post (G (Value.tuple (Array.mk [Value.string (ByteArray.mk #[]), Value.int IntKind.i64 (-1 : Int), Value.bool false])) [some (Sum.inl (52, [Value.pointer (some (Addr.mk 1 0 none))])), some (Sum.inr (Sum.inr (Sum.inr (Rs.texts (BS.take m)))))]))) ?_ (by kernel_rfl)
    refine ⟨(fun h => by cases h), fun _ => ⟨?_⟩⟩
    subst hG
    rw [BS.has_f h1, BS.zero h1]
    exact ⟨⟨[0, 1], rfl, rfl, ⟨.inl rfl, rfl, trivial⟩, rfl, rfl, rfl, rfl⟩⟩
  · cases hx
/-- how many go over -/
def pourN (m n : BI) : Nat := bif n.closed then 0 else min m.xs.length (n.cap - n.xs.length)
def BI.drop (m : BI) (k : Nat) : BI := ⟨m.cap, m.xs.drop k, m.closed⟩
def BI.more (n m : BI) (k : Nat) : BI := ⟨n.cap, n.xs ++ m.xs.take k, n.closed⟩
structure BI.Ok (m : BI) : Prop where
  cap1 : 1 ≤ m.cap
  cap : m.cap ≤ 1000
  len : m.xs.length ≤ m.cap
theorem BI.drop_take (m : BI) (k : Nat) : (m.drop k).take = m.drop (k + 1) := by
  simp [BI.drop, BI.take]
theorem BI.more_offer (n m : BI) (k : Nat) (hc : n.closed = false) (hr : n.xs.length + k < n.cap) (hk : k < m.xs.length) : (n.more m k).offer ((m.drop k).xs.getD 0 0) = n.more m (k + 1) := by
  have ht : (n.more m k).takes = true := by
    simp only [BI.takes, BI.more, hc, Bool.not_false, Bool.true_and, Nat.blt_eq, List.length_append, List.length_take]
    omega
  have e : m.xs.take (k + 1) = m.xs.take k ++ [(m.drop k).xs.getD 0 0] := by
    rw [take_succ_getD 0 hk]
    simp [BI.drop, List.getD_eq_getElem?_getD]
  unfold BI.offer
  rw [ht]
  simp only [BI.more, cond_true, e, List.append_assoc]
theorem pour_run {G : Value → Hp Rs → Prop} (m n : BI) (hm : m.Ok) (hn : n.Ok) (hG : G (.int .i64 (pourN m n)) [bI (m.drop (pourN m n)), bI (n.more m (pourN m n))]) :
    At D Try.prog (codeOf Try.f20) 2 (retK Try.prog Try.f20.results.toList G) [.inl []] ⟨someL [.pointer (some ⟨0, 0, none⟩), .pointer (some ⟨1, 0, none⟩)] ++ List.replicate (Try.f20.ntmps - 2) none, [], [bI m, bI n]⟩ := by
  obtain ⟨m1, m2, m3⟩ := hm
  obtain ⟨n1, n2, n3⟩ := hn
  refine rx_ok (T := TFn) TFn_ok mixed 200 ?_
  refine as_text (q := (BI.closed n = true → Post (G (Value.int IntKind.i64 0) [some (Sum.inr (Sum.inr (Sum.inr (Rs.ints m)))), some (Sum.inr (Sum.inr (Sum.inr (Rs.ints n))))])) ∧ (BI.closed n = false → Vc True ∧ Vc True ∧ Vc True ∧ Vc (fits ((↑(BI.cap n) : Int) - (↑(List.length (BI.xs n)) : Int))) ∧ At D Try.prog (codeOf Try.f20) 2 (retK Try.prog (Array.toList (Func.results Try.f20)) G) [Sum.inl [1, 1, 1, 0, 1, 0], Sum.inr (Sum.inl 0), Sum.inl [1, 1, 1, 1]] (SS.mk [some (Value.pointer (some (Addr.mk 0 0 none))), some (Value.pointer (some (Addr.mk 1 0 none))), none, none, some (Value.int IntKind.i64 0), some (Value.int IntKind.i64 (if (↑(BI.cap n) : Int) - (↑(List.length (BI.xs n)) : Int) < (↑(List.length (BI.xs m)) : Int) then (↑(BI.cap n) : Int) - (↑(List.length (BI.xs n)) : Int) else (↑(List.length (BI.xs m)) : Int))), none, none, some (Value.pointer (some (Addr.mk 0 0 none))), some (Value.bool false), some (Value.bool false), some (Value.pointer (some (Addr.mk 1 0 none))), some (Value.bool false), some (Value.bool false), some (Value.bool false), some (Value.pointer (some (Addr.mk 0 0 none))), some (Value.pointer (some (Addr.mk 1 0 none))), some (Value.bool false), some (Value.bool false), some (Value.bool false), some (Value.pointer (some (Addr.mk 1 0 none))), some (Value.pointer (some (Addr.mk 1 0 none))), some (Value.pointer (some (Addr.mk 1 1 none))), some (Value.bool (BI.closed n)), some (Value.bool false), some (Value.pointer (some (Addr.mk 0 0 none))), some (Value.int IntKind.i64 (↑(List.length (BI.xs m)) : Int)), some (Value.pointer (some (Addr.mk 1 0 none))), some (Value.int IntKind.i64 (↑(BI.cap n) : Int)), some (Value.pointer (some (Addr.mk 1 0 none))), some (Value.int IntKind.i64 (↑(List.length (BI.xs n)) : Int)), some (Value.int IntKind.i64 ((↑(BI.cap n) : Int) - (↑(List.length (BI.xs n)) : Int))), some (Value.int IntKind.i64 (if (↑(BI.cap n) : Int) - (↑(List.length (BI.xs n)) : Int) < (↑(List.length (BI.xs m)) : Int) then (↑(BI.cap n) : Int) - (↑(List.length (BI.xs n)) : Int) else (↑(List.length (BI.xs m)) : Int))), some (Value.int IntKind.i64 (if (↑(BI.cap n) : Int) - (↑(List.length (BI.xs n)) : Int) < (↑(List.length (BI.xs m)) : Int) then (↑(BI.cap n) : Int) - (↑(List.length (BI.xs n)) : Int) else (↑(List.length (BI.xs m)) : Int))), some (Value.int IntKind.i64 0), none, none, none, none, none, none, none, none, none, none, none] [(24, false), (19, false), (18, false), (17, false), (14, false), (13, false), (12, false), (10, false), (9, false)] [some (Sum.inr (Sum.inr (Sum.inr (Rs.ints m)))), some (Sum.inr (Sum.inr (Sum.inr (Rs.ints n))))]))) ?_ (by kernel_rfl)
  refine ⟨fun h => ⟨?_⟩, fun h => ⟨⟨trivial⟩, ⟨trivial⟩, ⟨trivial⟩, ⟨⟨by omega, by omega⟩⟩, ?_⟩⟩
  · have hk : pourN m n = 0 := by simp [pourN, h]
    rw [hk] at hG
    simpa [bI, BI.drop, BI.more] using hG
  have hk : pourN m n = min m.xs.length (n.cap - n.xs.length) := by simp [pourN, h]
  generalize pourN m n = k at hG hk
  have hE : (if (n.cap : Int) - (n.xs.length : Int) < (m.xs.length : Int) then (n.cap : Int) - (n.xs.length : Int) else (m.xs.length : Int)) = (k : Int) := by
    split <;> omega
  rw [hE]
  refine loop_atM (by kernel_rfl) (ι := Nat) (fun i => i ≤ k) [0, 1, 5, 33, 34] (fun i => [.pointer (some ⟨0, 0, none⟩), .pointer (some ⟨1, 0, none⟩), .int .i64 k, .int .i64 k, .int .i64 i]) (fun i => [bI (m.drop i), bI (n.more m i)]) (fun i => k - i) 46 (fun i hi => ⟨rfl, rfl, Nat.le_refl _⟩) ⟨0, Nat.zero_le _, ⟨[0, 1], rfl, ⟨by simp [pullB, nth, at2, BI.drop], by simp [pullB, nth, at2, BI.more], trivial⟩, rfl, rfl, rfl, rfl⟩⟩ fun i hi => ?_
  refine rx_ok (T := TFn) TFn_ok mixed 200 ?_
  refine as_text (q := (decide ((↑i : Int) < (↑k : Int)) = true → Vc True ∧ Vc True ∧ Vc (fits ((↑i : Int) + (1 : Int))) ∧ Post (∃ j, j ≤ k ∧ k - j < k - i ∧ FitsM Rs 2 46 [0, 1, 5, 33, 34] [Value.pointer (some (Addr.mk 0 0 none)), Value.pointer (some (Addr.mk 1 0 none)), Value.int IntKind.i64 (↑k : Int), Value.int IntKind.i64 (↑k : Int), Value.int IntKind.i64 (↑j : Int)] [bI (BI.drop m j), bI (BI.more n m j)] [some (Value.pointer (some (Addr.mk 0 0 none))), some (Value.pointer (some (Addr.mk 1 0 none))), some (Value.int IntKind.i64 (↑k : Int)), some (Value.int IntKind.i64 (↑k : Int)), some (Value.int IntKind.i64 ((↑i : Int) + (1 : Int)))] [some (Sum.inr (Sum.inr (Sum.inr (Rs.ints (BI.take (BI.drop m i)))))), some (Sum.inr (Sum.inr (Sum.inr (Rs.ints (BI.offer (BI.more n m i) (List.getD (BI.xs (BI.drop m i)) 0 (0 : Int)))))))] 46)) ∧ (decide ((↑i : Int) < (↑k : Int)) = false → Post (G (Value.int IntKind.i64 (↑k : Int)) [some (Sum.inr (Sum.inr (Sum.inr (Rs.ints (BI.drop m i))))), some (Sum.inr (Sum.inr (Sum.inr (Rs.ints (BI.more n m i)))))]))) ?_ (by kernel_rfl)
  refine ⟨fun h' => ⟨⟨trivial⟩, ⟨trivial⟩, ⟨by omega, by omega⟩, ⟨?_⟩⟩, fun h' => ⟨?_⟩⟩
  · have hi' : i < k := by have := of_decide_eq_true h'; omega
    refine ⟨i + 1, hi', by omega, ⟨[0, 1], rfl, ⟨?_, ?_, trivial⟩, rfl, rfl, rfl, rfl⟩⟩
    · simp [pullB, nth, at2, BI.drop_take]
    · have := n.more_offer m i h (by omega) (by omega)
      simp only [pullB, nth, at2]
      rw [← this]
      rfl
  · have hi' : i = k := by have := of_decide_eq_false h'; omega
    subst hi'
    exact hG
def pourP : Prim Rs := fun args hh => match args, hh with
  | [.pointer (some ⟨0, 0, none⟩), .pointer (some ⟨1, 0, none⟩)], [some (.inr (.inr (.inr (.ints m)))), some (.inr (.inr (.inr (.ints n))))] =>
    some ⟨m.Ok ∧ n.Ok, .int .i64 (pourN m n), none, [bI (m.drop (pourN m n)), bI (n.more m (pourN m n))], [], [(0, 0)]⟩
  | [.pointer (some ⟨0, 0, none⟩), .pointer (some ⟨0, 0, none⟩)], [some (.inr (.inr (.inr (.ints m))))] => some ⟨True, .int .i64 0, none, hh, [], []⟩
  | [.pointer none, .pointer (some ⟨0, 0, none⟩)], [some (.inr (.inr (.inr (.ints m))))] => some ⟨True, .int .i64 0, none, hh, [], []⟩
  | [.pointer (some ⟨0, 0, none⟩), .pointer none], [some (.inr (.inr (.inr (.ints m))))] => some ⟨True, .int .i64 0, none, hh, [], []⟩
  | _, _ => none
theorem pour_ok : ConOk D Try.prog 20 (con1 pourP) := by
  refine con1_ok (prim_at (fn := Try.f20) (root := codeOf Try.f20) (by kernel_rfl) (by kernel_rfl) (by kernel_rfl) fun args hh x hx => ?_)
  unfold pourP at hx
  split at hx
  · rename_i m n
    injection hx with hx
    subst hx
    refine ⟨Nat.le_refl _, noLit rfl, (fun hw => by cases hw), fun _ hv => pour_run m n hv.1 hv.2 ?_⟩
    exact ⟨⟨[0, 1], rfl, rfl, ⟨rfl, rfl, trivial⟩, rfl, rfl, rfl, rfl⟩⟩
  · rename_i m
    injection hx with hx
    subst hx
    refine ⟨Nat.le_refl _, noLit rfl, (fun _ => rfl), fun _ _ => ?_⟩
    refine rx_ok (T := TFn) TFn_ok mixed 200 ?_
    refine as_text (q := Post (Rx.Ends 1 (Out.mk True (Value.int IntKind.i64 0) none [some (Sum.inr (Sum.inr (Sum.inr (Rs.ints m))))] [] []) (Value.int IntKind.i64 0) [some (Sum.inr (Sum.inr (Sum.inr (Rs.ints m))))])) ?_ (by kernel_rfl)
    exact ⟨⟨⟨[0], rfl, rfl, ⟨rfl, trivial⟩, rfl, rfl, rfl, rfl⟩⟩⟩
  · rename_i m
    injection hx with hx
    subst hx
    refine ⟨Nat.le_refl _, noLit rfl, (fun _ => rfl), fun _ _ => ?_⟩
    refine rx_ok (T := TFn) TFn_ok mixed 200 ?_
    refine as_text (q := Post (Rx.Ends 1 (Out.mk True (Value.int IntKind.i64 0) none [some (Sum.inr (Sum.inr (Sum.inr (Rs.ints m))))] [] []) (Value.int IntKind.i64 0) [some (Sum.inr (Sum.inr (Sum.inr (Rs.ints m))))])) ?_ (by kernel_rfl)
    exact ⟨⟨⟨[0], rfl, rfl, ⟨rfl, trivial⟩, rfl, rfl, rfl, rfl⟩⟩⟩
  · rename_i m
    injection hx with hx
    subst hx
    refine ⟨Nat.le_refl _, noLit rfl, (fun _ => rfl), fun _ _ => ?_⟩
    refine rx_ok (T := TFn) TFn_ok mixed 200 ?_
    refine as_text (q := Post (Rx.Ends 1 (Out.mk True (Value.int IntKind.i64 0) none [some (Sum.inr (Sum.inr (Sum.inr (Rs.ints m))))] [] []) (Value.int IntKind.i64 0) [some (Sum.inr (Sum.inr (Sum.inr (Rs.ints m))))])) ?_ (by kernel_rfl)
    exact ⟨⟨⟨[0], rfl, rfl, ⟨rfl, trivial⟩, rfl, rfl, rfl, rfl⟩⟩⟩
  · cases hx
end Go.Proofs.Ytagiodenlhfgfaa.Bx
