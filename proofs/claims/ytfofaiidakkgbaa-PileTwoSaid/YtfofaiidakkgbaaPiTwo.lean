/- pile: the law PileTwo. -/
import Derived.Test.YtfofaiidakkgbaaPiAwake
import Derived.Test.YtfofaiidakkgbaaRxC
namespace Go.Proofs.Ytfofaiidakkgbaa.Pi
open Go.Proofs.Ytfofaiidakkgbaa.Rx
set_option linter.unusedVariables false
set_option linter.unusedSimpArgs false
set_option maxRecDepth 100000
def intsRow (a : List Int) : Row := ⟨[.int .i64 0], a.length, [colI a]⟩
def TT : Tab Rs := (7, liftC zN 2 (con1 awakeP)) :: TL
theorem TT_ok : TabOk D Try.prog TT := ⟨liftC_ok _ _ awake_ok, TL_ok⟩
theorem take_snoc {a : List Int} {n : Nat} (h0 : 0 < n) (h : n ≤ a.length) : a.take n = a.take (n - 1) ++ [a.getD (n - 1) 0] := by
  have := take_succ_getD (l := a) 0 (i := n - 1) (by omega)
  rwa [Nat.sub_add_cancel h0] at this
theorem drop_rev {a : List Int} {j : Nat} (h : j < a.length) : (a.drop j).reverse = (a.drop (j + 1)).reverse ++ [a.getD j 0] := by
  rw [List.drop_eq_getElem_cons h, List.reverse_cons, List.getD_eq_getElem?_getD, List.getElem?_eq_getElem h]
  rfl
def ones (xs : List Int) : PI := ⟨60, xs, [], [], false⟩
theorem ones_ok {xs : List Int} (h : xs.length ≤ 60) : (ones xs).Ok 60 := ⟨by simp [ones], by simp [ones], by simpa [ones] using h, by simp only [ones]; omega, fun _ => rfl⟩
theorem ones_push {xs : List Int} {v : Int} (h : xs.length < 60) : (ones xs).push v = ones (xs ++ [v]) ∧ (ones xs).gone v = 0 ∧ (ones xs).over = false := by
  have := PI.push_room (ones xs) v (by simp only [ones]; omega)
  exact this
theorem two_run {G : Value → Hp Rs → Prop} {a : List Int} (hG : ∀ hp, G (.bool true) hp) :
    At D Try.prog (codeOf Try.f6) 1 (retK Try.prog Try.f6.results.toList G) [.inl []] ⟨someL [.slice (some ⟨0, 0, some 1000⟩) a.length 0] ++ List.replicate (Try.f6.ntmps - 1) none, [], [some (.inr (.inr (.inl (intsRow a))))]⟩ := by
  refine rx_ok (T := TT) TT_ok mixed 200 ?_
  refine as_text (q := Vc True ∧ (false = false → (decide ((↑(List.length a) : Int) > (60 : Int)) = true → Vc True ∧ Post (G (Value.bool true) [some (Sum.inr (Sum.inr (Sum.inl (Row.mk [Value.int IntKind.i64 0] (List.length a) [Col.mk a [] []]))))])) ∧ (decide ((↑(List.length a) : Int) > (60 : Int)) = false → Vc True ∧ Vc True ∧ At D Try.prog (codeOf Try.f6) 1 (retK Try.prog (Array.toList (Func.results Try.f6)) G) [Sum.inl [1, 1, 1, 0, 1, 0], Sum.inr (Sum.inl 0), Sum.inl [1, 1, 1, 1]] (SS.mk [some (Value.slice (some (Addr.mk 0 0 (some 1000))) (List.length a) 0), none, some (Value.bool false), some (Value.pointer (some (Addr.mk 1 0 none))), some (Value.pointer (some (Addr.mk 2 0 none))), some (Value.int IntKind.i64 0), none, none, none, none, none, none, none, none, some (Value.bool true), some (Value.bool false), some (Value.bool false), some (Value.slice (some (Addr.mk 0 0 (some 1000))) (List.length a) 0), some (Value.int IntKind.i64 (↑(List.length a) : Int)), some (Value.bool (decide ((↑(List.length a) : Int) > (60 : Int)))), some (Value.bool false), none, some (Value.pointer (some (Addr.mk 1 0 none))), some (Value.pointer (some (Addr.mk 2 0 none))), none, none, none, none, none, none, none, none, none, none, none, none, none, none, none, none, none, none, none, none, none, none, none, none, none, none, none, none, none, none, none, none, none, none, none, none, none, none, none, none, none, none, none, none, none, none, none, none, none, none, none, none, none, none, none, none, none, none, none, none, none] [(20, false), (16, false), (2, false)] [some (Sum.inr (Sum.inr (Sum.inl (Row.mk [Value.int IntKind.i64 0] (List.length a) [Col.mk a [] []])))), some (Sum.inr (Sum.inr (Sum.inr (Rs.ints (PI.mk (60 : Int) [] [] [] false))))), some (Sum.inr (Sum.inr (Sum.inr (Rs.ints (PI.mk (60 : Int) [] [] [] false)))))]))) ∧ (false = true → Vc True ∧ Post (G (Value.bool true) [some (Sum.inr (Sum.inr (Sum.inl (Row.mk [Value.int IntKind.i64 0] (List.length a) [Col.mk a [] []]))))]))) ?_ (by kernel_rfl)
  refine ⟨⟨trivial⟩, fun _ => ⟨fun h => ⟨⟨trivial⟩, ⟨hG _⟩⟩, fun h => ⟨⟨trivial⟩, ⟨trivial⟩, ?_⟩⟩, fun h => by cases h⟩
  have hn : a.length ≤ 60 := by simp at h; omega
  clear h
  refine loop_atM (by kernel_rfl) (ι := Nat) (fun i => i ≤ a.length) [0, 3, 4, 5] (fun i => [.slice (some ⟨0, 0, some 1000⟩) a.length 0, .pointer (some ⟨1, 0, none⟩), .pointer (some ⟨2, 0, none⟩), .int .i64 i]) (fun i => [some (.inr (.inr (.inl (intsRow a)))), some (.inr (.inr (.inr (.ints (ones (a.take i)))))), some (.inr (.inr (.inr (.ints (ones [])))))]) (fun i => a.length - i) 85 (fun i hi => ⟨rfl, rfl, Nat.succ_le_succ (Nat.zero_le _)⟩) ⟨0, Nat.zero_le _, ⟨[0, 1, 2], rfl, ?_, rfl, rfl, rfl, rfl⟩⟩ fun i hi => ?_
  · simp [intsRow, ones, Pulls, pullB, nth, at2, dnL, dnV, mvL, mvV, mvA, mvQ_lt, blt_true, blt_false, RowLe, colI, colB]
  refine rx_ok (T := TT) TT_ok mixed 200 ?_
  refine as_text (q := (decide ((↑i : Int) < (↑(List.length a) : Int)) = true → Vc ((0 : Int) ≤ (↑i : Int) ∧ (↑i : Int) < (↑(List.length a) : Int) ∧ 0 + List.length a ≤ List.length a) ∧ Vc (0 + Int.toNat (↑i : Int) < List.length a) ∧ Vc (PI.Ok 20000 (ones (List.take i a))) ∧ (PI.over (ones (List.take i a)) = true → Post (G (Value.bool false) [some (Sum.inr (Sum.inr (Sum.inl (Row.mk [Value.int IntKind.i64 0] (List.length a) [Col.mk a [] []])))), some (Sum.inr (Sum.inr (Sum.inr (Rs.ints (PI.push (ones (List.take i a)) (List.getD a (0 + Int.toNat (↑i : Int)) (0 : Int))))))), some (Sum.inr (Sum.inr (Sum.inr (Rs.ints (ones [])))))])) ∧ (PI.over (ones (List.take i a)) = false → Vc (fits ((↑i : Int) + (1 : Int))) ∧ Post (∃ j, j ≤ List.length a ∧ List.length a - j < List.length a - i ∧ FitsM Rs 1 85 [0, 3, 4, 5] [Value.slice (some (Addr.mk 0 0 (some 1000))) (List.length a) 0, Value.pointer (some (Addr.mk 1 0 none)), Value.pointer (some (Addr.mk 2 0 none)), Value.int IntKind.i64 (↑j : Int)] [some (Sum.inr (Sum.inr (Sum.inl (intsRow a)))), some (Sum.inr (Sum.inr (Sum.inr (Rs.ints (ones (List.take j a)))))), some (Sum.inr (Sum.inr (Sum.inr (Rs.ints (ones [])))))] [some (Value.slice (some (Addr.mk 0 0 (some 1000))) (List.length a) 0), some (Value.pointer (some (Addr.mk 1 0 none))), some (Value.pointer (some (Addr.mk 2 0 none))), some (Value.int IntKind.i64 ((↑i : Int) + (1 : Int)))] [some (Sum.inr (Sum.inr (Sum.inl (Row.mk [Value.int IntKind.i64 0] (List.length a) [Col.mk a [] []])))), some (Sum.inr (Sum.inr (Sum.inr (Rs.ints (PI.push (ones (List.take i a)) (List.getD a (0 + Int.toNat (↑i : Int)) (0 : Int))))))), some (Sum.inr (Sum.inr (Sum.inr (Rs.ints (ones [])))))] 85))) ∧ (decide ((↑i : Int) < (↑(List.length a) : Int)) = false → At D Try.prog (codeOf Try.f6) 1 (retK Try.prog (Array.toList (Func.results Try.f6)) G) [Sum.inl [1, 1, 1, 1, 0, 1, 0], Sum.inr (Sum.inl 2), Sum.inl [1, 1, 1, 1, 1]] (SS.mk [some (Value.slice (some (Addr.mk 0 0 (some 1000))) (List.length a) 0), none, none, some (Value.pointer (some (Addr.mk 1 0 none))), some (Value.pointer (some (Addr.mk 2 0 none))), some (Value.int IntKind.i64 (↑i : Int)), none, none, some (Value.int IntKind.i64 0), none, none, none, none, none, none, none, none, none, none, none, none, none, none, none, some (Value.int IntKind.i64 (↑i : Int)), some (Value.slice (some (Addr.mk 0 0 (some 1000))) (List.length a) 0), some (Value.int IntKind.i64 (↑(List.length a) : Int)), some (Value.bool false), none, none, none, none, none, none, none, none, none, none, none, none, none, none, none, none, none, none, none, none, none, none, none, none, none, none, none, none, none, none, none, none, none, none, none, none, none, none, none, none, none, none, none, none, none, none, none, none, none, none, none, none, none, none, none, none, none] [(27, false)] [some (Sum.inr (Sum.inr (Sum.inl (Row.mk [Value.int IntKind.i64 0] (List.length a) [Col.mk a [] []])))), some (Sum.inr (Sum.inr (Sum.inr (Rs.ints (ones (List.take i a)))))), some (Sum.inr (Sum.inr (Sum.inr (Rs.ints (ones [])))))]))) ?_ (by kernel_rfl)
  (try simp only [Nat.zero_add, Int.toNat_natCast])
  refine ⟨fun h => ?_, fun h => ?_⟩
  · have hi' : i < a.length := by have h' := of_decide_eq_true h; omega
    have hl : (a.take i).length = i := by simp; omega
    obtain ⟨p1, p2, p3⟩ := ones_push (xs := a.take i) (v := a.getD i 0) (by omega)
    have ok : (ones (a.take i)).Ok 20000 := (ones_ok (by omega)).mono (by omega)
    rw [← take_succ_getD 0 hi'] at p1
    simp only [p1, p2, p3, Bool.false_eq_true, false_implies, forall_const, reduceCtorEq]
    repeat' (first | apply And.intro | apply Vc.mk | apply fits.mk | intro h | apply Post.mk)
    all_goals (try simp only [decide_eq_true_eq, decide_eq_false_iff_not, Nat.zero_add, ge_iff_le, Int.not_le, Int.not_lt, Int.toNat_natCast, beq_iff_eq, beq_eq_false_iff_ne, bne_iff_ne, bne_eq_false_iff_eq, Bool.not_eq_true', Bool.not_eq_false'] at *)
    all_goals first | contradiction | omega | (apply congrArg Value.bool; assumption) | exact ⟨rfl, by omega⟩ | exact rfl | (simp [*, -List.getD_eq_getElem?_getD]; done) | skip
    refine ⟨i + 1, by omega, by omega, ⟨[0, 1, 2], rfl, ?_, rfl, rfl, rfl, rfl⟩⟩
    simp [intsRow, Pulls, pullB, nth, at2, dnL, dnV, mvL, mvV, mvA, mvQ_lt, blt_true, blt_false, RowLe, colI, colB]
  · obtain rfl : i = a.length := by have h' := of_decide_eq_false h; omega
    clear hi h
    refine loop_atM (by kernel_rfl) (ι := Nat × PI) (fun s => s.1 ≤ a.length ∧ s.2.Ok 60 ∧ s.2.lim = 60 ∧ s.2.xs = a.take (a.length - s.1)) [0, 3, 4, 8] (fun s => [.slice (some ⟨0, 0, some 1000⟩) a.length 0, .pointer (some ⟨1, 0, none⟩), .pointer (some ⟨2, 0, none⟩), .int .i64 s.1]) (fun s => [some (.inr (.inr (.inl (intsRow a)))), some (.inr (.inr (.inr (.ints s.2)))), some (.inr (.inr (.inr (.ints (ones (a.drop (a.length - s.1)).reverse)))))]) (fun s => a.length - s.1) 85 (fun s hs => ⟨rfl, rfl, Nat.succ_le_succ (Nat.zero_le _)⟩) ⟨(0, ones a), ⟨Nat.zero_le _, ones_ok hn, rfl, by simp [ones]⟩, ⟨[0, 1, 2], rfl, ?_, rfl, rfl, rfl, rfl⟩⟩ fun s hs => ?_
    · simp [intsRow, ones, Pulls, pullB, nth, at2, dnL, dnV, mvL, mvV, mvA, mvQ_lt, blt_true, blt_false, RowLe, colI, colB]
    obtain ⟨k, m⟩ := s
    obtain ⟨o1, o2, o3, o4⟩ := hs
    simp only at o1 o2 o3 o4
    refine rx_ok (T := TT) TT_ok mixed 200 ?_
    refine as_text (q := (decide ((↑k : Int) < (↑(List.length a) : Int)) = true → Vc (PI.Ok 20000 m) ∧ ((!decide (List.length (PI.xs m) ≠ 0)) = true → Post (G (Value.bool false) [some (Sum.inr (Sum.inr (Sum.inl (Row.mk [Value.int IntKind.i64 0] (List.length a) [Col.mk a [] []])))), some (Sum.inr (Sum.inr (Sum.inr (Rs.ints (PI.pop m))))), some (Sum.inr (Sum.inr (Sum.inr (Rs.ints (ones (List.reverse (List.drop (List.length a - k) a)))))))])) ∧ ((!decide (List.length (PI.xs m) ≠ 0)) = false → Vc (PI.Ok 20000 (ones (List.reverse (List.drop (List.length a - k) a)))) ∧ Vc (fits ((↑k : Int) + (1 : Int))) ∧ Post (∃ j, (Prod.fst j ≤ List.length a ∧ PI.Ok 60 (Prod.snd j) ∧ PI.lim (Prod.snd j) = (60 : Int) ∧ PI.xs (Prod.snd j) = List.take (List.length a - Prod.fst j) a) ∧ List.length a - Prod.fst j < List.length a - k ∧ FitsM Rs 1 85 [0, 3, 4, 8] [Value.slice (some (Addr.mk 0 0 (some 1000))) (List.length a) 0, Value.pointer (some (Addr.mk 1 0 none)), Value.pointer (some (Addr.mk 2 0 none)), Value.int IntKind.i64 (↑(Prod.fst j) : Int)] [some (Sum.inr (Sum.inr (Sum.inl (intsRow a)))), some (Sum.inr (Sum.inr (Sum.inr (Rs.ints (Prod.snd j))))), some (Sum.inr (Sum.inr (Sum.inr (Rs.ints (ones (List.reverse (List.drop (List.length a - Prod.fst j) a)))))))] [some (Value.slice (some (Addr.mk 0 0 (some 1000))) (List.length a) 0), some (Value.pointer (some (Addr.mk 1 0 none))), some (Value.pointer (some (Addr.mk 2 0 none))), some (Value.int IntKind.i64 ((↑k : Int) + (1 : Int)))] [some (Sum.inr (Sum.inr (Sum.inl (Row.mk [Value.int IntKind.i64 0] (List.length a) [Col.mk a [] []])))), some (Sum.inr (Sum.inr (Sum.inr (Rs.ints (PI.pop m))))), some (Sum.inr (Sum.inr (Sum.inr (Rs.ints (PI.push (ones (List.reverse (List.drop (List.length a - k) a))) (PI.top m))))))] 85))) ∧ (decide ((↑k : Int) < (↑(List.length a) : Int)) = false → At D Try.prog (codeOf Try.f6) 1 (retK Try.prog (Array.toList (Func.results Try.f6)) G) [Sum.inl [1, 1, 1, 1, 1, 0, 1, 0], Sum.inr (Sum.inl 4), Sum.inl [1, 1, 1, 1, 1, 1]] (SS.mk [some (Value.slice (some (Addr.mk 0 0 (some 1000))) (List.length a) 0), none, none, some (Value.pointer (some (Addr.mk 1 0 none))), some (Value.pointer (some (Addr.mk 2 0 none))), none, none, none, some (Value.int IntKind.i64 (↑k : Int)), none, none, some (Value.int IntKind.i64 0), none, none, none, none, none, none, none, none, none, none, none, none, none, none, none, none, none, none, none, none, none, none, none, none, none, none, none, none, some (Value.int IntKind.i64 (↑k : Int)), some (Value.slice (some (Addr.mk 0 0 (some 1000))) (List.length a) 0), some (Value.int IntKind.i64 (↑(List.length a) : Int)), some (Value.bool false), none, none, none, none, none, none, none, none, none, none, none, none, none, none, none, none, none, none, none, none, none, none, none, none, none, none, none, none, none, none, none, none, none, none, none, none, none, none, none, none, none] [(43, false)] [some (Sum.inr (Sum.inr (Sum.inl (Row.mk [Value.int IntKind.i64 0] (List.length a) [Col.mk a [] []])))), some (Sum.inr (Sum.inr (Sum.inr (Rs.ints m)))), some (Sum.inr (Sum.inr (Sum.inr (Rs.ints (ones (List.reverse (List.drop (List.length a - k) a)))))))]))) ?_ (by kernel_rfl)
    (try simp only [Nat.zero_add, Int.toNat_natCast])
    refine ⟨fun h => ?_, fun h => ?_⟩
    · have hk : k < a.length := by have h' := of_decide_eq_true h; omega
      have e1 := take_snoc (a := a) (n := a.length - k) (by omega) (by omega)
      rw [e1] at o4
      obtain ⟨p1, p2, p3⟩ := m.snoc o4
      have ok : m.Ok 20000 := o2.mono (by omega)
      have e2 : decide (m.xs.length ≠ 0) = true := decide_eq_true p3
      have hr : ((a.drop (a.length - k)).reverse).length = k := by simp; omega
      obtain ⟨q1, q2, q3⟩ := ones_push (xs := (a.drop (a.length - k)).reverse) (v := a.getD (a.length - k - 1) 0) (by omega)
      have okq : (ones (a.drop (a.length - k)).reverse).Ok 20000 := (ones_ok (by omega)).mono (by omega)
      have e3 := drop_rev (a := a) (j := a.length - k - 1) (by omega)
      rw [show a.length - k - 1 + 1 = a.length - k by omega] at e3
      rw [← e3] at q1
      have okp := o2.pop
      simp only [e2, p1, q1, q2, q3, Bool.not_true, Bool.false_eq_true, false_implies, forall_const, reduceCtorEq]
      repeat' (first | apply And.intro | apply Vc.mk | apply fits.mk | intro h | apply Post.mk)
      all_goals (try simp only [decide_eq_true_eq, decide_eq_false_iff_not, Nat.zero_add, ge_iff_le, Int.not_le, Int.not_lt, Int.toNat_natCast, beq_iff_eq, beq_eq_false_iff_ne, bne_iff_ne, bne_eq_false_iff_eq, Bool.not_eq_true', Bool.not_eq_false'] at *)
      all_goals first | contradiction | omega | (apply congrArg Value.bool; assumption) | exact ⟨rfl, by omega⟩ | exact rfl | (simp [*, -List.getD_eq_getElem?_getD]; done) | skip
      refine ⟨(k + 1, m.pop), ⟨by simp only; omega, okp, by rw [p2]; exact o3, by rw [p2]; rfl⟩, by simp only; omega, ⟨[0, 1, 2], rfl, ?_, rfl, rfl, rfl, rfl⟩⟩
      simp [intsRow, Pulls, pullB, nth, at2, dnL, dnV, mvL, mvV, mvA, mvQ_lt, blt_true, blt_false, RowLe, colI, colB, Nat.sub_sub]
    · obtain rfl : k = a.length := by have h' := of_decide_eq_false h; omega
      clear h o1
      have hx : m.xs = [] := by rw [o4]; simp
      refine loop_atM (by kernel_rfl) (ι := Nat × PI) (fun s => s.1 ≤ a.length ∧ s.2.Ok 60 ∧ s.2.xs = (a.drop s.1).reverse) [0, 3, 4, 11] (fun s => [.slice (some ⟨0, 0, some 1000⟩) a.length 0, .pointer (some ⟨1, 0, none⟩), .pointer (some ⟨2, 0, none⟩), .int .i64 s.1]) (fun s => [some (.inr (.inr (.inl (intsRow a)))), some (.inr (.inr (.inr (.ints m)))), some (.inr (.inr (.inr (.ints s.2))))]) (fun s => a.length - s.1) 85 (fun s hs => ⟨rfl, rfl, Nat.succ_le_succ (Nat.zero_le _)⟩) ⟨(0, ones a.reverse), ⟨Nat.zero_le _, ones_ok (by simpa using hn), by simp [ones]⟩, ⟨[0, 1, 2], rfl, ?_, rfl, rfl, rfl, rfl⟩⟩ fun s hs => ?_
      · simp [intsRow, ones, Pulls, pullB, nth, at2, dnL, dnV, mvL, mvV, mvA, mvQ_lt, blt_true, blt_false, RowLe, colI, colB]
      obtain ⟨j, q⟩ := s
      obtain ⟨u1, u2, u3⟩ := hs
      simp only at u1 u2 u3
      refine rx_ok (T := TT) TT_ok mixed 200 ?_
      refine as_text (q := (decide ((↑j : Int) < (↑(List.length a) : Int)) = true → Vc (PI.Ok 20000 q) ∧ ((!decide (List.length (PI.xs q) ≠ 0)) = false → Vc ((0 : Int) ≤ (↑j : Int) ∧ (↑j : Int) < (↑(List.length a) : Int) ∧ 0 + List.length a ≤ List.length a) ∧ Vc (0 + Int.toNat (↑j : Int) < List.length a) ∧ ((PI.top q != List.getD a (0 + Int.toNat (↑j : Int)) (0 : Int)) = true → Post (G (Value.bool false) [some (Sum.inr (Sum.inr (Sum.inl (Row.mk [Value.int IntKind.i64 0] (List.length a) [Col.mk a [] []])))), some (Sum.inr (Sum.inr (Sum.inr (Rs.ints m)))), some (Sum.inr (Sum.inr (Sum.inr (Rs.ints (PI.pop q)))))])) ∧ ((PI.top q != List.getD a (0 + Int.toNat (↑j : Int)) (0 : Int)) = false → Vc (fits ((↑j : Int) + (1 : Int))) ∧ Post (∃ j_1, (Prod.fst j_1 ≤ List.length a ∧ PI.Ok 60 (Prod.snd j_1) ∧ PI.xs (Prod.snd j_1) = List.reverse (List.drop (Prod.fst j_1) a)) ∧ List.length a - Prod.fst j_1 < List.length a - j ∧ FitsM Rs 1 85 [0, 3, 4, 11] [Value.slice (some (Addr.mk 0 0 (some 1000))) (List.length a) 0, Value.pointer (some (Addr.mk 1 0 none)), Value.pointer (some (Addr.mk 2 0 none)), Value.int IntKind.i64 (↑(Prod.fst j_1) : Int)] [some (Sum.inr (Sum.inr (Sum.inl (intsRow a)))), some (Sum.inr (Sum.inr (Sum.inr (Rs.ints m)))), some (Sum.inr (Sum.inr (Sum.inr (Rs.ints (Prod.snd j_1)))))] [some (Value.slice (some (Addr.mk 0 0 (some 1000))) (List.length a) 0), some (Value.pointer (some (Addr.mk 1 0 none))), some (Value.pointer (some (Addr.mk 2 0 none))), some (Value.int IntKind.i64 ((↑j : Int) + (1 : Int)))] [some (Sum.inr (Sum.inr (Sum.inl (Row.mk [Value.int IntKind.i64 0] (List.length a) [Col.mk a [] []])))), some (Sum.inr (Sum.inr (Sum.inr (Rs.ints m)))), some (Sum.inr (Sum.inr (Sum.inr (Rs.ints (PI.pop q)))))] 85))) ∧ ((!decide (List.length (PI.xs q) ≠ 0)) = true → Post (G (Value.bool false) [some (Sum.inr (Sum.inr (Sum.inl (Row.mk [Value.int IntKind.i64 0] (List.length a) [Col.mk a [] []])))), some (Sum.inr (Sum.inr (Sum.inr (Rs.ints m)))), some (Sum.inr (Sum.inr (Sum.inr (Rs.ints (PI.pop q)))))]))) ∧ (decide ((↑j : Int) < (↑(List.length a) : Int)) = false → Vc (PI.Ok 20000 m) ∧ (((↑(List.length (PI.xs m)) : Int) == (0 : Int)) = true → Vc (PI.Ok 20000 q) ∧ Post (G (Value.bool ((↑(List.length (PI.xs q)) : Int) == (0 : Int))) [some (Sum.inr (Sum.inr (Sum.inl (Row.mk [Value.int IntKind.i64 0] (List.length a) [Col.mk a [] []])))), some (Sum.inr (Sum.inr (Sum.inr (Rs.ints m)))), some (Sum.inr (Sum.inr (Sum.inr (Rs.ints q))))])) ∧ (((↑(List.length (PI.xs m)) : Int) == (0 : Int)) = false → Post (G (Value.bool false) [some (Sum.inr (Sum.inr (Sum.inl (Row.mk [Value.int IntKind.i64 0] (List.length a) [Col.mk a [] []])))), some (Sum.inr (Sum.inr (Sum.inr (Rs.ints m)))), some (Sum.inr (Sum.inr (Sum.inr (Rs.ints q))))])))) ?_ (by kernel_rfl)
      (try simp only [Nat.zero_add, Int.toNat_natCast])
      refine ⟨fun h => ?_, fun h => ?_⟩
      · have hj : j < a.length := by have h' := of_decide_eq_true h; omega
        rw [drop_rev hj] at u3
        obtain ⟨p1, p2, p3⟩ := q.snoc u3
        have ok : q.Ok 20000 := u2.mono (by omega)
        have e2 : decide (q.xs.length ≠ 0) = true := decide_eq_true p3
        have okp := u2.pop
        simp only [e2, p1, Bool.not_true, Bool.false_eq_true, false_implies, forall_const, reduceCtorEq]
        repeat' (first | apply And.intro | apply Vc.mk | apply fits.mk | intro h | apply Post.mk)
        all_goals (try simp only [decide_eq_true_eq, decide_eq_false_iff_not, Nat.zero_add, ge_iff_le, Int.not_le, Int.not_lt, Int.toNat_natCast, beq_iff_eq, beq_eq_false_iff_ne, bne_iff_ne, bne_eq_false_iff_eq, Bool.not_eq_true', Bool.not_eq_false'] at *)
        all_goals first | contradiction | omega | (apply congrArg Value.bool; assumption) | exact ⟨rfl, by omega⟩ | exact rfl | (simp [*, -List.getD_eq_getElem?_getD]; done) | skip
        refine ⟨(j + 1, q.pop), ⟨by simp only; omega, okp, by rw [p2]⟩, by simp only; omega, ⟨[0, 1, 2], rfl, ?_, rfl, rfl, rfl, rfl⟩⟩
        simp [intsRow, Pulls, pullB, nth, at2, dnL, dnV, mvL, mvV, mvA, mvQ_lt, blt_true, blt_false, RowLe, colI, colB]
      · obtain rfl : j = a.length := by have h' := of_decide_eq_false h; omega
        have hq : q.xs = [] := by rw [u3]; simp
        have okm : m.Ok 20000 := o2.mono (by omega)
        have okq : q.Ok 20000 := u2.mono (by omega)
        simp only [hx, hq, List.length_nil]
        repeat' (first | apply And.intro | apply Vc.mk | apply fits.mk | intro h | apply Post.mk)
        all_goals (try simp only [decide_eq_true_eq, decide_eq_false_iff_not, Nat.zero_add, ge_iff_le, Int.not_le, Int.not_lt, Int.toNat_natCast, beq_iff_eq, beq_eq_false_iff_ne, bne_iff_ne, bne_eq_false_iff_eq, Bool.not_eq_true', Bool.not_eq_false'] at *)
        all_goals first | contradiction | omega | (apply congrArg Value.bool; assumption) | exact ⟨rfl, by omega⟩ | exact rfl | (simp [*, -List.getD_eq_getElem?_getD]; done) | skip
        all_goals exact hG _
end Go.Proofs.Ytfofaiidakkgbaa.Pi
