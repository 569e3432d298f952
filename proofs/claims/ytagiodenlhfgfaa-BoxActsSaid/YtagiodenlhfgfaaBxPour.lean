/- box: the document's Pour. -/
import Derived.Test.YtagiodenlhfgfaaBxRef
namespace Go.Proofs.Ytagiodenlhfgfaa.Bx
open Go.Proofs.Ytagiodenlhfgfaa.Rx
set_option linter.unusedVariables false
set_option linter.unusedSimpArgs false
set_option maxRecDepth 100000
def TRef {R : Type} : Tab R := [(13, liftC zN 2 rofferC), (15, liftC zN 2 (con1 rtakeP))]
theorem TRef_ok {R : Type} {D : Res R} : TabOk D Try.prog TRef := ⟨liftC_ok _ _ roffer_ok, liftC_ok _ _ rtake_ok, trivial⟩
def pourK (cl : Bool) (nF nT : Nat) (capT : Int) : Nat := bif cl then 0 else min nF (capT - nT).toNat
def rpourW {R : Type} (args : List Value) (hh : Hp R) : Option Bool := match args, hh with
  | [.pointer (some ⟨0, 0, none⟩), .pointer (some ⟨1, 0, none⟩)], some (.inl (34, [.int .i64 capF, .slice _ nF 0, .bool clF])) :: some (.inl (34, [.int .i64 capT, .slice _ nT 0, .bool clT])) :: _ => some (decide (0 < pourK clT nF nT capT))
  | _, _ => none
/-- the two boxes -/
structure PQ where
  capF : Int
  oF : Nat
  nF : Nat
  clF : Bool
  NF : Nat
  rowF : List Int
  capT : Int
  oT : Nat
  nT : Nat
  clT : Bool
  NT : Nat
  rowT : List Int
def PQ.k (q : PQ) : Nat := pourK q.clT q.nF q.nT q.capT
structure PQ.Ok (q : PQ) : Prop where
  f1 : q.oF + q.nF = q.NF
  f2 : q.NF = q.rowF.length
  f3 : q.NF < 1000000
  t1 : q.oT + q.nT = q.NT
  t2 : q.NT = q.rowT.length
  t3 : q.NT < 1000000
  c1 : (q.nT : Int) ≤ q.capT
  c2 : q.capT ≤ 1000
def pqH {R : Type} (q : PQ) : Hp R := [some (.inl (34, [.int .i64 q.capF, .slice (some ⟨2, q.oF, some 4001000⟩) q.nF 0, .bool q.clF])), some (.inl (34, [.int .i64 q.capT, .slice (some ⟨4, q.oT, some 6001000⟩) q.nT 0, .bool q.clT])),
  some (.inr (.inl (3, ⟨[.int .i64 0], q.NF, [⟨q.rowF, [], []⟩]⟩))), none, some (.inr (.inl (3, ⟨[.int .i64 0], q.NT, [⟨q.rowT, [], []⟩]⟩))), none]
/-- behind i moves, i > 0 -/
def pqI {R : Type} (q : PQ) (i : Nat) (tag : Nat) : Hp R := [some (.inl (34, [.int .i64 q.capF, .slice (some ⟨2, q.oF + i, some 7001000⟩) (q.nF - i) 0, .bool q.clF])), some (.inl (34, [.int .i64 q.capT, .slice (some ⟨7, 0, some tag⟩) (q.nT + i) 0, .bool q.clT])),
  some (.inr (.inl (3, ⟨[.int .i64 0], q.NF, [⟨q.rowF, [], []⟩]⟩))), none, some (.inr (.inl (3, ⟨[.int .i64 0], q.NT, [⟨q.rowT, [], []⟩]⟩))), none, none, some (.inr (.inl (3, ⟨[.int .i64 0], q.nT + i, [⟨cut q.rowT q.oT q.nT ++ cut q.rowF q.oF i, [], []⟩]⟩))), none]
def pqS {R : Type} (q : PQ) : Nat → Hp R
  | 0 => pqH q
  | i + 1 => pqI q (i + 1) 9001000
def rpourY {R : Type} : Prim R := fun args hh => match args, hh with
  | [.pointer (some ⟨0, 0, none⟩), .pointer (some ⟨1, 0, none⟩)], [some (.inl (34, [.int .i64 capF, .slice (some ⟨2, oF, some 4001000⟩) nF 0, .bool clF])), some (.inl (34, [.int .i64 capT, .slice (some ⟨4, oT, some 6001000⟩) nT 0, .bool clT])),
    some (.inr (.inl (3, ⟨[.int .i64 0], NF, [⟨rowF, [], []⟩]⟩))), none, some (.inr (.inl (3, ⟨[.int .i64 0], NT, [⟨rowT, [], []⟩]⟩))), none] =>
    some ⟨PQ.Ok ⟨capF, oF, nF, clF, NF, rowF, capT, oT, nT, clT, NT, rowT⟩, .int .i64 (pourK clT nF nT capT), none,
      [some (.inl (34, [.int .i64 capF, .slice (some ⟨2, oF + pourK clT nF nT capT, some 7001000⟩) (nF - pourK clT nF nT capT) 0, .bool clF])), some (.inl (34, [.int .i64 capT, .slice (some ⟨7, 0, some 9001000⟩) (nT + pourK clT nF nT capT) 0, .bool clT])),
      some (.inr (.inl (3, ⟨[.int .i64 0], NF, [⟨rowF, [], []⟩]⟩))), none, some (.inr (.inl (3, ⟨[.int .i64 0], NT, [⟨rowT, [], []⟩]⟩))), none, none, some (.inr (.inl (3, ⟨[.int .i64 0], nT + pourK clT nF nT capT, [⟨cut rowT oT nT ++ cut rowF oF (pourK clT nF nT capT), [], []⟩]⟩))), none], [], [(0, 0)]⟩
  | _, _ => none
def rpourN {R : Type} : Prim R := fun args hh => match args, hh with
  | [.pointer (some ⟨0, 0, none⟩), .pointer (some ⟨1, 0, none⟩)], [some (.inl (34, [.int .i64 capF, .slice (some ⟨2, oF, some 4001000⟩) nF 0, .bool clF])), some (.inl (34, [.int .i64 capT, .slice (some ⟨4, oT, some 6001000⟩) nT 0, .bool clT])),
    some (.inr (.inl (3, ⟨[.int .i64 0], NF, [⟨rowF, [], []⟩]⟩))), none, some (.inr (.inl (3, ⟨[.int .i64 0], NT, [⟨rowT, [], []⟩]⟩))), none] =>
    some ⟨PQ.Ok ⟨capF, oF, nF, clF, NF, rowF, capT, oT, nT, clT, NT, rowT⟩, .int .i64 0, none, hh, [], []⟩
  | _, _ => none
def rpourC {R : Type} : Con R := ⟨rpourW, rpourY, rpourN⟩
theorem cut_next {l : List Int} {o k : Nat} (h : o + k < l.length) : cut l o (k + 1) = cut l o k ++ [l.getD (o + k) 0] := by
  unfold cut
  have h1 : k < (l.drop o).length := by simp; omega
  rw [take_succ_getD 0 h1]
  simp only [List.getD_eq_getElem?_getD, List.getElem?_drop]
theorem PQ.Ok.facts {q : PQ} (hq : q.Ok) : (q.clT = false → ∀ j, j < q.nF → ((q.nT + j : Nat) : Int) < q.capT → j < q.k) ∧ (∀ j, j < q.k → q.clT = false ∧ j < q.nF ∧ ((q.nT + j : Nat) : Int) < q.capT) ∧
    (∀ j, q.clT = false → ((q.nT + j : Nat) : Int) < q.capT → takesR q.clT (q.nT + j) q.capT = true) := by
  obtain ⟨f1, f2, f3, t1, t2, t3, c1, c2⟩ := hq
  have hk : q.k = bif q.clT then 0 else min q.nF (q.capT - q.nT).toNat := rfl
  have hk1 : q.clT = true → q.k = 0 := fun h => by rw [hk, h]; rfl
  have hk2 : q.clT = false → q.k = min q.nF (q.capT - q.nT).toNat := fun h => by rw [hk, h]; rfl
  refine ⟨fun h1 j h2 h3 => by rw [hk2 h1]; omega, fun j h => ?_, fun j h1 h2 => ?_⟩
  · cases hc : q.clT with
    | true => rw [hk1 hc] at h; omega
    | false => rw [hk2 hc] at h; exact ⟨rfl, by omega, by omega⟩
  · simp only [takesR, h1, Bool.not_false, Bool.true_and, decide_eq_true_eq]
    omega
theorem rpour_run {R : Type} {D : Res R} {G : Value → Hp R → Prop} (q : PQ) (hq : q.Ok) (hG0 : q.k = 0 → G (.int .i64 0) (pqH q)) (hG1 : 0 < q.k → G (.int .i64 q.k) (pqI q q.k 9001000)) :
    At D Try.prog (codeOf Try.f19) 6 (retK Try.prog Try.f19.results.toList G) [.inl []] ⟨someL [.pointer (some ⟨0, 0, none⟩), .pointer (some ⟨1, 0, none⟩)] ++ List.replicate (Try.f19.ntmps - 2) none, [], pqH q⟩ := by
  refine rx_ok (T := TRef) TRef_ok mixed 200 ?_
  refine as_text (q := At D Try.prog (codeOf Try.f19) 6 (retK Try.prog (Array.toList (Func.results Try.f19)) G) [Sum.inl [1, 1, 0, 0], Sum.inr (Sum.inl 0), Sum.inl [1, 1, 1]] (SS.mk [some (Value.pointer (some (Addr.mk 0 0 none))), some (Value.pointer (some (Addr.mk 1 0 none))), none, none, some (Value.int IntKind.i64 0), some (Value.int IntKind.i64 0), none, none, none, none, none, none, none, none, none, none, none, none, none, none, none, none, none, none, none, none, none, none, none, none, none, none, none, none, none, none, none, none, none, none, none, none, none, none] [] [some (Sum.inl (34, [Value.int IntKind.i64 (PQ.capF q), Value.slice (some (Addr.mk 2 (PQ.oF q) (some 4001000))) (PQ.nF q) 0, Value.bool (PQ.clF q)])), some (Sum.inl (34, [Value.int IntKind.i64 (PQ.capT q), Value.slice (some (Addr.mk 4 (PQ.oT q) (some 6001000))) (PQ.nT q) 0, Value.bool (PQ.clT q)])), some (Sum.inr (Sum.inl (3, Row.mk [Value.int IntKind.i64 0] (PQ.NF q) [Col.mk (PQ.rowF q) [] []]))), none, some (Sum.inr (Sum.inl (3, Row.mk [Value.int IntKind.i64 0] (PQ.NT q) [Col.mk (PQ.rowT q) [] []]))), none])) ?_ (by kernel_rfl)
  obtain ⟨f1, f2, f3, t1, t2, t3, c1, c2⟩ := id hq
  refine loop_atM (by kernel_rfl) (ι := Nat) (fun i => i ≤ q.k) [0, 1, 5] (fun i => [.pointer (some ⟨0, 0, none⟩), .pointer (some ⟨1, 0, none⟩), .int .i64 i]) (pqS q) (fun i => q.k - i) 44 (fun i hi => by cases i <;> exact ⟨rfl, rfl, by simp [pqS, pqH, pqI]⟩) ⟨0, Nat.zero_le _, ⟨[0, 1, 2, 3, 4, 5], rfl, ⟨.inl rfl, .inl rfl, ⟨_, rfl, .inl rfl⟩, ⟨_, rfl, .inl rfl⟩, trivial⟩, rfl, rfl, rfl, rfl⟩⟩ fun i hi => ?_
  rcases Nat.eq_zero_or_pos i with rfl | hp
  · refine rx_ok (T := TRef) TRef_ok mixed 200 ?_
    refine as_text (q := (decide ((↑(PQ.nF q) : Int) > (0 : Int)) = true → Vc (Value.bool (decide ((↑(PQ.nF q) : Int) > (0 : Int))) = Value.bool true) ∧ ((!PQ.clT q) = true → Vc (Value.bool (decide ((↑(PQ.nF q) : Int) > (0 : Int))) = Value.bool true) ∧ Vc ((Value.bool !PQ.clT q) = Value.bool true) ∧ (decide ((↑(PQ.nT q) : Int) < PQ.capT q) = true → Vc (PQ.oF q + PQ.nF q = PQ.NF q ∧ PQ.NF q = List.length (PQ.rowF q) ∧ PQ.NF q < 1000000) ∧ (takesR (PQ.clT q) (PQ.nT q) (PQ.capT q) = true → Vc (PQ.oT q + PQ.nT q = PQ.NT q ∧ PQ.NT q = List.length (PQ.rowT q) ∧ PQ.NT q < 1000000) ∧ Vc (fits (1 : Int)) ∧ Post (∃ j, j ≤ PQ.k q ∧ PQ.k q - j < PQ.k q - 0 ∧ FitsM R 6 44 [0, 1, 5] [Value.pointer (some (Addr.mk 0 0 none)), Value.pointer (some (Addr.mk 1 0 none)), Value.int IntKind.i64 (↑j : Int)] (pqS q j) [some (Value.pointer (some (Addr.mk 0 0 none))), some (Value.pointer (some (Addr.mk 1 0 none))), some (Value.int IntKind.i64 1)] [some (Sum.inl (34, [Value.int IntKind.i64 (PQ.capF q), Value.slice (some (Addr.mk 2 (PQ.oF q + min (PQ.nF q) 1) (some 7001000))) (PQ.nF q - 1) 0, Value.bool (PQ.clF q)])), some (Sum.inl (34, [Value.int IntKind.i64 (PQ.capT q), Value.slice (some (Addr.mk 7 0 (some 1000))) (PQ.nT q + 1) 0, Value.bool (PQ.clT q)])), some (Sum.inr (Sum.inl (3, Row.mk [Value.int IntKind.i64 0] (PQ.NF q) [Col.mk (PQ.rowF q) [] []]))), none, some (Sum.inr (Sum.inl (3, Row.mk [Value.int IntKind.i64 0] (PQ.NT q) [Col.mk (PQ.rowT q) [] []]))), none, none, some (Sum.inr (Sum.inl (3, Row.mk [Value.int IntKind.i64 0] (PQ.nT q + 1) [Col.mk (cut (PQ.rowT q) (PQ.oT q) (PQ.nT q) ++ [if PQ.nF q = 0 then (0 : Int) else List.getD (PQ.rowF q) (PQ.oF q) (0 : Int)]) [] []])))] 44)) ∧ (takesR (PQ.clT q) (PQ.nT q) (PQ.capT q) = false → Vc (PQ.oT q + PQ.nT q = PQ.NT q ∧ PQ.NT q = List.length (PQ.rowT q) ∧ PQ.NT q < 1000000) ∧ Vc (fits (1 : Int)) ∧ Post (∃ j, j ≤ PQ.k q ∧ PQ.k q - j < PQ.k q - 0 ∧ FitsM R 6 44 [0, 1, 5] [Value.pointer (some (Addr.mk 0 0 none)), Value.pointer (some (Addr.mk 1 0 none)), Value.int IntKind.i64 (↑j : Int)] (pqS q j) [some (Value.pointer (some (Addr.mk 0 0 none))), some (Value.pointer (some (Addr.mk 1 0 none))), some (Value.int IntKind.i64 1)] [some (Sum.inl (34, [Value.int IntKind.i64 (PQ.capF q), Value.slice (some (Addr.mk 2 (PQ.oF q + min (PQ.nF q) 1) (some 7001000))) (PQ.nF q - 1) 0, Value.bool (PQ.clF q)])), some (Sum.inl (34, [Value.int IntKind.i64 (PQ.capT q), Value.slice (some (Addr.mk 4 (PQ.oT q) (some 6001000))) (PQ.nT q) 0, Value.bool (PQ.clT q)])), some (Sum.inr (Sum.inl (3, Row.mk [Value.int IntKind.i64 0] (PQ.NF q) [Col.mk (PQ.rowF q) [] []]))), none, some (Sum.inr (Sum.inl (3, Row.mk [Value.int IntKind.i64 0] (PQ.NT q) [Col.mk (PQ.rowT q) [] []]))), none, none] 44))) ∧ (decide ((↑(PQ.nT q) : Int) < PQ.capT q) = false → Post (G (Value.int IntKind.i64 0) [some (Sum.inl (34, [Value.int IntKind.i64 (PQ.capF q), Value.slice (some (Addr.mk 2 (PQ.oF q) (some 4001000))) (PQ.nF q) 0, Value.bool (PQ.clF q)])), some (Sum.inl (34, [Value.int IntKind.i64 (PQ.capT q), Value.slice (some (Addr.mk 4 (PQ.oT q) (some 6001000))) (PQ.nT q) 0, Value.bool (PQ.clT q)])), some (Sum.inr (Sum.inl (3, Row.mk [Value.int IntKind.i64 0] (PQ.NF q) [Col.mk (PQ.rowF q) [] []]))), none, some (Sum.inr (Sum.inl (3, Row.mk [Value.int IntKind.i64 0] (PQ.NT q) [Col.mk (PQ.rowT q) [] []]))), none]))) ∧ ((!PQ.clT q) = false → Vc (Value.bool (decide ((↑(PQ.nF q) : Int) > (0 : Int))) = Value.bool true) ∧ Vc ((Value.bool !PQ.clT q) = Value.bool false) ∧ Post (G (Value.int IntKind.i64 0) [some (Sum.inl (34, [Value.int IntKind.i64 (PQ.capF q), Value.slice (some (Addr.mk 2 (PQ.oF q) (some 4001000))) (PQ.nF q) 0, Value.bool (PQ.clF q)])), some (Sum.inl (34, [Value.int IntKind.i64 (PQ.capT q), Value.slice (some (Addr.mk 4 (PQ.oT q) (some 6001000))) (PQ.nT q) 0, Value.bool (PQ.clT q)])), some (Sum.inr (Sum.inl (3, Row.mk [Value.int IntKind.i64 0] (PQ.NF q) [Col.mk (PQ.rowF q) [] []]))), none, some (Sum.inr (Sum.inl (3, Row.mk [Value.int IntKind.i64 0] (PQ.NT q) [Col.mk (PQ.rowT q) [] []]))), none]))) ∧ (decide ((↑(PQ.nF q) : Int) > (0 : Int)) = false → Vc (Value.bool (decide ((↑(PQ.nF q) : Int) > (0 : Int))) = Value.bool false) ∧ Post (G (Value.int IntKind.i64 0) [some (Sum.inl (34, [Value.int IntKind.i64 (PQ.capF q), Value.slice (some (Addr.mk 2 (PQ.oF q) (some 4001000))) (PQ.nF q) 0, Value.bool (PQ.clF q)])), some (Sum.inl (34, [Value.int IntKind.i64 (PQ.capT q), Value.slice (some (Addr.mk 4 (PQ.oT q) (some 6001000))) (PQ.nT q) 0, Value.bool (PQ.clT q)])), some (Sum.inr (Sum.inl (3, Row.mk [Value.int IntKind.i64 0] (PQ.NF q) [Col.mk (PQ.rowF q) [] []]))), none, some (Sum.inr (Sum.inl (3, Row.mk [Value.int IntKind.i64 0] (PQ.NT q) [Col.mk (PQ.rowT q) [] []]))), none]))) ?_ (by kernel_rfl)
    clear hG1
    repeat' (first | apply And.intro | apply Vc.mk | apply fits.mk | intro h | apply Post.mk)
    all_goals (try simp only [decide_eq_true_eq, decide_eq_false_iff_not, Nat.zero_add, ge_iff_le, Int.not_le, Int.not_lt, Int.toNat_natCast, beq_iff_eq, beq_eq_false_iff_ne, bne_iff_ne, bne_eq_false_iff_eq, Bool.not_eq_true', Bool.not_eq_false'] at *)
    all_goals first | contradiction | omega | (apply congrArg Value.bool; assumption) | exact congrArg Value.bool (decide_eq_true (by assumption)) | exact congrArg Value.bool (decide_eq_false (Int.not_lt.mpr (by assumption))) | exact ⟨rfl, by omega⟩ | exact rfl | (simp [*, -List.getD_eq_getElem?_getD]; done) | skip
    all_goals obtain ⟨e0, e1, tk⟩ := hq.facts
    · have h0 : 0 < q.k := e0 (by assumption) 0 (by omega) (by simpa using ‹(q.nT : Int) < q.capT›)
      have q1 : min q.nF 1 = 1 := by omega
      have q2 : ¬ q.nF = 0 := by omega
      have q3 : cut q.rowF q.oF 1 = [q.rowF.getD q.oF 0] := by
        have := cut_next (l := q.rowF) (o := q.oF) (k := 0) (by omega)
        simpa [cut] using this
      rw [q1, if_neg q2, ← q3]
      exact ⟨1, h0, by omega, ⟨[0, 1, 2, 3, 4, 5, 6, 7, 7], rfl, ⟨.inl rfl, .inr ⟨_, rfl, rfl⟩, ⟨_, rfl, .inl rfl⟩, ⟨_, rfl, .inl rfl⟩, ⟨_, rfl, .inl rfl⟩, trivial⟩, rfl, rfl, rfl, rfl⟩⟩
    · exfalso
      have := tk 0 (by assumption) (by simpa using ‹(q.nT : Int) < q.capT›)
      simp_all
    · refine hG0 (Nat.eq_zero_of_not_pos fun h => ?_)
      have := (e1 0 h).2.2
      omega
    · refine hG0 (Nat.eq_zero_of_not_pos fun h => ?_)
      have := (e1 0 h).1
      simp_all
    · refine hG0 (Nat.eq_zero_of_not_pos fun h => ?_)
      have := (e1 0 h).2.1
      omega
  · rw [show pqS q i = pqI q i 9001000 by cases i <;> first | omega | rfl]
    refine rx_ok (T := TRef) TRef_ok mixed 200 ?_
    refine as_text (q := (decide ((↑(PQ.nF q - i) : Int) > (0 : Int)) = true → Vc (Value.bool (decide ((↑(PQ.nF q - i) : Int) > (0 : Int))) = Value.bool true) ∧ ((!PQ.clT q) = true → Vc (Value.bool (decide ((↑(PQ.nF q - i) : Int) > (0 : Int))) = Value.bool true) ∧ Vc ((Value.bool !PQ.clT q) = Value.bool true) ∧ (decide ((↑(PQ.nT q + i) : Int) < PQ.capT q) = true → Vc (PQ.oF q + i + (PQ.nF q - i) = PQ.NF q ∧ PQ.NF q = List.length (PQ.rowF q) ∧ PQ.NF q < 1000000) ∧ (takesR (PQ.clT q) (PQ.nT q + i) (PQ.capT q) = true → Vc (0 + (PQ.nT q + i) = PQ.nT q + i ∧ PQ.nT q + i = List.length (cut (PQ.rowT q) (PQ.oT q) (PQ.nT q) ++ cut (PQ.rowF q) (PQ.oF q) i) ∧ PQ.nT q + i < 1000000) ∧ Vc (fits ((↑i : Int) + (1 : Int))) ∧ Post (∃ j, j ≤ PQ.k q ∧ PQ.k q - j < PQ.k q - i ∧ FitsM R 6 44 [0, 1, 5] [Value.pointer (some (Addr.mk 0 0 none)), Value.pointer (some (Addr.mk 1 0 none)), Value.int IntKind.i64 (↑j : Int)] (pqS q j) [some (Value.pointer (some (Addr.mk 0 0 none))), some (Value.pointer (some (Addr.mk 1 0 none))), some (Value.int IntKind.i64 ((↑i : Int) + (1 : Int)))] [some (Sum.inl (34, [Value.int IntKind.i64 (PQ.capF q), Value.slice (some (Addr.mk 2 (PQ.oF q + i + min (PQ.nF q - i) 1) (some 10001000))) (PQ.nF q - i - 1) 0, Value.bool (PQ.clF q)])), some (Sum.inl (34, [Value.int IntKind.i64 (PQ.capT q), Value.slice (some (Addr.mk 10 0 (some 1000))) (PQ.nT q + i + 1) 0, Value.bool (PQ.clT q)])), some (Sum.inr (Sum.inl (3, Row.mk [Value.int IntKind.i64 0] (PQ.NF q) [Col.mk (PQ.rowF q) [] []]))), none, some (Sum.inr (Sum.inl (3, Row.mk [Value.int IntKind.i64 0] (PQ.NT q) [Col.mk (PQ.rowT q) [] []]))), none, none, some (Sum.inr (Sum.inl (3, Row.mk [Value.int IntKind.i64 0] (PQ.nT q + i) [Col.mk (cut (PQ.rowT q) (PQ.oT q) (PQ.nT q) ++ cut (PQ.rowF q) (PQ.oF q) i) [] []]))), none, none, some (Sum.inr (Sum.inl (3, Row.mk [Value.int IntKind.i64 0] (PQ.nT q + i + 1) [Col.mk (cut (cut (PQ.rowT q) (PQ.oT q) (PQ.nT q) ++ cut (PQ.rowF q) (PQ.oF q) i) 0 (PQ.nT q + i) ++ [if PQ.nF q - i = 0 then (0 : Int) else List.getD (PQ.rowF q) (PQ.oF q + i) (0 : Int)]) [] []])))] 44)) ∧ (takesR (PQ.clT q) (PQ.nT q + i) (PQ.capT q) = false → Vc (0 + (PQ.nT q + i) = PQ.nT q + i ∧ PQ.nT q + i = List.length (cut (PQ.rowT q) (PQ.oT q) (PQ.nT q) ++ cut (PQ.rowF q) (PQ.oF q) i) ∧ PQ.nT q + i < 1000000) ∧ Vc (fits ((↑i : Int) + (1 : Int))) ∧ Post (∃ j, j ≤ PQ.k q ∧ PQ.k q - j < PQ.k q - i ∧ FitsM R 6 44 [0, 1, 5] [Value.pointer (some (Addr.mk 0 0 none)), Value.pointer (some (Addr.mk 1 0 none)), Value.int IntKind.i64 (↑j : Int)] (pqS q j) [some (Value.pointer (some (Addr.mk 0 0 none))), some (Value.pointer (some (Addr.mk 1 0 none))), some (Value.int IntKind.i64 ((↑i : Int) + (1 : Int)))] [some (Sum.inl (34, [Value.int IntKind.i64 (PQ.capF q), Value.slice (some (Addr.mk 2 (PQ.oF q + i + min (PQ.nF q - i) 1) (some 10001000))) (PQ.nF q - i - 1) 0, Value.bool (PQ.clF q)])), some (Sum.inl (34, [Value.int IntKind.i64 (PQ.capT q), Value.slice (some (Addr.mk 7 0 (some 9001000))) (PQ.nT q + i) 0, Value.bool (PQ.clT q)])), some (Sum.inr (Sum.inl (3, Row.mk [Value.int IntKind.i64 0] (PQ.NF q) [Col.mk (PQ.rowF q) [] []]))), none, some (Sum.inr (Sum.inl (3, Row.mk [Value.int IntKind.i64 0] (PQ.NT q) [Col.mk (PQ.rowT q) [] []]))), none, none, some (Sum.inr (Sum.inl (3, Row.mk [Value.int IntKind.i64 0] (PQ.nT q + i) [Col.mk (cut (PQ.rowT q) (PQ.oT q) (PQ.nT q) ++ cut (PQ.rowF q) (PQ.oF q) i) [] []]))), none, none] 44))) ∧ (decide ((↑(PQ.nT q + i) : Int) < PQ.capT q) = false → Post (G (Value.int IntKind.i64 (↑i : Int)) [some (Sum.inl (34, [Value.int IntKind.i64 (PQ.capF q), Value.slice (some (Addr.mk 2 (PQ.oF q + i) (some 7001000))) (PQ.nF q - i) 0, Value.bool (PQ.clF q)])), some (Sum.inl (34, [Value.int IntKind.i64 (PQ.capT q), Value.slice (some (Addr.mk 7 0 (some 9001000))) (PQ.nT q + i) 0, Value.bool (PQ.clT q)])), some (Sum.inr (Sum.inl (3, Row.mk [Value.int IntKind.i64 0] (PQ.NF q) [Col.mk (PQ.rowF q) [] []]))), none, some (Sum.inr (Sum.inl (3, Row.mk [Value.int IntKind.i64 0] (PQ.NT q) [Col.mk (PQ.rowT q) [] []]))), none, none, some (Sum.inr (Sum.inl (3, Row.mk [Value.int IntKind.i64 0] (PQ.nT q + i) [Col.mk (cut (PQ.rowT q) (PQ.oT q) (PQ.nT q) ++ cut (PQ.rowF q) (PQ.oF q) i) [] []]))), none]))) ∧ ((!PQ.clT q) = false → Vc (Value.bool (decide ((↑(PQ.nF q - i) : Int) > (0 : Int))) = Value.bool true) ∧ Vc ((Value.bool !PQ.clT q) = Value.bool false) ∧ Post (G (Value.int IntKind.i64 (↑i : Int)) [some (Sum.inl (34, [Value.int IntKind.i64 (PQ.capF q), Value.slice (some (Addr.mk 2 (PQ.oF q + i) (some 7001000))) (PQ.nF q - i) 0, Value.bool (PQ.clF q)])), some (Sum.inl (34, [Value.int IntKind.i64 (PQ.capT q), Value.slice (some (Addr.mk 7 0 (some 9001000))) (PQ.nT q + i) 0, Value.bool (PQ.clT q)])), some (Sum.inr (Sum.inl (3, Row.mk [Value.int IntKind.i64 0] (PQ.NF q) [Col.mk (PQ.rowF q) [] []]))), none, some (Sum.inr (Sum.inl (3, Row.mk [Value.int IntKind.i64 0] (PQ.NT q) [Col.mk (PQ.rowT q) [] []]))), none, none, some (Sum.inr (Sum.inl (3, Row.mk [Value.int IntKind.i64 0] (PQ.nT q + i) [Col.mk (cut (PQ.rowT q) (PQ.oT q) (PQ.nT q) ++ cut (PQ.rowF q) (PQ.oF q) i) [] []]))), none]))) ∧ (decide ((↑(PQ.nF q - i) : Int) > (0 : Int)) = false → Vc (Value.bool (decide ((↑(PQ.nF q - i) : Int) > (0 : Int))) = Value.bool false) ∧ Post (G (Value.int IntKind.i64 (↑i : Int)) [some (Sum.inl (34, [Value.int IntKind.i64 (PQ.capF q), Value.slice (some (Addr.mk 2 (PQ.oF q + i) (some 7001000))) (PQ.nF q - i) 0, Value.bool (PQ.clF q)])), some (Sum.inl (34, [Value.int IntKind.i64 (PQ.capT q), Value.slice (some (Addr.mk 7 0 (some 9001000))) (PQ.nT q + i) 0, Value.bool (PQ.clT q)])), some (Sum.inr (Sum.inl (3, Row.mk [Value.int IntKind.i64 0] (PQ.NF q) [Col.mk (PQ.rowF q) [] []]))), none, some (Sum.inr (Sum.inl (3, Row.mk [Value.int IntKind.i64 0] (PQ.NT q) [Col.mk (PQ.rowT q) [] []]))), none, none, some (Sum.inr (Sum.inl (3, Row.mk [Value.int IntKind.i64 0] (PQ.nT q + i) [Col.mk (cut (PQ.rowT q) (PQ.oT q) (PQ.nT q) ++ cut (PQ.rowF q) (PQ.oF q) i) [] []]))), none]))) ?_ (by kernel_rfl)
    clear hG0
    repeat' (first | apply And.intro | apply Vc.mk | apply fits.mk | intro h | apply Post.mk)
    all_goals (try simp only [decide_eq_true_eq, decide_eq_false_iff_not, Nat.zero_add, ge_iff_le, Int.not_le, Int.not_lt, Int.toNat_natCast, beq_iff_eq, beq_eq_false_iff_ne, bne_iff_ne, bne_eq_false_iff_eq, Bool.not_eq_true', Bool.not_eq_false'] at *)
    all_goals first | contradiction | omega | (apply congrArg Value.bool; assumption) | exact congrArg Value.bool (decide_eq_true (by assumption)) | exact congrArg Value.bool (decide_eq_false (Int.not_lt.mpr (by assumption))) | exact ⟨rfl, by omega⟩ | exact rfl | (simp [*, -List.getD_eq_getElem?_getD]; done) | skip
    all_goals obtain ⟨e0, e1, tk⟩ := hq.facts
    · rw [List.length_append, cut_len (by omega), cut_len (by omega)]
    · have h0 : i < q.k := e0 (by assumption) i (by omega) (by assumption)
      have q1 : min (q.nF - i) 1 = 1 := by omega
      have q2 : ¬ q.nF - i = 0 := by omega
      have q3 : cut q.rowF q.oF (i + 1) = cut q.rowF q.oF i ++ [q.rowF.getD (q.oF + i) 0] := cut_next (by omega)
      have q4 : cut (cut q.rowT q.oT q.nT ++ cut q.rowF q.oF i) 0 (q.nT + i) = cut q.rowT q.oT q.nT ++ cut q.rowF q.oF i := cut_eq (by rw [List.length_append, cut_len (by omega), cut_len (by omega)])
      rw [q1, if_neg q2, q4, List.append_assoc, ← q3]
      exact ⟨i + 1, h0, by omega, ⟨[0, 1, 2, 3, 4, 5, 9, 10, 10], rfl, ⟨.inl rfl, .inr ⟨_, rfl, rfl⟩, ⟨_, rfl, .inl rfl⟩, ⟨_, rfl, .inl rfl⟩, ⟨_, rfl, .inl rfl⟩, trivial⟩, rfl, rfl, rfl, rfl⟩⟩
    · rw [List.length_append, cut_len (by omega), cut_len (by omega)]
    · exfalso
      have := tk i (by assumption) (by assumption)
      simp_all
    · have h0 : i = q.k := by
        have := e1 i
        omega
      subst h0
      exact hG1 hp
    · have h0 : i = q.k := Classical.byContradiction fun h => by
        have := (e1 i (by omega)).1
        simp_all
      subst h0
      exact hG1 hp
    · have h0 : i = q.k := by
        have := e1 i
        omega
      subst h0
      exact hG1 hp
theorem rpour_ok {R : Type} {D : Res R} : ConOk D Try.prog 19 rpourC := by
  intro b
  refine prim_at (fn := Try.f19) (root := codeOf Try.f19) (by kernel_rfl) (by kernel_rfl) (by kernel_rfl) fun args hh x hx => ?_
  cases b with
  | true =>
    unfold rpourC Con.go rpourY at hx
    simp only at hx
    split at hx
    · rename_i capF oF nF clF capT oT nT clT NF rowF NT rowT
      injection hx with hx
      subst hx
      refine ⟨by simp, noLit rfl, (fun hw => by cases hw), fun hon hv => ?_⟩
      have hw : 0 < pourK clT nF nT capT := by
        simp only [way, rpourC, rpourW] at hon
        simpa using hon
      exact rpour_run ⟨capF, oF, nF, clF, NF, rowF, capT, oT, nT, clT, NT, rowT⟩ hv (fun h => absurd hw (by rw [show pourK clT nF nT capT = 0 from h]; exact Nat.lt_irrefl 0))
        (fun _ => ⟨⟨[0, 1, 2, 3, 4, 5, 6, 7, 8], rfl, rfl, ⟨.inl rfl, .inl rfl, ⟨_, rfl, .inl rfl⟩, ⟨_, rfl, .inl rfl⟩, ⟨_, rfl, .inl rfl⟩, trivial⟩, rfl, rfl, rfl, rfl⟩⟩)
    · cases hx
  | false =>
    unfold rpourC Con.go rpourN at hx
    simp only at hx
    split at hx
    · rename_i capF oF nF clF capT oT nT clT NF rowF NT rowT
      injection hx with hx
      subst hx
      refine ⟨Nat.le_refl _, noLit rfl, (fun _ => rfl), fun hon hv => ?_⟩
      have hw : ¬ 0 < pourK clT nF nT capT := by
        simp only [way, rpourC, rpourW] at hon
        simpa using hon
      exact rpour_run ⟨capF, oF, nF, clF, NF, rowF, capT, oT, nT, clT, NT, rowT⟩ hv
        (fun _ => ⟨⟨[0, 1, 2, 3, 4, 5], rfl, rfl, ⟨.inl rfl, .inl rfl, ⟨_, rfl, .inl rfl⟩, ⟨_, rfl, .inl rfl⟩, trivial⟩, rfl, rfl, rfl, rfl⟩⟩)
        (fun h => absurd h hw)
    · cases hx
end Go.Proofs.Ytagiodenlhfgfaa.Bx
