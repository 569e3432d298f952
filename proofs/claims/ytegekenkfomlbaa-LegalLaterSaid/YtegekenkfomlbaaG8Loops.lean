/- grove: a pool of nodes of marks: its calls, loops. -/
import Derived.Test.YtegekenkfomlbaaG8Set
import Derived.Test.YtegekenkfomlbaaGvTop
namespace Go.Proofs.Ytegekenkfomlbaa.G8
open Go.Proofs.Ytegekenkfomlbaa.Rx
set_option linter.unusedVariables false
set_option linter.unusedSimpArgs false
set_option maxRecDepth 100000
set_option maxHeartbeats 16000000
def gfindP (K : Nat) : Prim Rs := fun args hh => match args, hh with
  | [.pointer (some ⟨0, 0, none⟩), .agg ⟨kE⟩], [some (.inl (76, [.pointer (some ⟨1, 0, none⟩), .int .i64 ti, .int .i64 tg])), some (.inr (.inr (.inr (.pool m))))] => some ⟨kE = elL (elOf kE) ∧ (PP m ∧ Gv.FindE Wv.O8 K (Gv.see m (⟨ti, tg⟩ : Gv.Ref)) (Gv.lk Wv.O8 m (⟨ti, tg⟩ : Gv.Ref)) (elOf kE)), .tuple #[.agg ⟨elL (Gv.find Wv.O8 K (Gv.see m (⟨ti, tg⟩ : Gv.Ref)) (Gv.lk Wv.O8 m (⟨ti, tg⟩ : Gv.Ref)) (elOf kE)).1.1⟩, .bool (Gv.find Wv.O8 K (Gv.see m (⟨ti, tg⟩ : Gv.Ref)) (Gv.lk Wv.O8 m (⟨ti, tg⟩ : Gv.Ref)) (elOf kE)).1.2], none, [some (.inl (76, [.pointer (some ⟨1, 0, none⟩), .int .i64 ti, .int .i64 tg])), some (.inr (.inr (.inr (.pool (Gv.find Wv.O8 K (Gv.see m (⟨ti, tg⟩ : Gv.Ref)) (Gv.lk Wv.O8 m (⟨ti, tg⟩ : Gv.Ref)) (elOf kE)).2))))], [], [(0, 0)]⟩
  | _, _ => none
def TGFind (K : Nat) : Tab Rs := [(33, liftC zN 2 (con1 lookP)), (67, liftC zN 2 (con1 Wv.mcmpP))]
theorem gfind_ok (K : Nat) : ConOk D Try.prog 32 (con1 (gfindP K)) := by
  refine con1_ok (prim_at (fn := Try.f32) (root := codeOf Try.f32) (by kernel_rfl) (by kernel_rfl) (by kernel_rfl) fun args hh x hx => ?_)
  unfold gfindP at hx
  split at hx
  · rename_i kE ti tg m
    injection hx with hx
    subst hx
    refine ⟨by first | exact Nat.le_refl _ | exact Nat.zero_le _ | exact Nat.le_succ _ | exact Nat.le_add_left 1 3 | exact Nat.le_add_left 2 2 | exact Nat.le_add_left 1 2, noLit rfl, (fun hw => by first | rfl | cases hw), fun _ hv => ?_⟩
    obtain ⟨hq0, hv⟩ := hv; generalize elOf kE = ke at *; subst hq0; obtain ⟨hp, hd⟩ := hv
    generalize hG : Rx.Ends (R := Rs) _ _ = G
    refine rx_ok (T := (TGFind K)) (show TabOk D Try.prog (TGFind K) from ⟨liftC_ok _ _ look_ok, liftC_ok _ _ Wv.mcmp_ok, trivial⟩) mixed 200 ?_
    refine as_text (q := let zz1 := (Value.pointer (some (Addr.mk 0 0 none))); Vc (PP m) ∧ At D Try.prog (codeOf Try.f32) 2 (retK Try.prog (Array.toList (Func.results Try.f32)) G) [Sum.inl [1, 1, 0, 0], Sum.inr (Sum.inl 0), Sum.inl [1, 1, 1]] (SS.mk [some zz1, some (Value.agg (Array.mk (elL ke))), none, some (Value.pointer (some (Addr.mk 2 0 none))), some (Value.pointer (some (Addr.mk 3 0 none))), some (Value.bool false), some (Value.pointer (some (Addr.mk 4 0 none))), none, none, some zz1, some zz1, some zz1, some (Value.pointer (some (Addr.mk 0 1 none))), some (Value.agg (Array.mk [Value.int IntKind.i64 ti, Value.int IntKind.i64 tg])), some (Value.agg (Array.mk (ndL (Gv.lk Wv.O8 m (Gv.Ref.mk ti tg))))), none, none, none, none, none, none, none, none, none, none, none, none, none, none, none, none, none, none, none, none, none, none, none] [(5, false)] [trB 1 ti tg, oP (Gv.see m (Gv.Ref.mk ti tg)), some (Sum.inl (46, (elL ke))), some (Sum.inl (46, (elL (Wv.Mk.mk 0 false (Wv.It.mk 0 0) false false (Wv.It.mk 0 0))))), some (Sum.inl (72, (ndL (Gv.lk Wv.O8 m (Gv.Ref.mk ti tg)))))])) ?_ (by kernel_rfl)
    intro zz1; subst zz1
    refine ⟨⟨hp⟩, ?_⟩
    refine loop_atM (by kernel_rfl) (ι := Nat × Nd × Pl) (fun s => PP s.2.2 ∧ Gv.FindE Wv.O8 s.1 s.2.2 s.2.1 ke ∧ Gv.find Wv.O8 s.1 s.2.2 s.2.1 ke = Gv.find Wv.O8 K (Gv.see m (⟨ti, tg⟩ : Gv.Ref)) (Gv.lk Wv.O8 m (⟨ti, tg⟩ : Gv.Ref)) ke) [0, 3, 4, 5, 6] (fun s => [.pointer (some ⟨0, 0, none⟩), .pointer (some ⟨2, 0, none⟩), .pointer (some ⟨3, 0, none⟩), .bool false, .pointer (some ⟨4, 0, none⟩)]) (fun s => [some (.inl (76, [.pointer (some ⟨1, 0, none⟩), .int .i64 ti, .int .i64 tg])), some (.inr (.inr (.inr (.pool s.2.2)))), some (.inl (46, elL ke)), some (.inl (46, [.int .i64 0, .bool false, .int .i64 0, .int .i64 0, .bool false, .bool false, .int .i64 0, .int .i64 0])), some (.inl (72, ndL s.2.1))]) (fun s => s.1) (Try.f32).ntmps (fun s hs => ⟨rfl, rfl, Nat.le_add_left _ _⟩) ⟨(K, Gv.lk Wv.O8 m (⟨ti, tg⟩ : Gv.Ref), Gv.see m (⟨ti, tg⟩ : Gv.Ref)), ⟨Gv.see_ok.2 hp, hd, rfl⟩, ⟨[0, 1, 2, 3, 4], rfl, ⟨.inl rfl, rfl, .inl rfl, .inl rfl, .inl rfl, trivial⟩, rfl, rfl, rfl, rfl⟩⟩ fun s hs => ?_
    obtain ⟨k, n, m2⟩ := s
    obtain ⟨s1, s2, s3⟩ := hs
    simp only at s1 s2 s3
    rcases k with _ | k
    · exact s2.elim
    refine rx_ok (T := TGFind K) (show TabOk D Try.prog (TGFind K) from ⟨liftC_ok _ _ look_ok, liftC_ok _ _ Wv.mcmp_ok, trivial⟩) mixed 200 ?_
    refine as_text (q := let zz5 := Value.pointer (some (Addr.mk 4 0 none)); let zz6 := Value.pointer (some (Addr.mk 0 0 none)); let zz7 := Value.pointer (some (Addr.mk 2 0 none)); let zz8 := Value.pointer (some (Addr.mk 3 0 none)); let zz1 := (Gv.Ops.cmp Wv.O8 ke (Gv.Node.e (Prod.fst (n, m2))) == (0 : Int)); let zz2 := (Prod.snd (n, m2)); let zz3 := (Gv.Ops.cmp Wv.O8 ke (Gv.Node.e (Prod.fst (n, m2))) < (0 : Int)); let zz4 := (elL (Wv.Mk.mk 0 false (Wv.It.mk 0 0) false false (Wv.It.mk 0 0))); (decide (Gv.Node.h (Prod.fst (n, m2)) > (0 : Int)) = true → Vc True ∧ Vc True ∧ (zz1 = true → Post (G (Value.tuple (Array.mk [Value.agg (Array.mk (elL (Gv.Node.e (Prod.fst (n, m2))))), Value.bool true])) [trB 1 ti tg, oP zz2, some (Sum.inl (46, (elL ke))), some (Sum.inl (46, (elL (Gv.Node.e (Prod.fst (n, m2)))))), some (Sum.inl (72, (ndL (Prod.fst (n, m2)))))])) ∧ (zz1 = false → (decide zz3 = true → Vc (PP zz2) ∧ Post (∃ j, (PP (Prod.snd (Prod.snd j)) ∧ Gv.FindE Wv.O8 (Prod.fst j) (Prod.snd (Prod.snd j)) (Prod.fst (Prod.snd j)) ke ∧ Gv.find Wv.O8 (Prod.fst j) (Prod.snd (Prod.snd j)) (Prod.fst (Prod.snd j)) ke = Gv.find Wv.O8 K (Gv.see m (Gv.Ref.mk ti tg)) (Gv.lk Wv.O8 m (Gv.Ref.mk ti tg)) ke) ∧ Prod.fst j < k + 1 ∧ FitsM Rs 2 (Func.ntmps Try.f32) [0, 3, 4, 5, 6] [zz6, zz7, zz8, Value.bool false, zz5] [trB 1 ti tg, oP (Prod.snd (Prod.snd j)), some (Sum.inl ((46 : TypeId), elL ke)), some (Sum.inl ((46 : TypeId), zz4)), some (Sum.inl ((72 : TypeId), ndL (Prod.fst (Prod.snd j))))] [some (zz6), some (zz7), some (zz8), some (Value.bool false), some (zz5)] [trB 1 ti tg, oP (Gv.see zz2 (Gv.Node.l (Prod.fst (n, m2)))), some (Sum.inl (46, (elL ke))), some (Sum.inl (46, zz4)), some (Sum.inl (72, (ndL (Gv.lk Wv.O8 zz2 (Gv.Node.l (Prod.fst (n, m2)))))))] 38)) ∧ (decide zz3 = false → Vc (PP zz2) ∧ Post (∃ j, (PP (Prod.snd (Prod.snd j)) ∧ Gv.FindE Wv.O8 (Prod.fst j) (Prod.snd (Prod.snd j)) (Prod.fst (Prod.snd j)) ke ∧ Gv.find Wv.O8 (Prod.fst j) (Prod.snd (Prod.snd j)) (Prod.fst (Prod.snd j)) ke = Gv.find Wv.O8 K (Gv.see m (Gv.Ref.mk ti tg)) (Gv.lk Wv.O8 m (Gv.Ref.mk ti tg)) ke) ∧ Prod.fst j < k + 1 ∧ FitsM Rs 2 (Func.ntmps Try.f32) [0, 3, 4, 5, 6] [zz6, zz7, zz8, Value.bool false, zz5] [trB 1 ti tg, oP (Prod.snd (Prod.snd j)), some (Sum.inl ((46 : TypeId), elL ke)), some (Sum.inl ((46 : TypeId), zz4)), some (Sum.inl ((72 : TypeId), ndL (Prod.fst (Prod.snd j))))] [some (zz6), some (zz7), some (zz8), some (Value.bool false), some (zz5)] [trB 1 ti tg, oP (Gv.see zz2 (Gv.Node.r (Prod.fst (n, m2)))), some (Sum.inl (46, (elL ke))), some (Sum.inl (46, zz4)), some (Sum.inl (72, (ndL (Gv.lk Wv.O8 zz2 (Gv.Node.r (Prod.fst (n, m2)))))))] 38)))) ∧ (decide (Gv.Node.h (Prod.fst (n, m2)) > (0 : Int)) = false → Post (G (Value.tuple (Array.mk [Value.agg (Array.mk zz4), Value.bool false])) [trB 1 ti tg, oP zz2, some (Sum.inl (46, (elL ke))), some (Sum.inl (46, zz4)), some (Sum.inl (72, (ndL (Prod.fst (n, m2))))), some (Sum.inl (46, zz4))]))) ?_ (by kernel_rfl)
    intro zz5 zz6 zz7 zz8 zz1 zz2 zz3 zz4; subst zz4 zz3 zz2 zz1 zz8 zz7 zz6 zz5
    rw [Gv.FindE] at s2
    rw [Gv.find] at s3
    subst hG
    repeat' (first | apply And.intro | apply Vc.mk | apply fits.mk | intro h | apply Post.mk)
    all_goals (try simp only [decide_eq_true_eq, decide_eq_false_iff_not, Nat.zero_add, ge_iff_le, Int.not_le, Int.not_lt, Int.toNat_natCast, beq_iff_eq, beq_eq_false_iff_ne, bne_iff_ne, bne_eq_false_iff_eq, Bool.not_eq_true', Bool.not_eq_false'] at *)
    all_goals first | contradiction | omega | (apply congrArg Value.bool; assumption) | exact congrArg Value.bool (decide_eq_true (by assumption)) | exact congrArg Value.bool (decide_eq_false (Int.not_lt.mpr (by assumption))) | exact ⟨rfl, by omega⟩ | exact rfl | (simp [*, -List.getD_eq_getElem?_getD]; done) | skip
    all_goals first | assumption | skip
    · have h1 : n.h > 0 := by assumption
      have h2 : Wv.O8.cmp ke n.e = 0 := by assumption
      rw [if_pos h1, if_pos h2] at s3
      rw [← s3]
      exact ⟨[0, 1], rfl, rfl, ⟨.inl rfl, rfl, trivial⟩, rfl, rfl, rfl, rfl⟩
    · have h1 : n.h > 0 := by assumption
      have h2 : Wv.O8.cmp ke n.e ≠ 0 := by assumption
      have h3 : Wv.O8.cmp ke n.e < 0 := by assumption
      rw [if_pos h1, if_neg h2, if_pos h3] at s3
      exact ⟨(k, Gv.lk Wv.O8 m2 n.l, Gv.see m2 n.l), ⟨Gv.see_ok.2 s1, (s2 h1 h2).1 (by omega), s3⟩, Nat.lt_succ_self _, ⟨[0, 1, 2, 3, 4], rfl, ⟨.inl rfl, rfl, .inl rfl, .inl rfl, .inl rfl, trivial⟩, rfl, rfl, rfl, rfl⟩⟩
    · have h1 : n.h > 0 := by assumption
      have h2 : Wv.O8.cmp ke n.e ≠ 0 := by assumption
      have h3 : ¬ Wv.O8.cmp ke n.e < 0 := by omega
      rw [if_pos h1, if_neg h2, if_neg h3] at s3
      exact ⟨(k, Gv.lk Wv.O8 m2 n.r, Gv.see m2 n.r), ⟨Gv.see_ok.2 s1, (s2 h1 h2).2 (by omega), s3⟩, Nat.lt_succ_self _, ⟨[0, 1, 2, 3, 4], rfl, ⟨.inl rfl, rfl, .inl rfl, .inl rfl, .inl rfl, trivial⟩, rfl, rfl, rfl, rfl⟩⟩
    · have h1 : ¬ n.h > 0 := by omega
      rw [if_neg h1] at s3
      rw [← s3]
      exact ⟨[0, 1], rfl, rfl, ⟨.inl rfl, rfl, trivial⟩, rfl, rfl, rfl, rfl⟩
  · cases hx
def grankP (K : Nat) : Prim Rs := fun args hh => match args, hh with
  | [.pointer (some ⟨0, 0, none⟩), .agg ⟨kE⟩], [some (.inl (76, [.pointer (some ⟨1, 0, none⟩), .int .i64 ti, .int .i64 tg])), some (.inr (.inr (.inr (.pool m))))] => some ⟨kE = elL (elOf kE) ∧ (PP m ∧ Gv.RankE Wv.O8 K (Gv.see m (⟨ti, tg⟩ : Gv.Ref)) (Gv.lk Wv.O8 m (⟨ti, tg⟩ : Gv.Ref)) (elOf kE) 0), .int .i64 (Gv.rank Wv.O8 K (Gv.see m (⟨ti, tg⟩ : Gv.Ref)) (Gv.lk Wv.O8 m (⟨ti, tg⟩ : Gv.Ref)) (elOf kE) 0).1, none, [some (.inl (76, [.pointer (some ⟨1, 0, none⟩), .int .i64 ti, .int .i64 tg])), some (.inr (.inr (.inr (.pool (Gv.rank Wv.O8 K (Gv.see m (⟨ti, tg⟩ : Gv.Ref)) (Gv.lk Wv.O8 m (⟨ti, tg⟩ : Gv.Ref)) (elOf kE) 0).2))))], [], [(0, 0)]⟩
  | _, _ => none
def TGRank (K : Nat) : Tab Rs := [(1000000000, wrapCon), (33, liftC zN 2 (con1 lookP)), (67, liftC zN 2 (con1 Wv.mcmpP))]
theorem grank_ok (K : Nat) : ConOk D Try.prog 30 (con1 (grankP K)) := by
  refine con1_ok (prim_at (fn := Try.f30) (root := codeOf Try.f30) (by kernel_rfl) (by kernel_rfl) (by kernel_rfl) fun args hh x hx => ?_)
  unfold grankP at hx
  split at hx
  · rename_i kE ti tg m
    injection hx with hx
    subst hx
    refine ⟨by first | exact Nat.le_refl _ | exact Nat.zero_le _ | exact Nat.le_succ _ | exact Nat.le_add_left 1 3 | exact Nat.le_add_left 2 2 | exact Nat.le_add_left 1 2, noLit rfl, (fun hw => by first | rfl | cases hw), fun _ hv => ?_⟩
    obtain ⟨hq0, hv⟩ := hv; generalize elOf kE = ke at *; subst hq0; obtain ⟨hp, hd⟩ := hv
    generalize hG : Rx.Ends (R := Rs) _ _ = G
    refine rx_ok (T := (TGRank K)) (show TabOk D Try.prog (TGRank K) from ⟨wrapCon_ok, liftC_ok _ _ look_ok, liftC_ok _ _ Wv.mcmp_ok, trivial⟩) mixed 200 ?_
    refine as_text (q := let zz1 := (Value.pointer (some (Addr.mk 0 0 none))); Vc (PP m) ∧ At D Try.prog (codeOf Try.f30) 2 (retK Try.prog (Array.toList (Func.results Try.f30)) G) [Sum.inl [1, 1, 1, 0, 0], Sum.inr (Sum.inl 0), Sum.inl [1, 1, 1, 1]] (SS.mk [some zz1, some (Value.agg (Array.mk (elL ke))), none, some (Value.pointer (some (Addr.mk 2 0 none))), some (Value.int IntKind.i64 0), some (Value.int IntKind.i64 0), some (Value.pointer (some (Addr.mk 3 0 none))), none, some zz1, some zz1, some zz1, some (Value.pointer (some (Addr.mk 0 1 none))), some (Value.agg (Array.mk [Value.int IntKind.i64 ti, Value.int IntKind.i64 tg])), some (Value.agg (Array.mk (ndL (Gv.lk Wv.O8 m (Gv.Ref.mk ti tg))))), none, none, none, none, none, none, none, none, none, none, none, none, none, none, none, none, none, none, none, none, none, none, none, none, none, none, none, none] [] [trB 1 ti tg, oP (Gv.see m (Gv.Ref.mk ti tg)), some (Sum.inl (46, (elL ke))), some (Sum.inl (72, (ndL (Gv.lk Wv.O8 m (Gv.Ref.mk ti tg)))))])) ?_ (by kernel_rfl)
    intro zz1; subst zz1
    refine ⟨⟨hp⟩, ?_⟩
    refine loop_atM (by kernel_rfl) (ι := Nat × Nd × Pl × Int) (fun s => PP s.2.2.1 ∧ Gv.RankE Wv.O8 s.1 s.2.2.1 s.2.1 ke s.2.2.2 ∧ Gv.rank Wv.O8 s.1 s.2.2.1 s.2.1 ke s.2.2.2 = Gv.rank Wv.O8 K (Gv.see m (⟨ti, tg⟩ : Gv.Ref)) (Gv.lk Wv.O8 m (⟨ti, tg⟩ : Gv.Ref)) ke 0) [0, 3, 5, 6] (fun s => [.pointer (some ⟨0, 0, none⟩), .pointer (some ⟨2, 0, none⟩), .int .i64 s.2.2.2, .pointer (some ⟨3, 0, none⟩)]) (fun s => [some (.inl (76, [.pointer (some ⟨1, 0, none⟩), .int .i64 ti, .int .i64 tg])), some (.inr (.inr (.inr (.pool s.2.2.1)))), some (.inl (46, elL ke)), some (.inl (72, ndL s.2.1))]) (fun s => s.1) (Try.f30).ntmps (fun s hs => ⟨rfl, rfl, Nat.le_add_left _ _⟩) ⟨(K, Gv.lk Wv.O8 m (⟨ti, tg⟩ : Gv.Ref), Gv.see m (⟨ti, tg⟩ : Gv.Ref), 0), ⟨Gv.see_ok.2 hp, hd, rfl⟩, ⟨[0, 1, 2, 3], rfl, ⟨.inl rfl, rfl, .inl rfl, .inl rfl, trivial⟩, rfl, rfl, rfl, rfl⟩⟩ fun s hs => ?_
    obtain ⟨k, n, m2, c⟩ := s
    obtain ⟨s1, s2, s3⟩ := hs
    simp only at s1 s2 s3
    rcases k with _ | k
    · exact s2.elim
    refine rx_ok (T := TGRank K) (show TabOk D Try.prog (TGRank K) from ⟨wrapCon_ok, liftC_ok _ _ look_ok, liftC_ok _ _ Wv.mcmp_ok, trivial⟩) mixed 200 ?_
    refine as_text (q := let zz3 := Value.pointer (some (Addr.mk 0 0 none)); let zz4 := Value.pointer (some (Addr.mk 2 0 none)); let zz5 := Value.pointer (some (Addr.mk 3 0 none)); let zz6 := Value.int IntKind.i64; let zz1 := (Prod.fst (n, m2, c)); let zz2 := (Prod.fst (Prod.snd (n, m2, c))); (decide (Gv.Node.h zz1 > (0 : Int)) = true → Vc True ∧ Vc True ∧ (decide (Gv.Ops.cmp Wv.O8 ke (Gv.Node.e zz1) ≤ (0 : Int)) = true → Vc (PP zz2) ∧ Post (∃ j, (PP (Prod.fst (Prod.snd (Prod.snd j))) ∧ Gv.RankE Wv.O8 (Prod.fst j) (Prod.fst (Prod.snd (Prod.snd j))) (Prod.fst (Prod.snd j)) ke (Prod.snd (Prod.snd (Prod.snd j))) ∧ Gv.rank Wv.O8 (Prod.fst j) (Prod.fst (Prod.snd (Prod.snd j))) (Prod.fst (Prod.snd j)) ke (Prod.snd (Prod.snd (Prod.snd j))) = Gv.rank Wv.O8 K (Gv.see m (Gv.Ref.mk ti tg)) (Gv.lk Wv.O8 m (Gv.Ref.mk ti tg)) ke (0 : Int)) ∧ Prod.fst j < k + 1 ∧ FitsM Rs 2 (Func.ntmps Try.f30) [0, 3, 5, 6] [zz3, zz4, zz6 (Prod.snd (Prod.snd (Prod.snd j))), zz5] [trB 1 ti tg, oP (Prod.fst (Prod.snd (Prod.snd j))), some (Sum.inl ((46 : TypeId), elL ke)), some (Sum.inl ((72 : TypeId), ndL (Prod.fst (Prod.snd j))))] [some (zz3), some (zz4), some (zz6 (Prod.snd (Prod.snd (n, m2, c)))), some (zz5)] [trB 1 ti tg, oP (Gv.see zz2 (Gv.Node.l zz1)), some (Sum.inl (46, (elL ke))), some (Sum.inl (72, (ndL (Gv.lk Wv.O8 zz2 (Gv.Node.l zz1)))))] 42)) ∧ (decide (Gv.Ops.cmp Wv.O8 ke (Gv.Node.e zz1) ≤ (0 : Int)) = false → Vc (PP zz2) ∧ Vc True ∧ Vc True ∧ Post (∃ j, (PP (Prod.fst (Prod.snd (Prod.snd j))) ∧ Gv.RankE Wv.O8 (Prod.fst j) (Prod.fst (Prod.snd (Prod.snd j))) (Prod.fst (Prod.snd j)) ke (Prod.snd (Prod.snd (Prod.snd j))) ∧ Gv.rank Wv.O8 (Prod.fst j) (Prod.fst (Prod.snd (Prod.snd j))) (Prod.fst (Prod.snd j)) ke (Prod.snd (Prod.snd (Prod.snd j))) = Gv.rank Wv.O8 K (Gv.see m (Gv.Ref.mk ti tg)) (Gv.lk Wv.O8 m (Gv.Ref.mk ti tg)) ke (0 : Int)) ∧ Prod.fst j < k + 1 ∧ FitsM Rs 2 (Func.ntmps Try.f30) [0, 3, 5, 6] [zz3, zz4, zz6 (Prod.snd (Prod.snd (Prod.snd j))), zz5] [trB 1 ti tg, oP (Prod.fst (Prod.snd (Prod.snd j))), some (Sum.inl ((46 : TypeId), elL ke)), some (Sum.inl ((72 : TypeId), ndL (Prod.fst (Prod.snd j))))] [some (zz3), some (zz4), some (zz6 (IntKind.wrap IntKind.i64 (Prod.snd (Prod.snd (n, m2, c)) + IntKind.wrap IntKind.i64 (Gv.Part.n (Gv.Node.all zz1) - Gv.Part.n (Gv.Node.all (Gv.lk Wv.O8 zz2 (Gv.Node.r zz1))))))), some (zz5)] [trB 1 ti tg, oP (Gv.see zz2 (Gv.Node.r zz1)), some (Sum.inl (46, (elL ke))), some (Sum.inl (72, (ndL (Gv.lk Wv.O8 zz2 (Gv.Node.r zz1))))), some (Sum.inl (72, (ndL (Gv.lk Wv.O8 zz2 (Gv.Node.r zz1)))))] 42))) ∧ (decide (Gv.Node.h zz1 > (0 : Int)) = false → Post (G (zz6 (Prod.snd (Prod.snd (n, m2, c)))) [trB 1 ti tg, oP zz2, some (Sum.inl (46, (elL ke))), some (Sum.inl (72, (ndL zz1)))]))) ?_ (by kernel_rfl)
    intro zz3 zz4 zz5 zz6 zz1 zz2; subst zz2 zz1 zz6 zz5 zz4 zz3
    rw [Gv.RankE] at s2
    rw [Gv.rank] at s3
    subst hG
    repeat' (first | apply And.intro | apply Vc.mk | apply fits.mk | intro h | apply Post.mk)
    all_goals (try simp only [decide_eq_true_eq, decide_eq_false_iff_not, Nat.zero_add, ge_iff_le, Int.not_le, Int.not_lt, Int.toNat_natCast, beq_iff_eq, beq_eq_false_iff_ne, bne_iff_ne, bne_eq_false_iff_eq, Bool.not_eq_true', Bool.not_eq_false'] at *)
    all_goals first | contradiction | omega | (apply congrArg Value.bool; assumption) | exact congrArg Value.bool (decide_eq_true (by assumption)) | exact congrArg Value.bool (decide_eq_false (Int.not_lt.mpr (by assumption))) | exact ⟨rfl, by omega⟩ | exact rfl | (simp [*, -List.getD_eq_getElem?_getD]; done) | skip
    all_goals first | assumption | skip
    · have h1 : n.h > 0 := by assumption
      have h2 : Wv.O8.cmp ke n.e ≤ 0 := by assumption
      rw [if_pos h1, if_pos h2] at s3
      exact ⟨(k, Gv.lk Wv.O8 m2 n.l, Gv.see m2 n.l, c), ⟨Gv.see_ok.2 s1, (s2 h1).1 (by omega), s3⟩, Nat.lt_succ_self _, ⟨[0, 1, 2, 3], rfl, ⟨.inl rfl, rfl, .inl rfl, .inl rfl, trivial⟩, rfl, rfl, rfl, rfl⟩⟩
    · have h1 : n.h > 0 := by assumption
      have h2 : ¬ Wv.O8.cmp ke n.e ≤ 0 := by omega
      rw [if_pos h1, if_neg h2] at s3
      exact ⟨(k, Gv.lk Wv.O8 m2 n.r, Gv.see m2 n.r, Gv.W (c + Gv.W (n.all.n - (Gv.lk Wv.O8 m2 n.r).all.n))), ⟨Gv.see_ok.2 s1, (s2 h1).2 (by omega), s3⟩, Nat.lt_succ_self _, ⟨[0, 1, 2, 3], rfl, ⟨.inl rfl, rfl, .inl rfl, .inl rfl, trivial⟩, rfl, rfl, rfl, rfl⟩⟩
    · have h1 : ¬ n.h > 0 := by omega
      rw [if_neg h1] at s3
      rw [← s3]
      exact ⟨[0, 1], rfl, rfl, ⟨.inl rfl, rfl, trivial⟩, rfl, rfl, rfl, rfl⟩
  · cases hx
end Go.Proofs.Ytegekenkfomlbaa.G8
