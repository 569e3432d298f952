/- box: what the laws call; the example; nobody's boxes. -/
import Derived.Test.YtagiodenlhfgfaaBxPicked
namespace Go.Proofs.Ytagiodenlhfgfaa.Bx
open Go.Proofs.Ytagiodenlhfgfaa.Rx
set_option linter.unusedVariables false
set_option linter.unusedSimpArgs false
set_option maxRecDepth 100000
def TL0 : Tab Rs := [(8, liftC zN 2 (con1 newP)), (12, liftC zN 2 (con1 offerP)), (14, liftC zN 2 (con1 takeP)), (21, liftC zN 2 (con1 lenP)), (10, liftC zN 2 (con1 capP)),
  (16, liftC zN 2 (con1 closeP)), (22, liftC zN 2 (con1 closedP)), (17, liftC zN 2 (con1 pickP)), (20, liftC zN 2 (con1 pourP)),
  (24, liftC zN 2 (con1 newSP)), (25, liftC zN 2 (con1 offerSP)), (30, liftC zN 2 (con1 takeSP)), (28, liftC zN 2 (con1 lenSP)),
  (26, liftC zN 2 (con1 closeSP)), (27, liftC zN 2 (con1 closedSP)), (29, liftC zN 2 (con1 pickSP)),
  (11, liftC zN 2 (con1 restP)), (23, liftV zY 2 (con1 intsP)),
  (9, liftC zN 2 (con1 rnewP)), (13, liftC zN 2 rofferC), (15, liftC zN 2 (con1 rtakeP)), (19, liftC zN 2 rpourC), (18, liftC zN 2 (con1 pickedP)), (1000000000, rdBox)]
theorem TL0_ok : TabOk D Try.prog TL0 := ⟨liftC_ok _ _ new_ok, liftC_ok _ _ offer_ok, liftC_ok _ _ take_ok, liftC_ok _ _ len_ok, liftC_ok _ _ cap_ok, liftC_ok _ _ close_ok, liftC_ok _ _ closed_ok, liftC_ok _ _ pick_ok, liftC_ok _ _ pour_ok,
  liftC_ok _ _ newS_ok, liftC_ok _ _ offerS_ok, liftC_ok _ _ takeS_ok, liftC_ok _ _ lenS_ok, liftC_ok _ _ closeS_ok, liftC_ok _ _ closedS_ok, liftC_ok _ _ pickS_ok,
  liftC_ok _ _ rest_ok, liftV_ok _ _ ints_ok, liftC_ok _ _ rnew_ok, liftC_ok _ _ roffer_ok, liftC_ok _ _ rtake_ok, liftC_ok _ _ rpour_ok, liftC_ok _ _ picked_ok, rdBox_ok, trivial⟩
def awakeP : Prim Rs := fun args hh => match args, hh with
  | [], [] => some ⟨True, .bool true, none, hh, [], []⟩
  | _, _ => none
theorem awake_ok : ConOk D Try.prog 7 (con1 awakeP) := by
  refine con1_ok (prim_at (fn := Try.f7) (root := codeOf Try.f7) (by kernel_rfl) (by kernel_rfl) (by kernel_rfl) fun args hh x hx => ?_)
  unfold awakeP at hx
  split at hx
  · injection hx with hx
    subst hx
    refine ⟨by first | exact Nat.le_refl _ | exact Nat.zero_le _ | exact Nat.le_succ _, noLit rfl, (fun hw => by first | rfl | cases hw), fun _ hv => ?_⟩
    generalize hG : Rx.Ends (R := Rs) _ _ = G
    refine rx_ok (T := TL0) TL0_ok mixed 200 ?_
    refine as_text (q := Vc True ∧ Vc True ∧ (false = false → Vc True ∧ (false = false → Vc True ∧ (false = true → Post (G (Value.bool false) [some (Sum.inr (Sum.inr (Sum.inr (Rs.ints (BI.offer (BI.offer (BI.offer (BI.mk 2 [] false) (1 : Int)) (2 : Int)) (3 : Int))))))])) ∧ (false = false → Vc True ∧ (true = true → (true = true → Vc True ∧ Post (G (Value.bool true) [some (Sum.inr (Sum.inr (Sum.inr (Rs.ints (BI.take (BI.offer (BI.offer (BI.offer (BI.mk 2 [] false) (1 : Int)) (2 : Int)) (3 : Int)))))))])) ∧ (true = false → Post (G (Value.bool false) [some (Sum.inr (Sum.inr (Sum.inr (Rs.ints (BI.take (BI.offer (BI.offer (BI.offer (BI.mk 2 [] false) (1 : Int)) (2 : Int)) (3 : Int)))))))]))) ∧ (true = false → Post (G (Value.bool false) [some (Sum.inr (Sum.inr (Sum.inr (Rs.ints (BI.take (BI.offer (BI.offer (BI.offer (BI.mk 2 [] false) (1 : Int)) (2 : Int)) (3 : Int)))))))])))) ∧ (false = true → Post (G (Value.bool false) [some (Sum.inr (Sum.inr (Sum.inr (Rs.ints (BI.offer (BI.offer (BI.mk 2 [] false) (1 : Int)) (2 : Int))))))]))) ∧ (false = true → Post (G (Value.bool false) [some (Sum.inr (Sum.inr (Sum.inr (Rs.ints (BI.offer (BI.mk 2 [] false) (1 : Int))))))]))) ?_ (by kernel_rfl)
    subst hG
    repeat' (first | apply And.intro | apply Vc.mk | apply fits.mk | intro h | apply Post.mk)
    all_goals first | exact trivial | (exfalso; revert h; decide) | exact rfl | skip
    all_goals exact ⟨⟨[], rfl, rfl, trivial, rfl, rfl, rfl, rfl⟩⟩
  · cases hx
theorem nil_run {G : Value → Hp Rs → Prop} {n : Int} (hG : ∀ hp, G (.bool true) hp) :
    At D Try.prog (codeOf Try.f6) 0 (retK Try.prog Try.f6.results.toList G) [.inl []] ⟨someL [.int .i64 n] ++ List.replicate (Try.f6.ntmps - 1) none, [], []⟩ := by
  refine rx_ok (T := (7, liftC zN 2 (con1 awakeP)) :: TL0) ⟨liftC_ok _ _ awake_ok, TL0_ok⟩ mixed 200 ?_
  refine as_text (q := Vc True ∧ (false = true → Post (G (Value.bool false) [])) ∧ (false = false → Vc True ∧ Vc True ∧ Vc True ∧ (true = true → (true = true → (true = true → (true = true → (true = true → (true = true → Vc True ∧ (true = true → Vc True ∧ (true = true → Vc True ∧ Post (G (Value.bool true) [some (Sum.inr (Sum.inr (Sum.inr (Rs.ints (BI.mk (Int.toNat (min (max n (1 : Int)) (1000 : Int))) [] false))))), some (Sum.inl (25, [Value.pointer none, Value.pointer none]))])) ∧ (true = false → Post (G (Value.bool false) [some (Sum.inr (Sum.inr (Sum.inr (Rs.ints (BI.mk (Int.toNat (min (max n (1 : Int)) (1000 : Int))) [] false))))), some (Sum.inl (25, [Value.pointer none, Value.pointer none]))]))) ∧ (true = false → Post (G (Value.bool false) [some (Sum.inr (Sum.inr (Sum.inr (Rs.ints (BI.mk (Int.toNat (min (max n (1 : Int)) (1000 : Int))) [] false))))), some (Sum.inl (25, [Value.pointer none, Value.pointer none]))]))) ∧ (true = false → Post (G (Value.bool false) [some (Sum.inr (Sum.inr (Sum.inr (Rs.ints (BI.mk (Int.toNat (min (max n (1 : Int)) (1000 : Int))) [] false))))), some (Sum.inl (25, [Value.pointer none, Value.pointer none]))]))) ∧ (true = false → Post (G (Value.bool false) [some (Sum.inr (Sum.inr (Sum.inr (Rs.ints (BI.mk (Int.toNat (min (max n (1 : Int)) (1000 : Int))) [] false))))), some (Sum.inl (25, [Value.pointer none, Value.pointer none]))]))) ∧ (true = false → Post (G (Value.bool false) [some (Sum.inr (Sum.inr (Sum.inr (Rs.ints (BI.mk (Int.toNat (min (max n (1 : Int)) (1000 : Int))) [] false))))), some (Sum.inl (25, [Value.pointer none, Value.pointer none]))]))) ∧ (true = false → Post (G (Value.bool false) [some (Sum.inr (Sum.inr (Sum.inr (Rs.ints (BI.mk (Int.toNat (min (max n (1 : Int)) (1000 : Int))) [] false))))), some (Sum.inl (25, [Value.pointer none, Value.pointer none]))]))) ∧ (true = false → Post (G (Value.bool false) [some (Sum.inr (Sum.inr (Sum.inr (Rs.ints (BI.mk (Int.toNat (min (max n (1 : Int)) (1000 : Int))) [] false))))), some (Sum.inl (25, [Value.pointer none, Value.pointer none]))]))) ∧ (true = false → Post (G (Value.bool false) [some (Sum.inr (Sum.inr (Sum.inr (Rs.ints (BI.mk (Int.toNat (min (max n (1 : Int)) (1000 : Int))) [] false))))), some (Sum.inl (25, [Value.pointer none, Value.pointer none]))])))) ?_ (by kernel_rfl)
  repeat' (first | apply And.intro | apply Vc.mk | apply Post.mk | intro h)
  all_goals first | exact trivial | exact hG _ | exact absurd ‹true = false› (by decide) | exact absurd ‹false = true› (by decide)
def TLA : Tab Rs := (7, liftC zN 2 (con1 awakeP)) :: TL0
theorem TLA_ok : TabOk D Try.prog TLA := ⟨liftC_ok _ _ awake_ok, TL0_ok⟩
end Go.Proofs.Ytagiodenlhfgfaa.Bx
