/- pile: what the laws call. -/
import Derived.Test.YtfofaiidakkgbaaPiPop
namespace Go.Proofs.Ytfofaiidakkgbaa.Pi
open Go.Proofs.Ytfofaiidakkgbaa.Rx
set_option linter.unusedVariables false
set_option linter.unusedSimpArgs false
set_option maxRecDepth 100000
def PI.okB (m : PI) (n : Nat) : Bool := decide (0 ≤ m.lim) && decide (m.lim ≤ 10000) && Nat.ble (m.pre.length + m.xs.length + m.post.length) n && decide ((m.xs.length : Int) ≤ m.lim) && (m.tag || Nat.beq m.pre.length 0)
theorem PI.ok_of {m : PI} {n : Nat} (h : m.okB n = true) : m.Ok n := by
  simp only [PI.okB, Bool.and_eq_true, Bool.or_eq_true, Nat.ble_eq, decide_eq_true_eq] at h
  obtain ⟨⟨⟨⟨h1, h2⟩, h3⟩, h4⟩, h5⟩ := h
  refine ⟨h1, h2, h3, h4, fun ht => ?_⟩
  cases h5 with
  | inl h5 => rw [h5] at ht; cases ht
  | inr h5 => exact List.eq_nil_of_length_eq_zero (Nat.eq_of_beq_eq_true h5)
theorem PI.Ok.mono {m : PI} {n k : Nat} (h : m.Ok n) (hk : n ≤ k) : m.Ok k := ⟨h.lim0, h.lim, Nat.le_trans h.len hk, h.fit, h.cut⟩
theorem PI.snoc (m : PI) {ys : List Int} {z : Int} (h : m.xs = ys ++ [z]) : m.top = z ∧ m.pop = ⟨m.lim, ys, m.pre, 0 :: m.post, m.tag⟩ ∧ m.xs.length ≠ 0 := by
  have hl : m.xs.length = ys.length + 1 := by rw [h]; simp
  have h0 : ¬ m.xs.length = 0 := by omega
  refine ⟨?_, ?_, h0⟩
  · rw [PI.top, if_neg h0, hl, h]
    simp
  · rw [PI.pop_some m h0, hl, h]
    simp
theorem PI.Ok.pop {m : PI} {n : Nat} (h : m.Ok n) : m.pop.Ok n := by
  obtain ⟨h1, h2, h3, h4, h5⟩ := h
  by_cases h0 : m.xs.length = 0
  · rw [PI.pop, if_pos h0]; exact ⟨h1, h2, h3, h4, h5⟩
  · rw [PI.pop, if_neg h0]
    refine ⟨h1, h2, ?_, ?_, h5⟩ <;> (simp; omega)
theorem PI.Ok.push {m : PI} {n : Nat} (h : m.Ok n) (v : Int) : (m.push v).Ok (n + 1) := by
  obtain ⟨h1, h2, h3, h4, h5⟩ := h
  by_cases ho : ((m.xs.length + 1 : Nat) : Int) > m.lim
  · obtain ⟨y, ys, e⟩ := snoc_cons m.xs v
    have hl : m.xs.length = ys.length := by have := congrArg List.length e; simpa using this
    rw [(PI.push_over m v y ys ho e).1]
    exact ⟨h1, h2, by simp; omega, by simp only; omega, fun h => by cases h⟩
  · rw [(PI.push_room m v (by omega)).1]
    exact ⟨h1, h2, by simp; omega, by simp; omega, fun _ => rfl⟩
theorem PI.Ok.clear {m : PI} {n : Nat} (h : m.Ok n) : m.clear.Ok n := ⟨h.lim0, h.lim, Nat.zero_le _, h.lim0, fun _ => rfl⟩
def z0 : Nat → Bool := fun j => Nat.beq j 0
def TL : Tab Rs := [(10, liftC zN 2 (con1 restP)), (17, liftV zY 2 (con1 intsP)),
  (9, liftC zN 2 (con1 limitP)), (12, liftV z0 2 rpushC),
  (8, liftC zN 2 (con1 newP)), (11, liftC zN 2 (con1 pushP)), (14, liftC zN 2 (con1 popP)), (13, liftC zN 2 (con1 topP)),
  (16, liftC zN 2 (con1 lenP)), (18, liftC zN 2 (con1 listP)), (15, liftC zN 2 (con1 clearP))]
theorem TL_ok : TabOk D Try.prog TL := ⟨liftC_ok _ _ rest_ok, liftV_ok _ _ ints_ok, liftC_ok _ _ limit_ok, liftV_ok _ _ rpush_ok, liftC_ok _ _ new_ok, liftC_ok _ _ push_ok, liftC_ok _ _ pop_ok, liftC_ok _ _ top_ok,
  liftC_ok _ _ len_ok, liftC_ok _ _ list_ok, liftC_ok _ _ clear_ok, trivial⟩
def awakeP : Prim Rs := fun args hh => match args, hh with
  | [], [] => some ⟨True, .bool true, none, hh, [], []⟩
  | _, _ => none
theorem awake_ok : ConOk D Try.prog 7 (con1 awakeP) := by
  refine con1_ok (prim_at (fn := Try.f7) (root := codeOf Try.f7) (by kernel_rfl) (by kernel_rfl) (by kernel_rfl) fun args hh x hx => ?_)
  unfold awakeP at hx
  split at hx
  · injection hx with hx
    subst hx
    refine ⟨by first | exact Nat.le_refl _ | exact Nat.zero_le _ | exact Nat.le_succ _, noLit rfl, (fun hw => by first | rfl | cases hw), fun _ hv => ?_⟩
    generalize hG : Rx.Ends (R := Rs) _ _ = G
    refine rx_ok (T := TL) TL_ok mixed 200 ?_
    refine as_text (q := Vc True ∧ Vc (PI.Ok 20000 (PI.mk (2 : Int) [] [] [] false)) ∧ Vc (PI.Ok 20000 (PI.push (PI.mk (2 : Int) [] [] [] false) (1 : Int))) ∧ Vc (PI.Ok 20000 (PI.push (PI.push (PI.mk (2 : Int) [] [] [] false) (1 : Int)) (2 : Int))) ∧ Vc (PI.Ok 20000 (PI.push (PI.push (PI.push (PI.mk (2 : Int) [] [] [] false) (1 : Int)) (2 : Int)) (3 : Int))) ∧ (true = true → (true = true → (true = true → (true = true → Vc (PI.Ok 20000 (PI.pop (PI.push (PI.push (PI.push (PI.mk (2 : Int) [] [] [] false) (1 : Int)) (2 : Int)) (3 : Int)))) ∧ Post (G (Value.bool true) [some (Sum.inr (Sum.inr (Sum.inr (Rs.ints (PI.pop (PI.push (PI.push (PI.push (PI.mk (2 : Int) [] [] [] false) (1 : Int)) (2 : Int)) (3 : Int)))))))])) ∧ (true = false → Post (G (Value.bool false) [some (Sum.inr (Sum.inr (Sum.inr (Rs.ints (PI.pop (PI.push (PI.push (PI.push (PI.mk (2 : Int) [] [] [] false) (1 : Int)) (2 : Int)) (3 : Int)))))))]))) ∧ (true = false → Post (G (Value.bool false) [some (Sum.inr (Sum.inr (Sum.inr (Rs.ints (PI.pop (PI.push (PI.push (PI.push (PI.mk (2 : Int) [] [] [] false) (1 : Int)) (2 : Int)) (3 : Int)))))))]))) ∧ (true = false → Post (G (Value.bool false) [some (Sum.inr (Sum.inr (Sum.inr (Rs.ints (PI.pop (PI.push (PI.push (PI.push (PI.mk (2 : Int) [] [] [] false) (1 : Int)) (2 : Int)) (3 : Int)))))))]))) ∧ (true = false → Post (G (Value.bool false) [some (Sum.inr (Sum.inr (Sum.inr (Rs.ints (PI.pop (PI.push (PI.push (PI.push (PI.mk (2 : Int) [] [] [] false) (1 : Int)) (2 : Int)) (3 : Int)))))))]))) ?_ (by kernel_rfl)
    subst hG
    repeat' (first | apply And.intro | apply Vc.mk | apply fits.mk | intro h | apply Post.mk)
    all_goals first | exact trivial | exact PI.ok_of rfl | (exfalso; revert h; decide) | exact rfl | skip
    all_goals exact ⟨⟨[], rfl, rfl, trivial, rfl, rfl, rfl, rfl⟩⟩
  · cases hx
end Go.Proofs.Ytfofaiidakkgbaa.Pi
