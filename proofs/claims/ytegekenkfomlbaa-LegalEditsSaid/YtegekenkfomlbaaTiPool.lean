/- tide: the calls. -/
import Derived.Test.YtegekenkfomlbaaTiRef
namespace Go.Proofs.Ytegekenkfomlbaa.Ti
open Go.Proofs.Ytegekenkfomlbaa.Rx
set_option linter.unusedVariables false
set_option linter.unusedSimpArgs false
set_option maxRecDepth 100000
/-- a tide -/
structure Td where
  n : Int
  s : Int
  l : Int
def Td.v (t : Td) : Value := .agg ⟨[.int .i64 t.n, .int .i64 t.s, .int .i64 t.l]⟩
def w64 (x : Int) : Int := IntKind.i64.wrap x
def Td.plus (t u : Td) : Td := if t.n = 0 then u else if u.n = 0 then t else ⟨w64 (t.n + u.n), w64 (t.s + u.s), min t.l (w64 (t.s + u.l))⟩
def Td.least (t : Td) (x : Int) : Int := if t.n = 0 then x else min x (w64 (x + t.l))
def TW {R : Type} : Tab R := [(1000000000, wrapCon)]
theorem TW_ok {R : Type} {D : Res R} : TabOk D Try.prog (TW : Tab R) := ⟨wrapCon_ok, trivial⟩
def plusP {R : Type} : Prim R := fun args hh => match args, hh with
  | [.agg ⟨[.int .i64 n, .int .i64 s, .int .i64 l]⟩, .agg ⟨[.int .i64 n', .int .i64 s', .int .i64 l']⟩], [] => some ⟨True, .agg ⟨[.int .i64 (Td.plus ⟨n, s, l⟩ ⟨n', s', l'⟩).n, .int .i64 (Td.plus ⟨n, s, l⟩ ⟨n', s', l'⟩).s, .int .i64 (Td.plus ⟨n, s, l⟩ ⟨n', s', l'⟩).l]⟩, none, hh, [], []⟩
  | _, _ => none
theorem plus_ok {R : Type} {D : Res R} : ConOk D Try.prog 74 (con1 plusP) := by
  refine con1_ok (prim_at (fn := Try.f74) (root := codeOf Try.f74) (by kernel_rfl) (by kernel_rfl) (by kernel_rfl) fun args hh x hx => ?_)
  unfold plusP at hx
  split at hx
  · rename_i n s l n' s' l'
    injection hx with hx
    subst hx
    refine ⟨by first | exact Nat.le_refl _ | exact Nat.zero_le _ | exact Nat.le_succ _ | exact Nat.le_add_left 1 3 | exact Nat.le_add_left 2 2 | exact Nat.le_add_left 1 2, noLit rfl, (fun hw => by first | rfl | cases hw), fun _ hv => ?_⟩
    generalize hG : Rx.Ends (R := R) _ _ = G
    refine rx_ok (T := TW) TW_ok mixed 200 ?_
    refine as_text (q := ((n == (0 : Int)) = true → Post (G (Value.agg (Array.mk [Value.int IntKind.i64 n', Value.int IntKind.i64 s', Value.int IntKind.i64 l'])) [some (Sum.inl (48, [Value.int IntKind.i64 n, Value.int IntKind.i64 s, Value.int IntKind.i64 l])), some (Sum.inl (48, [Value.int IntKind.i64 n', Value.int IntKind.i64 s', Value.int IntKind.i64 l'])), some (Sum.inl (48, [Value.int IntKind.i64 n', Value.int IntKind.i64 s', Value.int IntKind.i64 l']))])) ∧ ((n == (0 : Int)) = false → ((n' == (0 : Int)) = true → Post (G (Value.agg (Array.mk [Value.int IntKind.i64 n, Value.int IntKind.i64 s, Value.int IntKind.i64 l])) [some (Sum.inl (48, [Value.int IntKind.i64 n, Value.int IntKind.i64 s, Value.int IntKind.i64 l])), some (Sum.inl (48, [Value.int IntKind.i64 n', Value.int IntKind.i64 s', Value.int IntKind.i64 l'])), some (Sum.inl (48, [Value.int IntKind.i64 n, Value.int IntKind.i64 s, Value.int IntKind.i64 l]))])) ∧ ((n' == (0 : Int)) = false → Vc True ∧ Vc True ∧ Vc True ∧ Post (G (Value.agg (Array.mk [Value.int IntKind.i64 (IntKind.wrap IntKind.i64 (n + n')), Value.int IntKind.i64 (IntKind.wrap IntKind.i64 (s + s')), Value.int IntKind.i64 (if IntKind.wrap IntKind.i64 (s + l') < l then IntKind.wrap IntKind.i64 (s + l') else l)])) [some (Sum.inl (48, [Value.int IntKind.i64 n, Value.int IntKind.i64 s, Value.int IntKind.i64 l])), some (Sum.inl (48, [Value.int IntKind.i64 n', Value.int IntKind.i64 s', Value.int IntKind.i64 l'])), some (Sum.inl (48, [Value.int IntKind.i64 (IntKind.wrap IntKind.i64 (n + n')), Value.int IntKind.i64 (IntKind.wrap IntKind.i64 (s + s')), Value.int IntKind.i64 (if IntKind.wrap IntKind.i64 (s + l') < l then IntKind.wrap IntKind.i64 (s + l') else l)]))])))) ?_ (by kernel_rfl)
    have fin : ∀ (t : Td) (hp : Hp R), t = Td.plus ⟨n, s, l⟩ ⟨n', s', l'⟩ → G t.v hp := by
      intro t hp ht
      subst ht
      subst hG
      exact ⟨⟨[], rfl, rfl, trivial, rfl, rfl, rfl, rfl⟩⟩
    clear hG
    refine ⟨fun h => ⟨?_⟩, fun h => ⟨fun h' => ⟨?_⟩, fun h' => ⟨⟨trivial⟩, ⟨trivial⟩, ⟨trivial⟩, ⟨?_⟩⟩⟩⟩
    · exact fin ⟨n', s', l'⟩ _ (by rw [Td.plus, if_pos (eq_of_beq h)])
    · exact fin ⟨n, s, l⟩ _ (by rw [Td.plus, if_neg (ne_of_beq_false h), if_pos (eq_of_beq h')])
    · have e : ∀ p q : Int, (if p < q then p else q) = min q p := fun p q => by split <;> omega
      refine fin ⟨w64 (n + n'), w64 (s + s'), if w64 (s + l') < l then w64 (s + l') else l⟩ _ ?_
      rw [Td.plus, if_neg (ne_of_beq_false h), if_neg (ne_of_beq_false h')]
      simp only [e]
  · cases hx
/-- the tide of numbers -/
def tideOf (x : List Int) : Td := ⟨x.length, psum x x.length, low x⟩
theorem w64_of {x : Int} (h : -9223372036854775808 ≤ x ∧ x ≤ 9223372036854775807) : w64 x = x := fits_wrap ⟨h.1, h.2⟩
theorem psum_append {y z : List Int} (j : Nat) : psum (y ++ z) (y.length + j) = psum y y.length + psum z j := by
  unfold psum
  rw [List.take_length_add_append, List.sum_append, List.take_length]
theorem psum_left {y z : List Int} {k : Nat} (h : k ≤ y.length) : psum (y ++ z) k = psum y k := by
  unfold psum
  rw [List.take_append_of_le_length h]
theorem lowTo_left {y z : List Int} : ∀ k, k ≤ y.length → lowTo (y ++ z) k = lowTo y k
  | 0, _ => rfl
  | 1, h => psum_left h
  | k + 2, h => by
    simp only [lowTo]
    rw [lowTo_left (k + 1) (by omega), psum_left h]
theorem lowTo_append {y z : List Int} (hy : y.length ≠ 0) : ∀ j, 1 ≤ j → j ≤ z.length → lowTo (y ++ z) (y.length + j) = min (lowTo y y.length) (psum y y.length + lowTo z j)
  | 0, h, _ => by omega
  | 1, _, h => by
    rw [lowTo_succ (show 0 < y.length by omega), lowTo_left y.length (Nat.le_refl _), psum_append]
    rfl
  | j + 2, _, h => by
    have ih := lowTo_append (z := z) hy (j + 1) (by omega) (by omega)
    rw [show y.length + (j + 2) = y.length + (j + 1) + 1 by omega, lowTo_succ (show 0 < y.length + (j + 1) by omega), ih, show y.length + (j + 1) + 1 = y.length + (j + 2) by omega, psum_append]
    simp only [lowTo]
    omega
theorem getD_left {y z : List Int} {i : Nat} (h : i < y.length) : (y ++ z).getD i 0 = y.getD i 0 := by
  simp only [List.getD_eq_getElem?_getD, List.getElem?_append_left h]
theorem getD_right {y z : List Int} {i : Nat} : (y ++ z).getD (y.length + i) 0 = z.getD i 0 := by
  simp only [List.getD_eq_getElem?_getD]
  rw [List.getElem?_append_right (by omega), Nat.add_sub_cancel_left]
theorem Small.left {y z : List Int} (h : Small (y ++ z)) : Small y := by
  obtain ⟨h1, h2, h3⟩ := h
  simp only [List.length_append] at h1 h2 h3
  refine ⟨by omega, fun i hi => ?_, fun i hi => ?_⟩
  · have := h2 i (by omega); rwa [getD_left hi] at this
  · have := h3 i (by omega); rwa [getD_left hi] at this
theorem Small.right {y z : List Int} (h : Small (y ++ z)) : Small z := by
  obtain ⟨h1, h2, h3⟩ := h
  simp only [List.length_append] at h1 h2 h3
  refine ⟨by omega, fun i hi => ?_, fun i hi => ?_⟩
  · have := h2 (y.length + i) (by omega); rwa [getD_right] at this
  · have := h3 (y.length + i) (by omega); rwa [getD_right] at this
/-- parted anywhere -/
theorem plus_tide {y z : List Int} (h : Small (y ++ z)) : (tideOf y).plus (tideOf z) = tideOf (y ++ z) := by
  by_cases hy : y.length = 0
  · have : y = [] := List.eq_nil_of_length_eq_zero hy
    subst this
    rw [Td.plus, if_pos (show (tideOf []).n = 0 from rfl)]; rfl
  by_cases hz : z.length = 0
  · have : z = [] := List.eq_nil_of_length_eq_zero hz
    subst this
    rw [Td.plus, if_neg (by simp only [tideOf]; omega), if_pos (show (tideOf []).n = 0 from rfl), List.append_nil]
  have a1 := psum_small h.left y.length (Nat.le_refl _)
  have a2 := psum_small h.right z.length (Nat.le_refl _)
  have a3 := lowTo_small h.right z.length (Nat.le_refl _)
  have a4 := h.len
  have e1 := psum_append (y := y) (z := z) z.length
  have e2 := lowTo_append (y := y) (z := z) hy z.length (by omega) (Nat.le_refl _)
  rw [List.length_append] at a4
  rw [Td.plus, if_neg (by simp only [tideOf]; omega), if_neg (by simp only [tideOf]; omega)]
  simp only [tideOf, low, List.length_append] at *
  rw [w64_of (by omega), w64_of (by omega), w64_of (by omega), e1, e2]
  simp
theorem tide_snoc {x : List Int} {k : Nat} (hx : Small x) (hk : k < x.length) : (Td.mk k (psum x k) (lowTo x k)).plus ⟨1, x.getD k 0, x.getD k 0⟩ = ⟨((k + 1 : Nat) : Int), psum x (k + 1), lowTo x (k + 1)⟩ := by
  have b1 := psum_small hx k (by omega)
  have b2 := hx.lo k hk
  have b3 := hx.hi k hk
  have b4 := hx.len
  by_cases h0 : k = 0
  · subst h0
    rw [Td.plus, if_pos (show ((0 : Nat) : Int) = 0 from rfl)]
    have : psum x 1 = x.getD 0 0 := by rw [psum_succ hk]; simp [psum]
    simp only [lowTo, this]
    rfl
  · rw [Td.plus, if_neg (by simp only; omega), if_neg (show ¬ (1 : Int) = 0 by decide), lowTo_succ (by omega), psum_succ hk]
    simp only
    rw [w64_of (by omega), w64_of (by omega)]
    rfl
end Go.Proofs.Ytegekenkfomlbaa.Ti
