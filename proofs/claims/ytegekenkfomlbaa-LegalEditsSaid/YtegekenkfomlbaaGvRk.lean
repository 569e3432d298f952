/- grove: lists in order: how many are ahead. -/
import Derived.Test.YtegekenkfomlbaaGvK
namespace Go.Proofs.Ytegekenkfomlbaa.Gv
open Go.Proofs.Ytegekenkfomlbaa.Rx
set_option linter.unusedVariables false
set_option linter.unusedSimpArgs false
section
variable {E A : Type} {O : Ops E A}
def rkE (O : Ops E A) (e : E) (l : List E) : Nat := (loE O e l).length
theorem rkE_nil (e : E) : rkE O e [] = 0 := rfl
theorem rkE_gt {e y : E} {l : List E} (h : 0 < O.cmp e y) : rkE O e (y :: l) = rkE O e l + 1 := by
  unfold rkE; rw [(cons_gt h).1]; rfl
theorem rkE_ngt {e y : E} {l : List E} (h : ¬ 0 < O.cmp e y) : rkE O e (y :: l) = 0 := by
  unfold rkE; rw [(cons_ngt h).1]; rfl
theorem rkE_le (e : E) (l : List E) : rkE O e l ≤ l.length := by
  have := congrArg List.length (loE_hiE (O := O) e l)
  rw [List.length_append] at this
  unfold rkE
  omega
theorem rkE_lt {e : E} : ∀ {l : List E} {j : Nat}, j < rkE O e l → 0 < O.cmp e (l.getD j O.e0)
  | [], j, h => by rw [rkE_nil] at h; omega
  | y :: l, j, h => by
    by_cases c : 0 < O.cmp e y
    · rw [rkE_gt c] at h
      cases j with
      | zero => simpa using c
      | succ j => rw [List.getD_cons_succ]; exact rkE_lt (by omega)
    · rw [rkE_ngt c] at h; omega
theorem rkE_ge {e : E} : ∀ {l : List E}, rkE O e l < l.length → ¬ 0 < O.cmp e (l.getD (rkE O e l) O.e0)
  | [], h => by simp at h
  | y :: l, h => by
    by_cases c : 0 < O.cmp e y
    · rw [rkE_gt c] at h ⊢
      rw [List.getD_cons_succ]
      exact rkE_ge (by simpa using h)
    · rw [rkE_ngt c]; simpa using c
theorem lo_rk (e : E) (l : List E) : loE O e l = l.take (rkE O e l) := by
  have h := List.take_left' (l₁ := loE O e l) (l₂ := hiE O e l) rfl
  rw [loE_hiE] at h
  exact h.symm
theorem hi_rk (e : E) (l : List E) : hiE O e l = l.drop (rkE O e l) := by
  have h := List.drop_left' (l₁ := loE O e l) (l₂ := hiE O e l) rfl
  rw [loE_hiE] at h
  exact h.symm
theorem hit_rk (e : E) (l : List E) : (hitE O e l).isSome = (decide (rkE O e l < l.length) && decide (O.cmp e (l.getD (rkE O e l) O.e0) = 0)) := by
  unfold hitE
  rw [hi_rk]
  by_cases h : rkE O e l < l.length
  · rw [List.drop_eq_getElem_cons h, List.getD_eq_getElem?_getD, List.getElem?_eq_getElem h, decide_eq_true h]
    simp only [Option.getD_some, Bool.true_and]
    split
    · rename_i c; rw [decide_eq_true c]; rfl
    · rename_i c; rw [decide_eq_false c]; rfl
  · rw [List.drop_eq_nil_of_le (by omega), decide_eq_false h]; rfl
theorem put_rk (e : E) (l : List E) : putE O e l = l.take (rkE O e l) ++ e :: l.drop (if (hitE O e l).isSome then rkE O e l + 1 else rkE O e l) := by
  unfold putE
  rw [lo_rk, hi_rk]
  cases h : hitE O e l with
  | none => rfl
  | some x => simp [List.tail_drop]
variable {S : List E → A} {good : List E → Prop} (Z : Laws O S good)
include Z
theorem srt_rk {e : E} {l : List E} {i : Nat} (hs : SrtE O l) (hi : i < l.length) (he : O.cmp e (l.getD i O.e0) = 0) : rkE O e l = i := by
  have gi : l.getD i O.e0 = l[i] := by rw [List.getD_eq_getElem?_getD, List.getElem?_eq_getElem hi]; rfl
  rcases Nat.lt_trichotomy (rkE O e l) i with h | h | h
  · have h1 := rkE_ge (O := O) (e := e) (l := l) (by omega)
    have g : l.getD (rkE O e l) O.e0 = l[rkE O e l]'(by omega) := by rw [List.getD_eq_getElem?_getD, List.getElem?_eq_getElem (by omega)]; rfl
    rw [gi] at he
    have h2 := (List.pairwise_iff_getElem.1 hs) (rkE O e l) i (by omega) hi h
    have h3 := Z.eqv' _ _ _ he h2
    rw [g] at h1
    exact absurd ((Z.swap _ _).1 h3) h1
  · exact h
  · have := rkE_lt (O := O) (e := e) (l := l) h
    omega
theorem srt_fnd {e : E} {l : List E} {i : Nat} (hs : SrtE O l) (hi : i < l.length) (he : O.cmp e (l.getD i O.e0) = 0) : fndE O e l = (l.getD i O.e0, true) := by
  have hr := srt_rk Z hs hi he
  have gi : l.getD i O.e0 = l[i] := by rw [List.getD_eq_getElem?_getD, List.getElem?_eq_getElem hi]; rfl
  have hh : hitE O e l = some (l.getD i O.e0) := by
    unfold hitE
    rw [hi_rk, hr, List.drop_eq_getElem_cons hi]
    simp only
    rw [gi] at he ⊢
    rw [if_pos he]
  unfold fndE
  rw [hh]; rfl
end
end Go.Proofs.Ytegekenkfomlbaa.Gv
