/- arena: a pool that is filled with items, one dropped and put anew. Plain facts. -/
import Derived.Test.YtloibbakklenbaaArIPool
namespace Go.Proofs.Ytloibbakklenbaa.Ar
set_option linter.unusedVariables false
set_option linter.unusedSimpArgs false
/-- the pool behind the first i items -/
def full (a b : List Int) (i : Nat) : IM := ⟨a.take i, b.take i, List.replicate i 1, List.replicate i true, [], i, a.length, 0⟩
def nums (i : Nat) : List Int := (List.range i).map fun (k : Nat) => (k : Int)
theorem nums_get {i k : Nat} (h : k < i) : (nums i).getD k 0 = k := by
  unfold nums
  rw [List.getD_eq_getElem?_getD, List.getElem?_map, List.getElem?_range h]
  rfl
theorem nums_len (i : Nat) : (nums i).length = i := by simp [nums]
theorem nums_succ (i : Nat) : nums (i + 1) = nums i ++ [(i : Int)] := by simp [nums, List.range_succ]
theorem rep_get {α : Type} {n k : Nat} {a d : α} (h : k < n) : (List.replicate n a).getD k d = a := by simp [List.getD_eq_getElem?_getD, h]
theorem full_ok {a b : List Int} (hb : b.length = a.length) {i : Nat} (hi : i ≤ a.length) (h6 : a.length ≤ 60) : (full a b i).Ok 1000 := by
  refine ⟨?_, ?_, ?_, (fun f hf => by cases hf), ?_, Nat.zero_le _, fun g hg => ?_, ⟨by show (0 : Int) ≤ 0; omega, by show (0 : Int) ≤ ((1000 : Nat) : Int); omega⟩, ⟨by show -((1000 : Nat) : Int) ≤ (i : Int); omega, by show (i : Int) ≤ ((1000 : Nat) : Int); omega⟩⟩
  · simp [full]; omega
  · simp [full]; omega
  · simp [full]; omega
  · simp [full]; omega
  · simp [full] at hg; omega
theorem full_put {a b : List Int} (hb : b.length = a.length) {i : Nat} (hi : i < a.length) : (full a b i).put (a.getD i 0) (b.getD i 0) = full a b (i + 1) ∧ (full a b i).putI = i ∧ (full a b i).putG = 1 ∧ decide ((full a b i).held = (full a b i).cap) = false := by
  have hne : ¬ (full a b i).held = (full a b i).cap := by simp [full]; omega
  have e1 : nextIdxI (full a b i) = i := by simp [nextIdxI, full]; omega
  have e2 : nextIM (full a b i) = { full a b i with ks := a.take i ++ [0], ids := b.take i ++ [0], gens := List.replicate i 1 ++ [0], live := List.replicate i true ++ [false] } := by simp [nextIM, full]
  have last : ∀ {α : Type} (l : List α) (x y : α), l.length = i → (l ++ [x]).set i y = l ++ [y] := fun l x y h => by subst h; simp
  have g0 : (List.replicate i (1 : Int) ++ [0]).getD i 0 = 0 := by rw [getD_append1, if_pos (by simp)]
  have t1 : a.take (i + 1) = a.take i ++ [a.getD i 0] := by rw [List.take_succ_eq_append_getElem hi, List.getD_eq_getElem?_getD, List.getElem?_eq_getElem hi]; rfl
  have t2 : b.take (i + 1) = b.take i ++ [b.getD i 0] := by rw [List.take_succ_eq_append_getElem (by omega), List.getD_eq_getElem?_getD, List.getElem?_eq_getElem (by omega)]; rfl
  refine ⟨?_, ?_, ?_, by simpa using hne⟩
  · unfold IM.put
    rw [if_neg hne, e2, e1]
    simp only [Int.toNat_natCast, g0]
    rw [last _ _ _ (by simp; omega), last _ _ _ (by simp; omega), last _ _ _ (by simp), last _ _ _ (by simp)]
    simp only [full, t1, t2, List.replicate_succ']
    congr 1
  · unfold IM.putI; rw [if_neg hne, e1]
  · unfold IM.putG; rw [if_neg hne, e2, e1]; simp only [Int.toNat_natCast, g0]; rfl
theorem full_full {a b : List Int} : decide ((full a b a.length).held = (full a b a.length).cap) = true ∧ ∀ v u, (full a b a.length).put v u = full a b a.length := by
  have h : (full a b a.length).held = (full a b a.length).cap := by simp [full]
  exact ⟨by simpa using h, fun v u => by unfold IM.put; rw [if_pos h]⟩
structure Cycle (a b : List Int) (K : Nat) : Prop where
  has : hasIM (full a b a.length) K 1 = true
  gk : (full a b a.length).getK K 1 = a.getD K 0
  gi : (full a b a.length).getI K 1 = b.getD K 0
  d_ok : ((full a b a.length).drop K 1).Ok 1001
  d_has : hasIM ((full a b a.length).drop K 1) K 1 = false
  d_get : ((full a b a.length).drop K 1).get K 1 = (full a b a.length).drop K 1
  d_open : decide (((full a b a.length).drop K 1).held = ((full a b a.length).drop K 1).cap) = false
  d_i : ((full a b a.length).drop K 1).putI = K
  d_g : ((full a b a.length).drop K 1).putG = 2
  f_has : ∀ v u, hasIM (((full a b a.length).drop K 1).put v u) K 2 = true
  f_k : ∀ v u, (((full a b a.length).drop K 1).put v u).getK K 2 = v
  f_i : ∀ v u, (((full a b a.length).drop K 1).put v u).getI K 2 = u
  f_held : ∀ v u, ((((full a b a.length).drop K 1).put v u).get K 2).held = a.length
theorem cycle {a b : List Int} (hb : b.length = a.length) {K : Nat} (hK : K < a.length) (h6 : a.length ≤ 60) : Cycle a b K := by
  have hhas : hasIM (full a b a.length) K 1 = true := by
    simp only [hasIM, full, List.take_length, Int.toNat_natCast, rep_get hK]
    simp; omega
  have hd : (full a b a.length).drop K 1 = ⟨a.set K 0, b.set K 0, List.replicate a.length 1, (List.replicate a.length true).set K false, [(K : Int)], a.length - 1, a.length, 1⟩ := by
    unfold IM.drop
    rw [if_pos hhas]
    have e : b.take a.length = b := by rw [← hb, List.take_length]
    simp only [full, IM.visit, Int.toNat_natCast, rep_get hK, List.take_length, e]
    simp
  have hdh : hasIM ((full a b a.length).drop K 1) K 1 = false := by
    rw [hd]
    simp [hasIM, getD_set, hK]
  have hopen : ¬ ((full a b a.length).drop K 1).held = ((full a b a.length).drop K 1).cap := by rw [hd]; simp only; omega
  have e1 : nextIdxI ((full a b a.length).drop K 1) = K := by rw [hd]; simp [nextIdxI]
  have e2 : nextIM ((full a b a.length).drop K 1) = ⟨a.set K 0, b.set K 0, List.replicate a.length 1, (List.replicate a.length true).set K false, [], a.length - 1, a.length, 1⟩ := by rw [hd]; simp [nextIM]
  have hp : ∀ v u, ((full a b a.length).drop K 1).put v u = ⟨(a.set K 0).set K v, (b.set K 0).set K u, (List.replicate a.length 1).set K 2, ((List.replicate a.length true).set K false).set K true, [], a.length - 1 + 1, a.length, 1⟩ := fun v u => by
    unfold IM.put
    rw [if_neg hopen, e2, e1]
    simp only [Int.toNat_natCast, rep_get hK]
    rw [hd]
    rfl
  have hf : ∀ v u, hasIM (((full a b a.length).drop K 1).put v u) K 2 = true := fun v u => by
    rw [hp]
    simp only [hasIM, Int.toNat_natCast, getD_set, List.length_set, List.length_replicate, hK, and_self, if_true]
    simp; omega
  refine ⟨hhas, ?_, ?_, (full_ok hb (Nat.le_refl _) h6).drop _ _, hdh, ?_, by simpa using hopen, ?_, ?_, hf, fun v u => ?_, fun v u => ?_, fun v u => ?_⟩
  · unfold IM.getK; rw [if_pos hhas]; simp [full]
  · unfold IM.getI; rw [if_pos hhas]; simp [full, ← hb]
  · unfold IM.get; rw [hdh]; rfl
  · unfold IM.putI; rw [if_neg hopen, e1]
  · unfold IM.putG; rw [if_neg hopen, e2, e1]; simp only [Int.toNat_natCast, rep_get hK]; rfl
  · unfold IM.getK; rw [if_pos (hf v u), hp]; simp only [Int.toNat_natCast, getD_set, List.length_set, hK, and_self, if_true]
  · unfold IM.getI; rw [if_pos (hf v u), hp]; simp only [Int.toNat_natCast, getD_set, List.length_set, hb, hK, and_self, if_true]
  · unfold IM.get; rw [if_pos (hf v u), hp]; simp only [IM.visit]; omega
end Go.Proofs.Ytloibbakklenbaa.Ar
