/- Symbolic runs: arrays that came in. Nothing of the program. -/
import Derived.Test.YtljdcboijegllaaRxC
import Derived.OpenShut
import Derived.Lib.SmallJoins
namespace Go.Proofs.Ytljdcboijegllaa.Rx
set_option linter.unusedVariables false
/-- an array of ints that came in -/
theorem open_int_list {H : Type} {enc : TypeId × Value → H} {P : Program} {w : World} {base : Nat} {spare : Nat → Bool} {held : Bool} {r : Reach} {b0 : Nat} {t e : TypeId} {n : Nat} {k : IntKind} {v : Value} {d : DataW H} {ps : List MemPlace}
    (ht : P.underlying t = some (.array n e)) (he : P.underlying e = some (.int k)) (hC : P.cellsOf t = n) (hE : P.cellsOf e = 1) (hval : Value.okWide P w r b0 t v) (hd : DataW.Trod enc P w base spare held t v d ps) :
    ∃ l : List Int, v = .agg ⟨l.map (.int k)⟩ ∧ l.length = n ∧ ∀ x ∈ l, (Lit.int k x).wf = true := by
  obtain ⟨cs, rfl, hsz⟩ : ∃ cs, v = .agg cs ∧ cs.size = P.cellsOf t := by
    simp only [Value.okWide, ht] at hval
    obtain ⟨cs, h1, h2, _⟩ := hval
    exact ⟨cs, h1, h2⟩
  obtain ⟨fuel, hf⟩ := hd
  obtain ⟨xs, m, _, _, _, hxl, hi⟩ := DataW.trod_array ht hf
  rw [hC] at hsz
  obtain ⟨cs⟩ := cs
  have hsz' : cs.length = n := by simpa using hsz
  have key : ∀ i, i < n → ∃ x, cs[i]? = some (.int k x) ∧ (Lit.int k x).wf = true := fun i hin => by
    have h1 := hi i hin
    rw [hE, Nat.mul_one] at h1
    have hx : i < xs.length := by omega
    rw [List.getElem?_eq_getElem hx] at h1
    obtain ⟨x, h2, _, h3⟩ := DataW.trod_int he h1
    refine ⟨x, ?_, h3⟩
    have h4 : ((cs.drop i).take 1)[0]? = some (Value.int k x) := by
      have : ((Value.agg ⟨cs⟩).cells.toList.drop i).take 1 = (cs.drop i).take 1 := rfl
      rw [← this, h2]; rfl
    simpa using h4
  refine ⟨cs.map fun v => match v with | .int _ x => x | _ => 0, ?_, by simpa using hsz', fun x hx => ?_⟩
  · congr 2
    rw [List.map_map]
    refine (List.ext_getElem? fun i => ?_)
    rw [List.getElem?_map]
    by_cases hin : i < n
    · obtain ⟨x, h1, _⟩ := key i hin
      rw [h1]; rfl
    · rw [List.getElem?_eq_none (by omega)]; rfl
  · obtain ⟨v, hv, rfl⟩ := List.mem_map.1 hx
    obtain ⟨i, hi'⟩ := List.getElem?_of_mem hv
    obtain ⟨x, h1, h2⟩ := key i (by have := (List.getElem?_eq_some_iff.1 hi').1; omega)
    rw [h1] at hi'
    injection hi' with hi'
    subst hi'
    exact h2
open Go.ChangeShapes Go.WideShapes Go.RowKit Go.Deep Go.WideElems Go.Joins in
/-- an array of pairs of ints that came in -/
theorem open_pair_list {H : Type} {enc : TypeId × Value → H} {P : Program} {w : World} {base : Nat} {spare : Nat → Bool} {held : Bool} {r : Reach} {b0 : Nat} {t e : TypeId} {n : Nat} {k : IntKind} {f0 f1 : Field} {v : Value} {d : DataW H} {ps : List MemPlace}
    (ht : P.underlying t = some (.array n e)) (he : P.underlying e = some (.struct #[f0, f1])) (hone : oneCellFields P #[f0, f1] = true) (hf0 : P.underlying f0.type = some (.int k)) (hf1 : P.underlying f1.type = some (.int k))
    (hC : P.cellsOf t = 2 * n) (hE : P.cellsOf e = 2) (hval : Value.okWide P w r b0 t v) (hd : DataW.Trod enc P w base spare held t v d ps) :
    ∃ l : List Int, v = .agg ⟨l.map (.int k)⟩ ∧ l.length = 2 * n ∧ ∀ x ∈ l, (Lit.int k x).wf = true := by
  obtain ⟨cs, rfl, hsz⟩ : ∃ cs, v = .agg cs ∧ cs.size = P.cellsOf t := by
    simp only [Value.okWide, ht] at hval
    obtain ⟨cs, h1, h2, _⟩ := hval
    exact ⟨cs, h1, h2⟩
  obtain ⟨fuel, hf⟩ := hd
  obtain ⟨xs, m, _, _, _, hxl, hi⟩ := DataW.trod_array ht hf
  rw [hC] at hsz
  obtain ⟨cs⟩ := cs
  have hsz' : cs.length = 2 * n := by simpa using hsz
  obtain ⟨o0, k0⟩ := hone_of hone 0 f0 rfl
  obtain ⟨o1, k1⟩ := hone_of hone 1 f1 rfl
  have key : ∀ i, i < 2 * n → ∃ x, cs[i]? = some (.int k x) ∧ (Lit.int k x).wf = true := fun i hin => by
    have h1 := hi (i / 2) (by omega)
    rw [hE] at h1
    have hx : i / 2 < xs.length := by omega
    rw [List.getElem?_eq_getElem hx] at h1
    obtain ⟨y0, y1, q, _, _, a0, a1⟩ := trod_struct2 he h1
    rw [o0, k0] at a0
    rw [o1, k1] at a1
    obtain ⟨x0, e0, _, w0⟩ := DataW.trod_int hf0 a0
    obtain ⟨x1, e1, _, w1⟩ := DataW.trod_int hf1 a1
    have hc : (Value.agg ⟨cs⟩).cells.toList = cs := rfl
    rw [hc] at e0 e1
    have g0 : ((((cs.drop (i / 2 * 2)).take 2).drop 0).take 1)[0]? = some (Value.int k x0) := by rw [e0]; rfl
    have g1 : ((((cs.drop (i / 2 * 2)).take 2).drop 1).take 1)[0]? = some (Value.int k x1) := by rw [e1]; rfl
    simp [List.getElem?_drop] at g0 g1
    rcases (show i = i / 2 * 2 ∨ i = i / 2 * 2 + 1 by omega) with h | h
    · exact ⟨x0, by rw [h]; exact g0, w0⟩
    · exact ⟨x1, by rw [h]; exact g1, w1⟩
  refine ⟨cs.map fun v => match v with | .int _ x => x | _ => 0, ?_, by simpa using hsz', fun x hx => ?_⟩
  · congr 2
    rw [List.map_map]
    refine (List.ext_getElem? fun i => ?_)
    rw [List.getElem?_map]
    by_cases hin : i < 2 * n
    · obtain ⟨x, h1, _⟩ := key i hin
      rw [h1]; rfl
    · rw [List.getElem?_eq_none (by omega)]; rfl
  · obtain ⟨v, hv, rfl⟩ := List.mem_map.1 hx
    obtain ⟨i, hi'⟩ := List.getElem?_of_mem hv
    obtain ⟨x, h1, h2⟩ := key i (by have := (List.getElem?_eq_some_iff.1 hi').1; omega)
    rw [h1] at hi'
    injection hi' with hi'
    subst hi'
    exact h2
end Go.Proofs.Ytljdcboijegllaa.Rx
