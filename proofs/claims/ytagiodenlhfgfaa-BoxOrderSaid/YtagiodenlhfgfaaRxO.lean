/- Symbolic runs: arrays that came in. Nothing of the program. -/
import Derived.Test.YtagiodenlhfgfaaRxC
import Derived.OpenShut
namespace Go.Proofs.Ytagiodenlhfgfaa.Rx
set_option linter.unusedVariables false
/-- an array of ints that came in -/
theorem open_int_list {H : Type} {enc : TypeId × Value → H} {P : Program} {w : World} {base : Nat} {spare : Nat → Bool} {held : Bool} {r : Reach} {b0 : Nat} {t e : TypeId} {n : Nat} {k : IntKind} {v : Value} {d : DataW H} {ps : List MemPlace}
    (ht : P.underlying t = some (.array n e)) (he : P.underlying e = some (.int k)) (hC : P.cellsOf t = n) (hE : P.cellsOf e = 1) (hval : Value.okWide P w r b0 t v) (hd : DataW.Trod enc P w base spare held t v d ps) :
    ∃ l : List Int, v = .agg ⟨l.map (.int k)⟩ ∧ l.length = n ∧ ∀ x ∈ l, (Lit.int k x).wf = true := by
  obtain ⟨cs, rfl, hsz⟩ : ∃ cs, v = .agg cs ∧ cs.size = P.cellsOf t := by
    simp only [Value.okWide, ht] at hval
    obtain ⟨cs, h1, h2, _⟩ := hval
    exact ⟨cs, h1, h2⟩
  obtain ⟨fuel, hf⟩ := hd
  obtain ⟨xs, m, _, _, _, hxl, hi⟩ := DataW.trod_array ht hf
  rw [hC] at hsz
  obtain ⟨cs⟩ := cs
  have hsz' : cs.length = n := by simpa using hsz
  have key : ∀ i, i < n → ∃ x, cs[i]? = some (.int k x) ∧ (Lit.int k x).wf = true := fun i hin => by
    have h1 := hi i hin
    rw [hE, Nat.mul_one] at h1
    have hx : i < xs.length := by omega
    rw [List.getElem?_eq_getElem hx] at h1
    obtain ⟨x, h2, _, h3⟩ := DataW.trod_int he h1
    refine ⟨x, ?_, h3⟩
    have h4 : ((cs.drop i).take 1)[0]? = some (Value.int k x) := by
      have : ((Value.agg ⟨cs⟩).cells.toList.drop i).take 1 = (cs.drop i).take 1 := rfl
      rw [← this, h2]; rfl
    simpa using h4
  refine ⟨cs.map fun v => match v with | .int _ x => x | _ => 0, ?_, by simpa using hsz', fun x hx => ?_⟩
  · congr 2
    rw [List.map_map]
    refine (List.ext_getElem? fun i => ?_)
    rw [List.getElem?_map]
    by_cases hin : i < n
    · obtain ⟨x, h1, _⟩ := key i hin
      rw [h1]; rfl
    · rw [List.getElem?_eq_none (by omega)]; rfl
  · obtain ⟨v, hv, rfl⟩ := List.mem_map.1 hx
    obtain ⟨i, hi'⟩ := List.getElem?_of_mem hv
    obtain ⟨x, h1, h2⟩ := key i (by have := (List.getElem?_eq_some_iff.1 hi').1; omega)
    rw [h1] at hi'
    injection hi' with hi'
    subst hi'
    exact h2
end Go.Proofs.Ytagiodenlhfgfaa.Rx
