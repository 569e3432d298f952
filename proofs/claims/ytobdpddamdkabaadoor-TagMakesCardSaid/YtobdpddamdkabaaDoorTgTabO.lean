/- Opening a struct of two ints and two slices that came in by value. Nothing of the program. -/
import Derived.Test.YtobdpddamdkabaaDoorRxC
import Derived.Lib.SmallJoins
namespace Go.Proofs.YtobdpddamdkabaaDoor.Rx
open Go.ChangeShapes Go.WideShapes Go.ChangeAt Go.RowKit Go.Deep
set_option linter.unusedVariables false
theorem okWide_cell {P : Program} {w : World} {r : Reach} {base : Nat} {t : TypeId} {fs : Array Field} {cs : Array Value} {ts : List TypeId} {u : TypeId} {i : Nat} {v : Value} {e : TypeId}
    (ht : P.underlying t = some (.struct fs)) (h : Value.okWide P w r base t (.agg cs)) (hts : P.cellTypes P.depth t = some ts) (hu : ts[i]? = some u) (hv : cs[i]? = some v) (hs : P.underlying u = some (.slice e)) : Value.okWide P w r base u v := by
  simp only [Value.okWide, ht] at h
  obtain ⟨cs', h1, _, ts', h2, _, h3⟩ := h
  injection h1 with h1
  subst h1
  rw [hts] at h2
  injection h2 with h2
  subst h2
  obtain ⟨u', q1, q2⟩ := h3 i v hv
  have hi : i < ts.length := (List.getElem?_eq_some_iff.1 hu).1
  rw [Nat.mod_eq_of_lt hi, hu] at q1
  injection q1 with q1
  subst q1
  simpa only [Value.okWide, hs] using q2
theorem open_tab {H : Type} {enc : TypeId × Value → H} {P : Program} {W : World} {base : Nat} {t e2 e3 : TypeId} {f0 f1 f2 f3 : Field} {v : Value} {d : DataW H} {ps : List MemPlace} {tm2 tm3 : List Value} {m : Nat}
    (hs : P.underlying t = some (.struct #[f0, f1, f2, f3])) (hone : oneCellFields P #[f0, f1, f2, f3] = true) (hC : P.cellsOf t = 4)
    (h0 : P.underlying f0.type = some (.int .i64)) (h1 : P.underlying f1.type = some (.int .i64)) (h2 : P.underlying f2.type = some (.slice e2)) (h3 : P.underlying f3.type = some (.slice e3))
    (hts : P.cellTypes P.depth t = some [f0.type, f1.type, f2.type, f3.type])
    (tm_2 : tmOf P m e2 = some tm2) (ne2 : 0 < tm2.length) (cl2 : P.cellsOf e2 = tm2.length) (mx2 : 0 < tm2.length ∧ tm2.length < 1000)
    (tm_3 : tmOf P m e3 = some tm3) (ne3 : 0 < tm3.length) (cl3 : P.cellsOf e3 = tm3.length) (mx3 : 0 < tm3.length ∧ tm3.length < 1000)
    (hv : Value.okWide P W .any base t v) (h : DataW.Trod enc P W 0 (fun _ => true) true t v d ps) :
    ∃ (a0 a1 : Int) (p2 : Place) (r2 : Row) (p3 : Place) (r3 : Row), (r2.tm = tm2 ∧ wfCols tm2 r2.cols r2.n ∧ ViewOk W p2 r2) ∧ (r3.tm = tm3 ∧ wfCols tm3 r3.cols r3.n ∧ ViewOk W p3 r3) ∧
      ∀ (ρ : Env) (i j : Nat), ρ i = p2 → ρ j = p3 → v = ren ρ (.agg ⟨[.int .i64 a0, .int .i64 a1, .slice (some ⟨i, 0, some (1000 * tm2.length)⟩) r2.n 0, .slice (some ⟨j, 0, some (1000 * tm3.length)⟩) r3.n 0]⟩) := by
  obtain ⟨v0, v1, v2, v3, y0, y1, y2, y3, n, rfl, hd, hp, g0, g1, g2, g3⟩ := Go.Joins.open_agg4 hs hone hC hv h
  obtain ⟨a0, k0, _, _⟩ := DataW.trod_int h0 g0
  obtain ⟨a1, k1, _, _⟩ := DataW.trod_int h1 g1
  simp only [List.cons.injEq, and_true] at k0 k1
  subst k0 k1
  have w2 := okWide_cell hs hv hts (i := 2) (u := f2.type) (v := v2) rfl rfl h2
  have w3 := okWide_cell hs hv hts (i := 3) (u := f3.type) (v := v3) rfl rfl h3
  obtain ⟨p2, r2, q1, q2, q3, q4⟩ := slice_arg (m := m) (tm := tm2) h2 tm_2 ne2 cl2 mx2 w2 (d := y2.1) (pl := y2.2) (by obtain ⟨s, l, c, rfl⟩ := okWide_slice h2 w2; exact ⟨n, g2⟩)
  obtain ⟨p3, r3, s1, s2, s3, s4⟩ := slice_arg (m := m) (tm := tm3) h3 tm_3 ne3 cl3 mx3 w3 (d := y3.1) (pl := y3.2) (by obtain ⟨s, l, c, rfl⟩ := okWide_slice h3 w3; exact ⟨n, g3⟩)
  refine ⟨a0, a1, p2, r2, p3, r3, ⟨q1, q2, q3⟩, ⟨s1, s2, s3⟩, fun ρ i j hi hj => ?_⟩
  have z2 := q4 ρ i hi
  have z3 := s4 ρ j hj
  rw [z2, z3]
  rfl
end Go.Proofs.YtobdpddamdkabaaDoor.Rx
