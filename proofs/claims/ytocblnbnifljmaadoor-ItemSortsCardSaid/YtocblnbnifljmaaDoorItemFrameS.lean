/- An argument that is a slice of items. -/
import Derived.Test.YtocblnbnifljmaaDoorItemFrame
import Derived.Test.YtocblnbnifljmaaDoorItemSortsW
namespace Go.Proofs.YtocblnbnifljmaaDoor.Frame
open Go.ChangeShapes Go.WideShapes Go.ChangeAt Go.RowKit Go.Joins Go.Deep
open Go.Proofs.YtocblnbnifljmaaDoor.Item
set_option linter.unusedVariables false

/-- the number in a cell -/
def numAt (W : World) (a : Addr) : Int :=
  match W.cell? a with
  | some (.int _ x) => x
  | _ => 0
theorem numAt_eq {W : World} {a : Addr} {x : Int} (h : W.cell? a = some (.int .i64 x)) : W.cell? a = some (.int .i64 (numAt W a)) := by
  unfold numAt; rw [h]
set_option maxRecDepth 100000 in
theorem items_arg {H : Type} {enc : TypeId × Value → H} {W : World} {base : Nat} {v : Value} {d : DataW H} {p : List MemPlace}
    (hv : Value.okWide Tryd.prog W .any base 28 v) (h : DataW.Trod enc Tryd.prog W 0 (fun _ => true) true 28 v d p) :
    ∃ (A : Option Addr) (c : Nat) (xs : List It), v = .slice A xs.length c ∧ Rd W W.heap.size A xs ∧ xs.length ≤ maxLen := by
  obtain ⟨a0, len, cap, rfl⟩ := okWide_slice Tryd.underlying28 hv
  obtain ⟨fuel, hf⟩ := h
  rcases open_slice Tryd.underlying28 hf with ⟨hcs, _⟩ | ⟨a, l, c, m, n, D, Pl, hcs, _, hl, hm, hmm, _, hi⟩
  · simp [Value.cells] at hcs
    obtain ⟨rfl, rfl, rfl⟩ := hcs
    exact ⟨none, 0, [], rfl, fun h => by simp at h, Nat.zero_le _⟩
  · simp [Value.cells] at hcs
    obtain ⟨rfl, rfl, rfl⟩ := hcs
    have hmc : m = cap := by simpa using hmm
    have hel : ∀ i, i < len → ∃ x y, W.cell? (a.add (i * 2)) = some (.int .i64 x) ∧ W.cell? ((a.add (i * 2)).add 1) = some (.int .i64 y) := by
      intro i hlt
      obtain ⟨cs', hc, ht⟩ := hi i (by omega)
      rw [cItem] at hc
      obtain ⟨_, hlen, hat⟩ := World.cells?_some hc
      obtain ⟨y0, y1, n', _, _, h0, h1⟩ := trod_struct2 Tryd.underlying23 ht
      match cs', hlen with
      | [u0, u1], _ =>
        obtain ⟨x, e0, _, _⟩ := DataW.trod_int Tryd.underlying3 h0
        obtain ⟨y, e1, _, _⟩ := DataW.trod_int Tryd.underlying3 h1
        have c1 : Tryd.prog.cellsOf 3 = 1 := by kernel_rfl
        simp [c1] at e0 e1
        subst e0 e1
        have z0 := hat 0 (by omega)
        have z1 := hat 1 (by omega)
        refine ⟨x, y, ?_, z1⟩
        have ea : ∀ b : Addr, b.add 0 = b := fun b => by simp [Addr.add]
        rw [ea] at z0
        exact z0
    refine ⟨some a, cap, (List.range len).map fun i => (numAt W (a.add (i * 2)), numAt W ((a.add (i * 2)).add 1)), by simp, ?_, by simp; omega⟩
    intro hpos
    have hlen : 0 < len := by simpa using hpos
    obtain ⟨x, y, hx0, _⟩ := hel 0 hlen
    obtain ⟨b, o, spot⟩ := a
    have hspot : spot = none := by simpa [Addr.add] using World.cell?_spot hx0
    subst hspot
    have hb := World.block_lt_of_cell? W _ hx0
    refine ⟨b, o, rfl, by simpa [Addr.add] using hb, fun j u hu => ?_⟩
    have hj : j < len * 2 := by
      have := (List.getElem?_eq_some_iff.1 hu).1
      rw [flatI_length] at this
      simpa using this
    have hi2 : j / 2 < len := by omega
    obtain ⟨x', y', h0, h1⟩ := hel (j / 2) hi2
    have g0 := numAt_eq h0
    have g1 := numAt_eq h1
    obtain ⟨f0, f1⟩ := flatI_at ((List.range len).map fun i => (numAt W ((⟨b, o, none⟩ : Addr).add (i * 2)), numAt W (((⟨b, o, none⟩ : Addr).add (i * 2)).add 1))) (j / 2) (by simpa using hi2)
    rw [getD_mem (by simpa using hi2)] at f0 f1
    simp only [List.getElem_map, List.getElem_range] at f0 f1
    rw [plus_at] at g0 g1
    rw [plus_at] at g1
    rw [plus_at] at f0 f1
    rw [plus_at] at f1
    rcases Nat.mod_two_eq_zero_or_one j with hm2 | hm2
    · rw [show j = j / 2 * 2 by omega, f0] at hu
      rw [show j = j / 2 * 2 by omega, g0]
      exact hu
    · rw [show j = j / 2 * 2 + 1 by omega, f1] at hu
      rw [show o + j = o + j / 2 * 2 + 1 by omega, g1]
      exact hu
end Go.Proofs.YtocblnbnifljmaaDoor.Frame
