/- box: what a box holds; where it lies. -/
import Derived.Test.YtagiodenlhfgfaaRxC
import Derived.Test.YtagiodenlhfgfaaRxV
import Derived.Test.YtagiodenlhfgfaaRxP
import Derived.Conc.LoneCalls
import Derived.Conc.LoneSelect
import Derived.Conc.LoneSelectN
namespace Go.Proofs.Ytagiodenlhfgfaa.Bx
open Go.RowKit Go.Conc Go.Proofs.Ytagiodenlhfgfaa.State

set_option linter.unusedVariables false
set_option linter.unusedSimpArgs false
/-- a box: the types of its block and of a value's cell; its size, its values, whether it is closed -/
structure BX where
  tb : TypeId
  te : TypeId
  cap : Nat
  vs : List Value
  closed : Bool
def ptrs (gs : List Nat) : Array Value := (gs.map fun g => Value.pointer (some ⟨g, 0, none⟩)).toArray
/-- each value in a block of its own -/
def Each (w : World) (te : TypeId) : List Nat → List Value → Prop
  | [], [] => True
  | g :: gs, v :: vs => w.heap[g]? = some (.cells #[v] te (0, 0)) ∧ Each w te gs vs
  | _, _ => False
structure BoxAt (m : BX) (b : Nat) (c s r : Nat) (gs : List Nat) (w : World) : Prop where
  self : w.heap[b]? = some (.cells #[.chan (some c), .bool m.closed] m.tb (0, 0))
  chan : w.heap[c]? = some (.chan m.cap (ptrs gs) false s r false)
  vals : Each w m.te gs m.vs
def boxH (m : BX) (p : Rx.Place) (F : Nat → Prop) (w : World) : Prop :=
  p.off = 0 ∧ ∃ c s r gs, BoxAt m p.blk c s r gs w ∧ ∀ k, F k ↔ (k = p.blk ∨ k = c ∨ k ∈ gs)
theorem Each.keep {w w' : World} {te : TypeId} : ∀ {gs : List Nat} {vs : List Value}, Each w te gs vs → (∀ k, k ∈ gs → w'.heap[k]? = w.heap[k]?) → Each w' te gs vs
  | [], [], _, _ => trivial
  | g :: gs, v :: vs, ⟨h1, h2⟩, hk => ⟨(hk g (by simp)).trans h1, h2.keep fun k hm => hk k (by simp [hm])⟩
  | [], _ :: _, h, _ => h.elim
  | _ :: _, [], h, _ => h.elim
theorem Each.len {w : World} {te : TypeId} : ∀ {gs : List Nat} {vs : List Value}, Each w te gs vs → gs.length = vs.length
  | [], [], _ => rfl
  | g :: gs, v :: vs, ⟨_, h⟩ => by simp [h.len]
  | [], _ :: _, h => h.elim
  | _ :: _, [], h => h.elim
theorem Each.lt {w : World} {te : TypeId} : ∀ {gs : List Nat} {vs : List Value}, Each w te gs vs → ∀ k, k ∈ gs → k < w.heap.size
  | [], [], _, _, hk => by cases hk
  | g :: gs, v :: vs, ⟨h1, h2⟩, k, hk => by
    rcases List.mem_cons.1 hk with rfl | hk
    · exact (Array.getElem?_eq_some_iff.1 h1).1
    · exact h2.lt k hk
  | [], _ :: _, h, _, _ => h.elim
  | _ :: _, [], h, _, _ => h.elim
/-- such a block is no channel's, and not of two cells -/
theorem Each.kind {w : World} {te : TypeId} : ∀ {gs : List Nat} {vs : List Value}, Each w te gs vs → ∀ k, k ∈ gs → ∃ v, w.heap[k]? = some (.cells #[v] te (0, 0))
  | [], [], _, _, hk => by cases hk
  | g :: gs, v :: vs, ⟨h1, h2⟩, k, hk => by
    rcases List.mem_cons.1 hk with rfl | hk
    · exact ⟨v, h1⟩
    · exact h2.kind k hk
  | [], _ :: _, h, _, _ => h.elim
  | _ :: _, [], h, _, _ => h.elim
theorem Each.append {w : World} {te : TypeId} {g : Nat} {v : Value} (hg : w.heap[g]? = some (.cells #[v] te (0, 0))) : ∀ {gs : List Nat} {vs : List Value}, Each w te gs vs → Each w te (gs ++ [g]) (vs ++ [v])
  | [], [], _ => ⟨hg, trivial⟩
  | a :: gs, b :: vs, ⟨h1, h2⟩ => ⟨h1, h2.append hg⟩
  | [], _ :: _, h => h.elim
  | _ :: _, [], h => h.elim
theorem lt_some {w : World} {k : Nat} {o : Obj} (h : w.heap[k]? = some o) : k < w.heap.size := (Array.getElem?_eq_some_iff.1 h).1
theorem boxH_keep (m : BX) (p : Rx.Place) (F : Nat → Prop) (w w' : World) (h : boxH m p F w) (hk : ∀ k, F k → w'.heap[k]? = w.heap[k]?) : boxH m p F w' := by
  obtain ⟨h0, c, s, r, gs, hb, hF⟩ := h
  refine ⟨h0, c, s, r, gs, ⟨(hk _ ((hF _).2 (by simp))).trans hb.self, (hk _ ((hF _).2 (by simp))).trans hb.chan, hb.vals.keep fun k hm => hk _ ((hF _).2 (by simp [hm]))⟩, hF⟩
theorem boxH_lt (m : BX) (p : Rx.Place) (F : Nat → Prop) (w : World) (k : Nat) (h : boxH m p F w) (hk : F k) : k < w.heap.size := by
  obtain ⟨h0, c, s, r, gs, hb, hF⟩ := h
  rcases (hF k).1 hk with rfl | rfl | hm
  · exact lt_some hb.self
  · exact lt_some hb.chan
  · exact hb.vals.lt k hm
theorem boxH_own (m : BX) (p : Rx.Place) (F : Nat → Prop) (w : World) (h : boxH m p F w) : F p.blk ∧ ∃ ca ta, w.heap[p.blk]? = some (.cells ca ta (0, 0)) := by
  obtain ⟨h0, c, s, r, gs, hb, hF⟩ := h
  exact ⟨(hF _).2 (by simp), _, _, hb.self⟩
def BX.takes (m : BX) : Bool := !m.closed && Nat.blt m.vs.length m.cap
def BX.offer (m : BX) (v : Value) : BX := if m.takes = true then { m with vs := m.vs ++ [v] } else m
def BX.take (m : BX) : BX := { m with vs := m.vs.tail }
def BX.close (m : BX) : BX := { m with closed := true }
/-- what a call leaves -/
def Left (m' : BX) (b : Nat) (F : Nat → Prop) (w w' : World) : Prop := ∃ F', boxH m' (Rx.Place.mk b 0 0 false) F' w' ∧ Kept F w w' ∧ ∀ k, F' k → F k ∨ w.heap.size ≤ k
theorem cells_of {w : World} {g : Nat} {cs : Array Value} {t : TypeId} (h : w.heap[g]? = some (.cells cs t (0, 0))) (i : Nat) : w.cell? ⟨g, i, none⟩ = cs[i]? := cell_of_row w g i cs t (0, 0) h
theorem alloc_old {w : World} {o : Obj} {k : Nat} (hk : k < w.heap.size) : (w.alloc o).heap[k]? = w.heap[k]? := Below.heap_alloc w o k hk
theorem setChan_other (w : World) (c c' cap : Nat) (buf : Array Value) (closed : Bool) (s r : Nat) (tm : Bool) (h : c ≠ c') : (w.setChan c cap buf closed s r tm).heap[c']? = w.heap[c']? := by
  simp [World.setChan, Array.getElem?_setIfInBounds_ne h]
theorem kept_setChan {F : Nat → Prop} {a w : World} (h : Kept F a w) {c : Nat} (hc : F c ∨ a.heap.size ≤ c) (cap : Nat) (buf : Array Value) (cl : Bool) (s r : Nat) (tm : Bool) : Kept F a (w.setChan c cap buf cl s r tm) :=
  ⟨h.os, h.tape, h.output, by rw [size_setChan]; exact h.size, fun k hk hn => by
    rw [setChan_other _ _ _ _ _ _ _ _ _ (fun e => by subst e; rcases hc with hc | hc; exact hn hc; omega)]
    exact h.block k hk hn⟩
end Go.Proofs.Ytagiodenlhfgfaa.Bx
