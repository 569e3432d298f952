/- box: the calls, by what they do to a box's values. -/
import Derived.Test.YtagiodenlhfgfaaBxOffer
import Derived.Test.YtagiodenlhfgfaaBxTake
import Derived.Test.YtagiodenlhfgfaaBxPlain
namespace Go.Proofs.Ytagiodenlhfgfaa.Bx
open Go.RowKit Go.Conc Go.Proofs.Ytagiodenlhfgfaa.State Go.Proofs.Ytagiodenlhfgfaa.Rx
set_option linter.unusedVariables false
set_option linter.unusedSimpArgs false
set_option maxRecDepth 100000
/-- a box of ints; a box of texts -/
structure BI where
  cap : Nat
  xs : List Int
  closed : Bool
structure BS where
  cap : Nat
  xs : List ByteArray
  closed : Bool
inductive Rs
  | ints (m : BI)
  | texts (m : BS)
def BI.core (m : BI) : BX := ⟨62, 3, m.cap, m.xs.map (.int .i64), m.closed⟩
def BS.core (m : BS) : BX := ⟨67, 9, m.cap, m.xs.map .string, m.closed⟩
def Rs.core : Rs → BX
  | .ints m => m.core
  | .texts m => m.core
def D : Res Rs := ⟨fun x p F w => boxH x.core p F w, fun x p F w w' h hk => boxH_keep _ p F w w' h hk, fun x p F w k h hk => boxH_lt _ p F w k h hk⟩
def BI.takes (m : BI) : Bool := !m.closed && Nat.blt m.xs.length m.cap
def BI.offer (m : BI) (v : Int) : BI := ⟨m.cap, cond m.takes (m.xs ++ [v]) m.xs, m.closed⟩
def BI.take (m : BI) : BI := ⟨m.cap, m.xs.tail, m.closed⟩
def BI.close (m : BI) : BI := ⟨m.cap, m.xs, true⟩
def BS.takes (m : BS) : Bool := !m.closed && Nat.blt m.xs.length m.cap
def BS.offer (m : BS) (v : ByteArray) : BS := ⟨m.cap, cond m.takes (m.xs ++ [v]) m.xs, m.closed⟩
def BS.take (m : BS) : BS := ⟨m.cap, m.xs.tail, m.closed⟩
def BS.close (m : BS) : BS := ⟨m.cap, m.xs, true⟩
theorem left_same {m : BX} {b : Nat} {F : Nat → Prop} {w : World} (h : boxH m (Rx.Place.mk b 0 0 false) F w) : Left m b F w w := ⟨F, h, Kept.refl _ _, fun k hk => .inl hk⟩
theorem left_alloc {m : BX} {b : Nat} {F : Nat → Prop} {w : World} (o : Obj) (h : boxH m (Rx.Place.mk b 0 0 false) F w) : Left m b F w (w.alloc o) :=
  ⟨F, boxH_keep _ _ _ _ _ h fun k hk => alloc_old (boxH_lt _ _ _ _ _ h hk), (Kept.refl _ _).alloc _, fun k hk => .inl hk⟩
/-- a new value behind the others -/
theorem left_put {m : BX} {b c s r : Nat} {gs : List Nat} {F : Nat → Prop} {w : World} (v : Value) (hb : BoxAt m b c s r gs w) (hF : ∀ k, F k ↔ (k = b ∨ k = c ∨ k ∈ gs)) :
    Left { m with vs := m.vs ++ [v] } b F w ((w.alloc (.cells #[v] m.te)).setChan c m.cap ((ptrs gs).push (.pointer (some ⟨w.heap.size, 0, none⟩))) false (s + 1) r false) := by
  have hc := lt_some hb.chan
  have hbl := lt_some hb.self
  have hcb : c ≠ b := fun e => by subst e; have := hb.self; rw [hb.chan] at this; cases this
  have hne : ∀ k, k ∈ gs → c ≠ k := fun k hk e => by
    obtain ⟨v', h'⟩ := hb.vals.kind k hk
    subst e
    rw [hb.chan] at h'; cases h'
  refine ⟨fun k => k = b ∨ k = c ∨ k ∈ gs ++ [w.heap.size], ⟨rfl, c, s + 1, r, gs ++ [w.heap.size], ⟨?_, ?_, ?_⟩, fun k => Iff.rfl⟩, ?_, fun k hk => ?_⟩
  · exact (setChan_other _ _ _ _ _ _ _ _ _ hcb).trans ((alloc_old hbl).trans hb.self)
  · rw [heap_setChan _ _ _ _ _ _ _ _ (by simp; omega)]
    simp [ptrs]
  · have h1 : Each (w.alloc (.cells #[v] m.te)) m.te (gs ++ [w.heap.size]) (m.vs ++ [v]) :=
      (hb.vals.keep fun k hk => alloc_old (hb.vals.lt k hk)).append (heap_alloc_new w _)
    refine h1.keep fun k hk => setChan_other _ _ _ _ _ _ _ _ _ ?_
    rcases List.mem_append.1 hk with hk | hk
    · exact hne k hk
    · simp only [List.mem_singleton] at hk; omega
  · exact kept_setChan ((Kept.refl _ _).alloc _) (.inl ((hF c).2 (by simp))) _ _ _ _ _ _
  · rcases hk with hk | hk | hk
    · exact .inl ((hF k).2 (.inl hk))
    · exact .inl ((hF k).2 (.inr (.inl hk)))
    · rcases List.mem_append.1 hk with hk | hk
      · exact .inl ((hF k).2 (.inr (.inr hk)))
      · simp only [List.mem_singleton] at hk
        exact .inr (by omega)
/-- the first value let go -/
theorem left_get {m : BX} {b c s r g : Nat} {gs : List Nat} {F : Nat → Prop} {w : World} {v : Value} {vs : List Value} (hv : m.vs = v :: vs) (hb : BoxAt m b c s r (g :: gs) w) (hF : ∀ k, F k ↔ (k = b ∨ k = c ∨ k ∈ g :: gs)) :
    Left { m with vs := vs } b F w (w.setChan c m.cap (ptrs gs) false s (r + 1) false) := by
  have hc := lt_some hb.chan
  have hbl := lt_some hb.self
  have hcb : c ≠ b := fun e => by subst e; have := hb.self; rw [hb.chan] at this; cases this
  have hne : ∀ k, k ∈ g :: gs → c ≠ k := fun k hk e => by
    obtain ⟨v', h'⟩ := hb.vals.kind k hk
    subst e
    rw [hb.chan] at h'; cases h'
  refine ⟨fun k => k = b ∨ k = c ∨ k ∈ gs, ⟨rfl, c, s, r + 1, gs, ⟨?_, ?_, ?_⟩, fun k => Iff.rfl⟩, ?_, fun k hk => .inl ((hF k).2 ?_)⟩
  · exact (setChan_other _ _ _ _ _ _ _ _ _ hcb).trans hb.self
  · exact heap_setChan _ _ _ _ _ _ _ _ hc
  · have h1 := hb.vals
    rw [hv] at h1
    exact h1.2.keep fun k hk => setChan_other _ _ _ _ _ _ _ _ _ (hne k (by simp [hk]))
  · exact kept_setChan (Kept.refl _ _) (.inl ((hF c).2 (by simp))) _ _ _ _ _ _
  · rcases hk with hk | hk | hk
    · exact .inl hk
    · exact .inr (.inl hk)
    · exact .inr (.inr (by simp [hk]))
theorem left_close {m : BX} {b c s r : Nat} {gs : List Nat} {F : Nat → Prop} {w : World} (hb : BoxAt m b c s r gs w) (hF : ∀ k, F k ↔ (k = b ∨ k = c ∨ k ∈ gs)) :
    Left { m with closed := true } b F w (w.setCell ⟨b, 1, none⟩ (.bool true)) := by
  have hcb : c ≠ b := fun e => by subst e; have := hb.self; rw [hb.chan] at this; cases this
  have hne : ∀ k, k ∈ gs → k ≠ b := fun k hk e => by
    obtain ⟨v', h'⟩ := hb.vals.kind k hk
    subst e
    rw [hb.self] at h'
    injection h' with h'; injection h' with h'
    simp at h'
  have hw : Whole w b m.tb #[.chan (some c), .bool m.closed] := hb.self
  refine ⟨F, ⟨rfl, c, s, r, gs, ⟨?_, ?_, ?_⟩, hF⟩, ?_, fun k hk => .inl hk⟩
  · have := hw.set_ 1 (.bool true)
    simpa [Whole] using this
  · exact (Below.heap_setCell w _ _ c hcb).trans hb.chan
  · exact hb.vals.keep fun k hk => Below.heap_setCell w _ _ k (hne k hk)
  · exact (Kept.refl _ _).setCell (.inl ((hF b).2 (by simp))) _
theorem known_of {f : FuncId} {fn : Func} (hf : Try.prog.funcs[f]? = some fn) (hn : (fn.name == "runtime.NumGoroutine") = false) (hb : fn.body.isNone = false) : ∃ fn, Try.prog.funcs[f]? = some fn ∧ (fn.name == "runtime.NumGoroutine") = false ∧ fn.body.isNone = false := ⟨fn, hf, hn, hb⟩
/-- a contract of one box -/
theorem thing1 {f : FuncId} {on : List Value → Hp Rs → Prop} {p : Prim Rs} (hk : ∃ fn, Try.prog.funcs[f]? = some fn ∧ (fn.name == "runtime.NumGoroutine") = false ∧ fn.body.isNone = false)
    (H : ∀ args hh x, p args hh = some x → ∃ X X' vs v wr, args = .pointer (some ⟨0, 0, none⟩) :: vs ∧ flatL vs = true ∧ hh = [some (.inr (.inr (.inr X)))] ∧ x = ⟨True, v, none, [some (.inr (.inr (.inr X')))], [], wr⟩ ∧ flat v = true ∧ (wr = [] → X' = X) ∧
      ∀ b F w, boxH (Rs.core X) (Rx.Place.mk b 0 0 false) F w → Calls Try.prog f (.pointer (some ⟨b, 0, none⟩) :: vs).toArray w fun e w' => e = .returned v ∧ Left (Rs.core X') b F w w') : PrimOk D Try.prog f on p where
  known := hk
  run args hh x _ hx C ρ ft w hm _ hi := by
    obtain ⟨X, X', vs, v, wr, rfl, h1, rfl, rfl, h2, h3, h4⟩ := H args hh x hx
    have h5 := (hm.at_ 0 _ rfl).1
    have h50 : (ρ 0).off = 0 := h5.1
    have h6 : boxH (Rs.core X) (Rx.Place.mk (ρ 0).blk 0 0 false) (ft 0) w := ⟨rfl, h5.2⟩
    have hargs : ((Value.pointer (some ⟨0, 0, none⟩) :: vs).map (ren ρ)).toArray = (.pointer (some ⟨(ρ 0).blk, 0, none⟩) :: vs).toArray := by
      rw [List.map_cons, flat_map h1]
      simp [ren, renA, cellOf, h50]
    rw [hargs]
    refine (h4 _ _ _ h6).mono fun e w' ⟨g1, F', g2, g3, g4⟩ => ⟨ρ, upd ft 0 F', fun _ _ => rfl, by rw [g1, flat_ren _ h2], ?_⟩
    have g5 : boxH (Rs.core X') (ρ 0) F' w' := ⟨h50, g2.2⟩
    exact hm.put (i := 0) rfl g3 (.inr (.inr (.inr X'))) F' g5 trivial fun k hk => ⟨g4 k hk, boxH_lt _ _ _ _ _ g5 hk⟩
  len args hh x hx := by
    obtain ⟨X, X', vs, v, wr, rfl, h1, rfl, rfl, h2, h3, h4⟩ := H args hh x hx
    exact Nat.le_refl _
  lit args hh x hx b hb := by
    obtain ⟨X, X', vs, v, wr, rfl, h1, rfl, rfl, h2, h3, h4⟩ := H args hh x hx
    cases hb
  still args hh x hx hw := by
    obtain ⟨X, X', vs, v, wr, rfl, h1, rfl, rfl, h2, h3, h4⟩ := H args hh x hx
    rw [h3 hw]
/-- a new box -/
theorem thing0 {f : FuncId} {on : List Value → Hp Rs → Prop} {p : Prim Rs} (hk : ∃ fn, Try.prog.funcs[f]? = some fn ∧ (fn.name == "runtime.NumGoroutine") = false ∧ fn.body.isNone = false)
    (H : ∀ args hh x, p args hh = some x → ∃ X n c, args = [.int .i64 n] ∧ hh = [] ∧ x = ⟨True, .pointer (some ⟨0, 0, none⟩), none, [some (.inr (.inr (.inr X)))], [], [(0, 0)]⟩ ∧ (Rs.core X).vs = [] ∧ (Rs.core X).closed = false ∧ (Rs.core X).cap = c ∧
      ∀ w, Calls Try.prog f #[.int .i64 n] w fun e w' => e = .returned (.pointer (some ⟨w.heap.size + 1, 0, none⟩)) ∧ w' = (w.alloc (.chan c #[] false 0 0 false)).alloc (.cells #[.chan (some w.heap.size), .bool false] (Rs.core X).tb)) : PrimOk D Try.prog f on p where
  known := hk
  run args hh x _ hx C ρ ft w hm _ hi := by
    obtain ⟨X, n, c, rfl, rfl, rfl, h1, h2, h3, h4⟩ := H args hh x hx
    have hargs : ([Value.int .i64 n].map (ren ρ)).toArray = #[.int .i64 n] := by simp [ren]
    rw [hargs]
    refine (h4 w).mono fun e w' ⟨g1, g2⟩ => ⟨upd ρ 0 (Rx.Place.mk (w.heap.size + 1) 0 0 false), upd ft 0 (fun k => k = w.heap.size + 1 ∨ k = w.heap.size), fun i hi => absurd hi (Nat.not_lt_zero i), by rw [g1]; simp [ren, renA, upd_same, cellOf], ?_⟩
    subst g2
    have hs : (w.alloc (.chan c #[] false 0 0 false)).heap.size = w.heap.size + 1 := by simp
    have hbox : boxH (Rs.core X) (Rx.Place.mk (w.heap.size + 1) 0 0 false) (fun k => k = w.heap.size + 1 ∨ k = w.heap.size) ((w.alloc (.chan c #[] false 0 0 false)).alloc (.cells #[.chan (some w.heap.size), .bool false] (Rs.core X).tb)) := by
      refine ⟨rfl, w.heap.size, 0, 0, [], ⟨?_, ?_, ?_⟩, fun k => by simp⟩
      · have := heap_alloc_new (w.alloc (.chan c #[] false 0 0 false)) (.cells #[.chan (some w.heap.size), .bool false] (Rs.core X).tb)
        rw [hs] at this
        rw [h2]
        exact this
      · rw [alloc_old (by rw [hs]; omega), h3]
        exact heap_alloc_new w _
      · rw [h1]; trivial
    refine hm.step (fun _ => False) (((Kept.refl _ _).alloc _).alloc _) (fun i hi => absurd hi (Nat.not_lt_zero i)) (by simp) ?_ (fun i hi _ => absurd hi (Nat.not_lt_zero i)) ?_ ?_
    · intro i B _ hB
      cases i with
      | zero =>
        simp only [List.getElem?_cons_zero, Option.some.injEq] at hB
        subst hB
        rw [upd_same]
        refine ⟨?_, trivial⟩
        show boxH (Rs.core X) (upd ρ 0 _ 0) _ _
        rw [upd_same]
        exact hbox
      | succ i => simp at hB
    · intro i k _ hk
      by_cases he : i = 0
      · subst he
        rw [upd_same] at hk
        exact ⟨.inr (by omega), by simp; omega, _, rfl⟩
      · rw [upd_ne _ _ _ he] at hk
        obtain ⟨B, hB⟩ := hm.some_ i k hk
        simp at hB
    · intro i j k _ _ hi hj
      have key : ∀ l, upd ft 0 (fun k => k = w.heap.size + 1 ∨ k = w.heap.size) l k → l = 0 := fun l hl => by
        refine Classical.byContradiction fun he => ?_
        rw [upd_ne _ _ _ he] at hl
        obtain ⟨B, hB⟩ := hm.some_ l k hl
        simp at hB
      rw [key i hi, key j hj]
  len args hh x hx := by
    obtain ⟨X, n, c, rfl, rfl, rfl, h1, h2, h3, h4⟩ := H args hh x hx
    exact Nat.zero_le _
  lit args hh x hx b hb := by
    obtain ⟨X, n, c, rfl, rfl, rfl, h1, h2, h3, h4⟩ := H args hh x hx
    cases hb
  still args hh x hx hw := by
    obtain ⟨X, n, c, rfl, rfl, rfl, h1, h2, h3, h4⟩ := H args hh x hx
    cases hw
end Go.Proofs.Ytagiodenlhfgfaa.Bx
