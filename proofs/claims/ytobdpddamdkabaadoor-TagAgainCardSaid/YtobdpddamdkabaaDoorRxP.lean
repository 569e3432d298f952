/- Symbolic runs: what every stage needs of the program; things of the proof's. -/
import Derived.Test.YtobdpddamdkabaaDoorRxV
import Derived.Test.YtobdpddamdkabaaDoorProg
import Derived.KernelRfl
namespace Go.Proofs.YtobdpddamdkabaaDoor.Rx
set_option linter.unusedVariables false
set_option linter.unusedSimpArgs false
def NoR : Res Empty := ⟨fun _ _ _ _ => False, fun _ _ _ _ _ h _ => h, fun _ _ _ _ _ h _ => h.elim⟩
def codeOf (f : Func) : Code := f.body.getD .skip
theorem as_text {p q : Prop} (h : q) (e : p = q) : p := by rw [e]; exact h
theorem mixed : Tryd.prog.follows .mixedOrders = true := by kernel_rfl
def noViews : Hp Empty → Bool
  | [] => true
  | none :: l => noViews l
  | some B :: l => !isView B && noViews l
theorem noViews_get : ∀ {l : Hp Empty} {b : Nat} {X : SB Empty}, noViews l = true → l[b]? = some (some X) → isView X = false
  | [], b, X, _, h => by simp at h
  | none :: l, b, X, hn, h => by
    cases b with
    | zero => simp at h
    | succ b =>
      simp only [List.getElem?_cons_succ] at h
      simp only [noViews] at hn
      exact noViews_get hn h
  | some B :: l, b, X, hn, h => by
    simp only [noViews, Bool.and_eq_true, Bool.not_eq_true'] at hn
    cases b with
    | zero => simp only [List.getElem?_cons_zero, Option.some.injEq] at h; subst h; exact hn.1
    | succ b => simp only [List.getElem?_cons_succ] at h; exact noViews_get hn.2 h
def zN : Nat → Bool := fun _ => false
def zY : Nat → Bool := fun _ => true
theorem noLit {R : Type} {x : Out R} (h : x.lit = none) : ∀ b, x.lit = some b → x.v = .bool b := fun b hb => by rw [h] at hb; cases hb
open Go.RowKit State
section
variable {R : Type} {D : Res R} {P : Program}
/-- the first blocks of a heap -/
def keep : Nat → Hp R → Hp R
  | _, [] => []
  | 0, _ :: h => none :: keep 0 h
  | m + 1, b :: h => b :: keep m h
theorem keep_len : ∀ {m : Nat} {h : Hp R}, (keep m h).length = h.length
  | _, [] => rfl
  | 0, _ :: h => congrArg (· + 1) (keep_len (m := 0) (h := h))
  | m + 1, _ :: h => congrArg (· + 1) (keep_len (m := m) (h := h))
theorem keep_get : ∀ {m : Nat} {h : Hp R} {j : Nat} {X : SB R}, (keep m h)[j]? = some (some X) → h[j]? = some (some X)
  | _, [], j, X, e => by simp [keep] at e
  | 0, _ :: h, 0, X, e => by simp [keep] at e
  | 0, _ :: h, j + 1, X, e => by simp only [keep, List.getElem?_cons_succ] at e ⊢; exact keep_get e
  | m + 1, b :: h, 0, X, e => by simpa [keep] using e
  | m + 1, b :: h, j + 1, X, e => by simp only [keep, List.getElem?_cons_succ] at e ⊢; exact keep_get e
theorem keep_at2 {m : Nat} {h : Hp R} {j : Nat} {X : SB R} (e : at2 (keep m h) j = some X) : at2 h j = some X := by
  unfold at2 at *
  cases e1 : (keep m h)[j]? with
  | none => rw [e1] at e; cases e
  | some x =>
    rw [e1] at e
    have e : x = some X := e
    subst e
    rw [keep_get e1]
theorem pull_keep {k m : Nat} {s : Nat → Nat} {h : Hp R} {j : Nat} {X : SB R} (e : pullB k s (keep m h) j X) : pullB k s h j X := by
  rcases X with ⟨t, cs⟩ | ⟨t, r⟩ | r | x
  · rcases e with e | e
    · exact .inl (keep_at2 e)
    · obtain ⟨c, e, q⟩ := e
      exact .inr ⟨c, keep_at2 e, q⟩
  · show match Nat.blt j k with
      | true => ∃ r', at2 h j = some (.inr (.inl (t, r'))) ∧ RowLe r r'
      | false => NoRow r
    change match Nat.blt j k with
      | true => ∃ r', at2 (keep m h) j = some (.inr (.inl (t, r'))) ∧ RowLe r r'
      | false => NoRow r at e
    revert e
    cases Nat.blt j k with
    | true => exact fun ⟨r', e, q⟩ => ⟨r', keep_at2 e, q⟩
    | false => exact id
  · exact keep_at2 e
  · exact keep_at2 e
theorem Pulls.keep {k m : Nat} {s : Nat → Nat} {h : Hp R} : ∀ {b : Nat} {l : Hp R}, Pulls k s (keep m h) b l → Pulls k s h b l
  | _, [], _ => trivial
  | b, none :: l, e => Pulls.keep (b := b + 1) (l := l) e
  | b, some X :: l, ⟨e1, e2⟩ => ⟨pull_keep e1, Pulls.keep e2⟩
theorem Ends.keep {n m : Nat} {x : Out R} {v : Value} {h : Hp R} (e : Ends n x v (keep m h)) : Ends n x v h := by
  obtain ⟨s, h1, h2, h3, h4, h5, h6, h7⟩ := e.ex
  rw [keep_len] at *
  exact ⟨s, h1, h2, h3.keep, h4, h5, h6, h7⟩
/-- a contract out of a run: what is behind the first m blocks at its end is not asked for -/
theorem prim_atM (m : Nat) {f : FuncId} {fn : Func} {root : Code} {on : List Value → Hp R → Prop} {spec : Prim R} (hf : P.funcs[f]? = some fn) (hb : fn.body = some root) (hname : (fn.name == "runtime.NumGoroutine") = false)
    (H : ∀ args hh x, spec args hh = some x → hh.length ≤ x.hp.length ∧ (∀ b, x.lit = some b → x.v = .bool b) ∧ (x.wr = [] → x.hp = hh) ∧
      (on args hh → x.vc → At D P root hh.length (retK P fn.results.toList fun v h => Ends hh.length x v (Rx.keep m h)) [.inl []] ⟨someL args ++ List.replicate (fn.ntmps - args.length) none, [], hh⟩)) : PrimOk D P f on spec where
  known := ⟨fn, hf, hname, by rw [hb]; rfl⟩
  run args hh x hon hx C ρ ft w hm hv hi := by
    obtain ⟨_, _, _, h4⟩ := H args hh x hx
    refine (calls_At hf hb (h4 hon hv) hm hi).mono fun e w' ⟨ρ', ft', v, hp', g1, g2, g3, g4⟩ => ?_
    obtain ⟨ρ2, ft2, q1, q2, q3⟩ := HM.ends g3.keep g4
    exact ⟨ρ2, ft2, fun i hi => (q1 i hi).trans (g1 i hi), by rw [g2, q2], q3⟩
  len args hh x hx := (H args hh x hx).1
  lit args hh x hx := (H args hh x hx).2.1
  still args hh x hx := (H args hh x hx).2.2.1
end
theorem getD_mem {α : Type} {l : List α} {i : Nat} {d : α} (h : i < l.length) : l.getD i d ∈ l := by
  rw [List.getD_eq_getElem?_getD, List.getElem?_eq_getElem h]
  exact List.getElem_mem h
theorem getD_set {α : Type} (l : List α) (i j : Nat) (a d : α) : (l.set i a).getD j d = if i = j ∧ i < l.length then a else l.getD j d := by
  simp only [List.getD_eq_getElem?_getD, List.getElem?_set]
  by_cases h : i = j
  · subst h
    by_cases h2 : i < l.length
    · simp [h2]
    · simp [h2, List.getElem?_eq_none (Nat.le_of_not_lt h2)]
  · simp [h]
theorem getD_append1 {α : Type} (l : List α) (a d : α) (j : Nat) : (l ++ [a]).getD j d = if j = l.length then a else l.getD j d := by
  simp only [List.getD_eq_getElem?_getD]
  by_cases h : j < l.length
  · rw [List.getElem?_append_left h, if_neg (by omega)]
  · rw [List.getElem?_append_right (by omega)]
    by_cases h2 : j = l.length
    · simp [h2]
    · rw [if_neg h2, List.getElem?_eq_none (by simp; omega), List.getElem?_eq_none (by omega)]
theorem take_succ_getD {α : Type} {l : List α} {i : Nat} (d : α) (h : i < l.length) : l.take (i + 1) = l.take i ++ [l.getD i d] := by
  rw [List.take_succ_eq_append_getElem h, List.getD_eq_getElem?_getD, List.getElem?_eq_getElem h]; rfl
/-- a cell's number, its truth -/
def vI : Value → Int
  | .int _ x => x
  | _ => 0
def vB : Value → Bool
  | .bool b => b
  | _ => false
def nthV (l : List Value) (i : Nat) : Value := l.getD i (.bool false)
end Go.Proofs.YtobdpddamdkabaaDoor.Rx
