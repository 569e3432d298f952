/- Symbolic runs: what every stage needs of the program; things of the proof's. -/
import Derived.Test.YtegekenkfomlbaaRxV
import Derived.Test.YtegekenkfomlbaaProg
import Derived.KernelRfl
namespace Go.Proofs.Ytegekenkfomlbaa.Rx
set_option linter.unusedVariables false
set_option linter.unusedSimpArgs false
def NoR : Res Empty := ⟨fun _ _ _ _ => False, fun _ _ _ _ _ h _ => h, fun _ _ _ _ _ h _ => h.elim⟩
def codeOf (f : Func) : Code := f.body.getD .skip
theorem as_text {p q : Prop} (h : q) (e : p = q) : p := by rw [e]; exact h
theorem mixed : Try.prog.follows .mixedOrders = true := by kernel_rfl
def noViews : Hp Empty → Bool
  | [] => true
  | none :: l => noViews l
  | some B :: l => !isView B && noViews l
theorem noViews_get : ∀ {l : Hp Empty} {b : Nat} {X : SB Empty}, noViews l = true → l[b]? = some (some X) → isView X = false
  | [], b, X, _, h => by simp at h
  | none :: l, b, X, hn, h => by
    cases b with
    | zero => simp at h
    | succ b =>
      simp only [List.getElem?_cons_succ] at h
      simp only [noViews] at hn
      exact noViews_get hn h
  | some B :: l, b, X, hn, h => by
    simp only [noViews, Bool.and_eq_true, Bool.not_eq_true'] at hn
    cases b with
    | zero => simp only [List.getElem?_cons_zero, Option.some.injEq] at h; subst h; exact hn.1
    | succ b => simp only [List.getElem?_cons_succ] at h; exact noViews_get hn.2 h
def zN : Nat → Bool := fun _ => false
def zY : Nat → Bool := fun _ => true
theorem noLit {R : Type} {x : Out R} (h : x.lit = none) : ∀ b, x.lit = some b → x.v = .bool b := fun b hb => by rw [h] at hb; cases hb
theorem getD_mem {α : Type} {l : List α} {i : Nat} {d : α} (h : i < l.length) : l.getD i d ∈ l := by
  rw [List.getD_eq_getElem?_getD, List.getElem?_eq_getElem h]
  exact List.getElem_mem h
theorem getD_set {α : Type} (l : List α) (i j : Nat) (a d : α) : (l.set i a).getD j d = if i = j ∧ i < l.length then a else l.getD j d := by
  simp only [List.getD_eq_getElem?_getD, List.getElem?_set]
  by_cases h : i = j
  · subst h
    by_cases h2 : i < l.length
    · simp [h2]
    · simp [h2, List.getElem?_eq_none (Nat.le_of_not_lt h2)]
  · simp [h]
theorem getD_append1 {α : Type} (l : List α) (a d : α) (j : Nat) : (l ++ [a]).getD j d = if j = l.length then a else l.getD j d := by
  simp only [List.getD_eq_getElem?_getD]
  by_cases h : j < l.length
  · rw [List.getElem?_append_left h, if_neg (by omega)]
  · rw [List.getElem?_append_right (by omega)]
    by_cases h2 : j = l.length
    · simp [h2]
    · rw [if_neg h2, List.getElem?_eq_none (by simp; omega), List.getElem?_eq_none (by omega)]
theorem take_succ_getD {α : Type} {l : List α} {i : Nat} (d : α) (h : i < l.length) : l.take (i + 1) = l.take i ++ [l.getD i d] := by
  rw [List.take_succ_eq_append_getElem h, List.getD_eq_getElem?_getD, List.getElem?_eq_getElem h]; rfl
/-- a cell's number, its truth -/
def vI : Value → Int
  | .int _ x => x
  | _ => 0
def vB : Value → Bool
  | .bool b => b
  | _ => false
def nthV (l : List Value) (i : Nat) : Value := l.getD i (.bool false)
end Go.Proofs.Ytegekenkfomlbaa.Rx
