/- pile: what a pile holds, as plain lists; where it lies. -/
import Derived.Test.YtfofaiidakkgbaaPiRef
namespace Go.Proofs.Ytfofaiidakkgbaa.Pi
open Go.Proofs.Ytfofaiidakkgbaa.Rx
set_option linter.unusedVariables false
/-- a pile of ints: its limit, its values; what lies before and behind them in the row, and whether the slice was cut -/
structure PI where
  lim : Int
  xs : List Int
  pre : List Int
  post : List Int
  tag : Bool
/-- a pile of items, by columns -/
structure PJ where
  lim : Int
  x : List Int
  y : List Int
  px : List Int
  py : List Int
  qx : List Int
  qy : List Int
  tag : Bool
inductive Rs
  | ints (m : PI)
  | items (m : PJ)
def PI.row (m : PI) : List Int := m.pre ++ m.xs ++ m.post
def layInts (m : PI) : Hp Empty :=
  [some (.inl (52, [.slice (some ⟨1, m.pre.length, some (bif m.tag then 2001000 else 1000)⟩) m.xs.length 0, .int .i64 m.lim])),
   some (.inr (.inl (3, ⟨[.int .i64 0], m.pre.length + m.xs.length + m.post.length, [colI m.row]⟩)))]
def PJ.rowX (m : PJ) : List Int := m.px ++ m.x ++ m.qx
def PJ.rowY (m : PJ) : List Int := m.py ++ m.y ++ m.qy
def layItems (m : PJ) : Hp Empty :=
  [some (.inl (54, [.slice (some ⟨1, m.px.length, some (bif m.tag then 2002000 else 2000)⟩) m.x.length 0, .int .i64 m.lim])),
   some (.inr (.inl (43, ⟨[.int .i64 0, .int .i64 0], m.px.length + m.x.length + m.qx.length, [colI m.rowX, colI m.rowY]⟩)))]
def lay : Rs → Hp Empty
  | .ints m => layInts m
  | .items m => layItems m
def L : Lay Rs Empty where
  lay := lay
  ne x := by cases x <;> exact Nat.succ_pos _
  own x b X h := by cases x <;> exact noViews_get rfl h
  ins x := by
    cases x with
    | ints m => cases h : m.tag <;> (simp [lay, layInts, h] <;> rfl)
    | items m => cases h : m.tag <;> (simp [lay, layItems, h] <;> rfl)
def D : Res Rs := resOf NoR L
structure PI.Ok (n : Nat) (m : PI) : Prop where
  lim0 : 0 ≤ m.lim
  lim : m.lim ≤ 10000
  len : m.pre.length + m.xs.length + m.post.length ≤ n
  fit : (m.xs.length : Int) ≤ m.lim
  cut : m.tag = false → m.pre = []
theorem PI.row_get (m : PI) {i : Nat} (h : i < m.xs.length) : m.row.getD (m.pre.length + i) 0 = m.xs.getD i 0 := by
  unfold PI.row
  simp only [List.getD_eq_getElem?_getD, List.append_assoc]
  rw [List.getElem?_append_right (by omega), Nat.add_sub_cancel_left, List.getElem?_append_left h]
theorem PI.row_cut (m : PI) : cut m.row m.pre.length m.xs.length = m.xs := by
  unfold PI.row cut
  simp
def PI.top (m : PI) : Int := if m.xs.length = 0 then 0 else m.xs.getD (m.xs.length - 1) 0
def PI.clear (m : PI) : PI := ⟨m.lim, [], [], [], false⟩
def PI.pop (m : PI) : PI := if m.xs.length = 0 then m else ⟨m.lim, m.xs.take (m.xs.length - 1), m.pre, 0 :: m.post, m.tag⟩
def PI.over (m : PI) : Bool := decide (((m.xs.length + 1 : Nat) : Int) > m.lim)
def PI.push (m : PI) (v : Int) : PI := if m.over = true then ⟨m.lim, (m.xs ++ [v]).tail, [0], [], true⟩ else ⟨m.lim, m.xs ++ [v], [], [], false⟩
def PI.gone (m : PI) (v : Int) : Int := if m.over = true then (m.xs ++ [v]).headD 0 else 0
theorem PI.push_over (m : PI) (v y : Int) (ys : List Int) (h : ((m.xs.length + 1 : Nat) : Int) > m.lim) (e : m.xs ++ [v] = y :: ys) : m.push v = ⟨m.lim, ys, [0], [], true⟩ ∧ m.gone v = y ∧ m.over = true := by
  have ho : m.over = true := by simpa [PI.over] using h
  simp [PI.push, PI.gone, ho, e]
theorem PI.push_room (m : PI) (v : Int) (h : ((m.xs.length + 1 : Nat) : Int) ≤ m.lim) : m.push v = ⟨m.lim, m.xs ++ [v], [], [], false⟩ ∧ m.gone v = 0 ∧ m.over = false := by
  have ho : m.over = false := by simp only [PI.over, decide_eq_false_iff_not]; omega
  simp [PI.push, PI.gone, ho]
theorem snoc_cons (x : List Int) (v : Int) : ∃ y ys, x ++ [v] = y :: ys := by
  cases x with
  | nil => exact ⟨v, [], rfl⟩
  | cons a l => exact ⟨a, l ++ [v], rfl⟩
theorem PI.row_length (m : PI) : m.pre.length + m.xs.length + m.post.length = m.row.length := by simp [PI.row, Nat.add_assoc]
theorem PI.pop_some (m : PI) (h : m.xs.length ≠ 0) : m.pop = ⟨m.lim, m.xs.take (m.xs.length - 1), m.pre, 0 :: m.post, m.tag⟩ := by
  unfold PI.pop
  rw [if_neg h]
theorem PI.pop_none (m : PI) (h : ¬ m.xs.length ≠ 0) : m.pop = m := by
  unfold PI.pop
  rw [if_pos (by omega)]
theorem PI.pop_row (m : PI) (h : m.xs.length ≠ 0) : m.pop.row = m.row.set (m.pre.length + (m.xs.length - 1)) 0 := by
  rw [PI.pop_some m h]
  obtain ⟨lim, xs, pre, post, tag⟩ := m
  simp only [PI.row] at *
  obtain ⟨ys, z, rfl⟩ : ∃ ys z, xs = ys ++ [z] := ⟨xs.dropLast, xs.getLast (by intro e; rw [e] at h; exact h rfl), (List.dropLast_concat_getLast _).symm⟩
  simp
structure PJ.Ok (n : Nat) (m : PJ) : Prop where
  lim0 : 0 ≤ m.lim
  lim : m.lim ≤ 10000
  len : m.px.length + m.x.length + m.qx.length ≤ n
  fit : (m.x.length : Int) ≤ m.lim
  cut : m.tag = false → m.px = [] ∧ m.py = []
  y : m.y.length = m.x.length
  py : m.py.length = m.px.length
  qy : m.qy.length = m.qx.length
theorem PJ.Ok.mono {m : PJ} {n k : Nat} (h : m.Ok n) (hk : n ≤ k) : m.Ok k := ⟨h.lim0, h.lim, Nat.le_trans h.len hk, h.fit, h.cut, h.y, h.py, h.qy⟩
theorem PJ.cutX (m : PJ) : cut m.rowX m.px.length m.x.length = m.x := by unfold PJ.rowX cut; simp
theorem PJ.cutY (m : PJ) {n : Nat} (h : m.Ok n) : cut m.rowY m.px.length m.x.length = m.y := by
  unfold PJ.rowY cut
  rw [← h.py, ← h.y]
  simp
def PJ.over (m : PJ) : Bool := decide (((m.x.length + 1 : Nat) : Int) > m.lim)
def PJ.push (m : PJ) (v u : Int) : PJ := if m.over = true then ⟨m.lim, (m.x ++ [v]).tail, (m.y ++ [u]).tail, [0], [0], [], [], true⟩ else ⟨m.lim, m.x ++ [v], m.y ++ [u], [], [], [], [], false⟩
def PJ.goneX (m : PJ) (v : Int) : Int := if m.over = true then (m.x ++ [v]).headD 0 else 0
def PJ.goneY (m : PJ) (u : Int) : Int := if m.over = true then (m.y ++ [u]).headD 0 else 0
theorem PJ.push_over (m : PJ) (v u y z : Int) (ys zs : List Int) (h : ((m.x.length + 1 : Nat) : Int) > m.lim) (e : m.x ++ [v] = y :: ys) (e' : m.y ++ [u] = z :: zs) : m.push v u = ⟨m.lim, ys, zs, [0], [0], [], [], true⟩ ∧ m.goneX v = y ∧ m.goneY u = z ∧ m.over = true := by
  have ho : m.over = true := by simpa [PJ.over] using h
  simp [PJ.push, PJ.goneX, PJ.goneY, ho, e, e']
theorem PJ.push_room (m : PJ) (v u : Int) (h : ((m.x.length + 1 : Nat) : Int) ≤ m.lim) : m.push v u = ⟨m.lim, m.x ++ [v], m.y ++ [u], [], [], [], [], false⟩ ∧ m.goneX v = 0 ∧ m.goneY u = 0 ∧ m.over = false := by
  have ho : m.over = false := by simp only [PJ.over, decide_eq_false_iff_not]; omega
  simp [PJ.push, PJ.goneX, PJ.goneY, ho]
def PJ.topX (m : PJ) : Int := if m.x.length = 0 then 0 else m.x.getD (m.x.length - 1) 0
def PJ.topY (m : PJ) : Int := if m.x.length = 0 then 0 else m.y.getD (m.x.length - 1) 0
def PJ.pop (m : PJ) : PJ := if m.x.length = 0 then m else ⟨m.lim, m.x.take (m.x.length - 1), m.y.take (m.x.length - 1), m.px, m.py, 0 :: m.qx, 0 :: m.qy, m.tag⟩
theorem PJ.snoc (m : PJ) {ys zs : List Int} {y z : Int} (h : m.x = ys ++ [y]) (h' : m.y = zs ++ [z]) (hl : zs.length = ys.length) : m.topX = y ∧ m.topY = z ∧ m.pop = ⟨m.lim, ys, zs, m.px, m.py, 0 :: m.qx, 0 :: m.qy, m.tag⟩ ∧ m.x.length ≠ 0 := by
  have hn : m.x.length = ys.length + 1 := by rw [h]; simp
  have h0 : ¬ m.x.length = 0 := by omega
  refine ⟨?_, ?_, ?_, h0⟩
  · rw [PJ.topX, if_neg h0, hn, h]
    simp
  · rw [PJ.topY, if_neg h0, hn, h', ← hl]
    simp
  · rw [PJ.pop, if_neg h0, hn, h, h', ← hl]
    simp
    rw [hl]
    simp
theorem PJ.pop_none (m : PJ) (h : ¬ m.x.length ≠ 0) : m.pop = m := by
  unfold PJ.pop
  rw [if_pos (by omega)]
theorem mid_get {p x q : List Int} {n i : Nat} (hp : p.length = n) (h : i < x.length) : (p ++ x ++ q).getD (n + i) 0 = x.getD i 0 := by
  subst hp
  simp only [List.getD_eq_getElem?_getD, List.append_assoc]
  rw [List.getElem?_append_right (by omega), Nat.add_sub_cancel_left, List.getElem?_append_left h]
theorem mid_set {p ys q : List Int} {y : Int} {n k : Nat} (hp : p.length = n) (hk : ys.length = k) : (p ++ (ys ++ [y]) ++ q).set (n + k) 0 = p ++ ys ++ 0 :: q := by
  subst hp hk
  simp
theorem exists_snoc {x : List Int} (h : x.length ≠ 0) : ∃ ys z, x = ys ++ [z] := ⟨x.dropLast, x.getLast (by intro e; rw [e] at h; exact h rfl), (List.dropLast_concat_getLast _).symm⟩
end Go.Proofs.Ytfofaiidakkgbaa.Pi
