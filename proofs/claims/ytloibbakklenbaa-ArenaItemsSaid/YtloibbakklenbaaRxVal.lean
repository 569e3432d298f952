/- Symbolic runs: values whose blocks are numbered by the run, and where those blocks lie. Plain facts; nothing of the program. -/
import Derived.WalkKit
import Derived.Below
namespace Go.Proofs.Ytloibbakklenbaa.Rx
set_option linter.unusedVariables false

/-- where a block of the run lies: its number in the world, the cell where it begins, how many elements it has room for; or nowhere, if it is nil -/
structure Place where
  blk : Nat
  off : Nat
  cap : Nat
  nil : Bool
abbrev Env := Nat → Place

/-- an address of the run: with no spot the cell 'off' of the block; with the spot f + 1000 * size the field f of the element 'off'; from 1000000 on: the element behind which a cut stands -/
def cellOf (e : Nat) : Option Nat → Nat
  | none => e
  | some q => e * (q % 1000000 / 1000) + q % 1000
def renA (ρ : Env) (a : Addr) : Addr := ⟨(ρ a.block).blk, (ρ a.block).off + cellOf a.off a.spot, none⟩
/-- a slice's address and room -/
def renS (ρ : Env) (a : Addr) (n c : Nat) : Value :=
  match a.spot with
  | none => .slice (some (renA ρ a)) n c
  | some q =>
    if (ρ a.block).nil = true then .slice none n 0
    else if q / 1000000 ≠ 0 ∧ (ρ a.block).cap ≤ a.off then .slice (some ⟨(ρ (q / 1000000 - 1)).blk, (ρ (q / 1000000 - 1)).off, none⟩) n 0
    else .slice (some (renA ρ a)) n ((ρ a.block).cap - a.off)
mutual
def ren (ρ : Env) : Value → Value
  | .pointer (some a) => .pointer (some (renA ρ a))
  | .slice (some a) n c => renS ρ a n c
  | .map (some r) => .map (some (ρ r).blk)
  | .chan (some r) => .chan (some (ρ r).blk)
  | .agg ⟨l⟩ => .agg ⟨renL ρ l⟩
  | .tuple ⟨l⟩ => .tuple ⟨renL ρ l⟩
  | .func fn ⟨f⟩ ⟨c⟩ => .func fn ⟨renL ρ f⟩ ⟨renL ρ c⟩
  | .iface t v => .iface t (ren ρ v)
  | v => v
def renL (ρ : Env) : List Value → List Value
  | [] => []
  | v :: l => ren ρ v :: renL ρ l
end
section
variable {ρ ρ' : Env}
theorem renL_eq (l : List Value) : renL ρ l = l.map (ren ρ) := by
  induction l with
  | nil => simp [renL]
  | cons v l ih => simp [renL, ih]
theorem ren_agg (cs : Array Value) : ren ρ (.agg cs) = .agg (cs.map (ren ρ)) := by
  obtain ⟨l⟩ := cs
  simp [ren, renL_eq]
theorem ren_tuple (cs : Array Value) : ren ρ (.tuple cs) = .tuple (cs.map (ren ρ)) := by
  obtain ⟨l⟩ := cs
  simp [ren, renL_eq]
@[simp] theorem ren_int (k : IntKind) (n : Int) : ren ρ (.int k n) = .int k n := by simp [ren]
@[simp] theorem ren_bool (b : Bool) : ren ρ (.bool b) = .bool b := by simp [ren]
@[simp] theorem ren_string (s : ByteArray) : ren ρ (.string s) = .string s := by simp [ren]
end
mutual
/-- no block in it -/
def flat : Value → Bool
  | .pointer (some _) | .slice (some _) _ _ | .map (some _) | .chan (some _) => false
  | .agg ⟨l⟩ => flatL l
  | .tuple ⟨l⟩ => flatL l
  | .func _ ⟨f⟩ ⟨c⟩ => flatL f && flatL c
  | .iface _ v => flat v
  | _ => true
def flatL : List Value → Bool
  | [] => true
  | v :: l => flat v && flatL l
end
/-- the block behind which a cut stands -/
def tagB : Option Nat → Nat
  | none => 0
  | some q => q / 1000000
mutual
/-- every block in it is below n -/
def inb (n : Nat) : Value → Bool
  | .pointer (some a) => Nat.blt a.block n
  | .slice (some a) _ _ => Nat.blt a.block n && Nat.ble (tagB a.spot) n
  | .map (some r) | .chan (some r) => Nat.blt r n
  | .agg ⟨l⟩ => inbL n l
  | .tuple ⟨l⟩ => inbL n l
  | .func _ ⟨f⟩ ⟨c⟩ => inbL n f && inbL n c
  | .iface _ v => inb n v
  | _ => true
def inbL (n : Nat) : List Value → Bool
  | [] => true
  | v :: l => inb n v && inbL n l
end
section
variable {ρ ρ' : Env} {n m : Nat}
theorem renA_congr {a : Addr} (h : ∀ i, i < n → ρ i = ρ' i) (ha : a.block < n) : renA ρ a = renA ρ' a := by
  unfold renA; rw [h _ ha]
theorem renS_congr {a : Addr} {k c : Nat} (h : ∀ i, i < n → ρ i = ρ' i) (ha : a.block < n) (ht : tagB a.spot ≤ n) : renS ρ a k c = renS ρ' a k c := by
  unfold renS
  rw [renA_congr h ha, h _ ha]
  cases hs : a.spot with
  | none => rfl
  | some q =>
    rw [hs] at ht
    simp only [tagB] at ht
    simp only
    split
    · rfl
    · split
      · rename_i hq
        rw [h (q / 1000000 - 1) (by omega)]
      · rfl
mutual
theorem ren_congr (h : ∀ i, i < n → ρ i = ρ' i) : ∀ v, inb n v = true → ren ρ v = ren ρ' v
  | .pointer (some a), hv => by
    simp only [inb, Nat.blt_eq] at hv
    simp only [ren, renA_congr h hv]
  | .pointer none, _ => by simp [ren]
  | .slice (some a) k c, hv => by
    simp only [inb, Bool.and_eq_true, Nat.blt_eq, Nat.ble_eq] at hv
    simp only [ren]
    exact renS_congr h hv.1 hv.2
  | .slice none _ _, _ => by simp [ren]
  | .map (some r), hv => by simp only [inb, Nat.blt_eq] at hv; simp [ren, h _ hv]
  | .map none, _ => by simp [ren]
  | .chan (some r), hv => by simp only [inb, Nat.blt_eq] at hv; simp [ren, h _ hv]
  | .chan none, _ => by simp [ren]
  | .agg ⟨l⟩, hv => by simp only [inb] at hv; simp only [ren, renL_congr h l hv]
  | .tuple ⟨l⟩, hv => by simp only [inb] at hv; simp only [ren, renL_congr h l hv]
  | .func fn ⟨f⟩ ⟨c⟩, hv => by
    simp only [inb, Bool.and_eq_true] at hv
    simp only [ren, renL_congr h f hv.1, renL_congr h c hv.2]
  | .iface t v, hv => by simp only [inb] at hv; simp only [ren, ren_congr h v hv]
  | .int _ _, _ => by simp
  | .bool _, _ => by simp
  | .string _, _ => by simp
  | .float _ _, _ => by simp [ren]
  | .complex _ _ _, _ => by simp [ren]
  | .nilFunc, _ => by simp [ren]
  | .nilIface, _ => by simp [ren]
theorem renL_congr (h : ∀ i, i < n → ρ i = ρ' i) : ∀ l, inbL n l = true → renL ρ l = renL ρ' l
  | [], _ => rfl
  | v :: l, hv => by
    simp only [inbL, Bool.and_eq_true] at hv
    simp only [renL, ren_congr h v hv.1, renL_congr h l hv.2]
end
mutual
theorem flat_ren : ∀ v, flat v = true → ren ρ v = v
  | .pointer (some a), hv => by simp [flat] at hv
  | .pointer none, _ => by simp [ren]
  | .slice (some a) k c, hv => by simp [flat] at hv
  | .slice none _ _, _ => by simp [ren]
  | .map (some r), hv => by simp [flat] at hv
  | .map none, _ => by simp [ren]
  | .chan (some r), hv => by simp [flat] at hv
  | .chan none, _ => by simp [ren]
  | .agg ⟨l⟩, hv => by simp only [flat] at hv; simp only [ren, flat_renL l hv]
  | .tuple ⟨l⟩, hv => by simp only [flat] at hv; simp only [ren, flat_renL l hv]
  | .func fn ⟨f⟩ ⟨c⟩, hv => by
    simp only [flat, Bool.and_eq_true] at hv
    simp only [ren, flat_renL f hv.1, flat_renL c hv.2]
  | .iface t v, hv => by simp only [flat] at hv; simp only [ren, flat_ren v hv]
  | .int _ _, _ => by simp
  | .bool _, _ => by simp
  | .string _, _ => by simp
  | .float _ _, _ => by simp [ren]
  | .complex _ _ _, _ => by simp [ren]
  | .nilFunc, _ => by simp [ren]
  | .nilIface, _ => by simp [ren]
theorem flat_renL : ∀ l, flatL l = true → renL ρ l = l
  | [], _ => rfl
  | v :: l, hv => by
    simp only [flatL, Bool.and_eq_true] at hv
    simp only [renL, flat_ren v hv.1, flat_renL l hv.2]
end
mutual
theorem flat_inb : ∀ v, flat v = true → inb n v = true
  | .pointer (some a), hv => by simp [flat] at hv
  | .pointer none, _ => by simp [inb]
  | .slice (some a) k c, hv => by simp [flat] at hv
  | .slice none _ _, _ => by simp [inb]
  | .map (some r), hv => by simp [flat] at hv
  | .map none, _ => by simp [inb]
  | .chan (some r), hv => by simp [flat] at hv
  | .chan none, _ => by simp [inb]
  | .agg ⟨l⟩, hv => by simp only [flat] at hv; simp only [inb]; exact flat_inbL l hv
  | .tuple ⟨l⟩, hv => by simp only [flat] at hv; simp only [inb]; exact flat_inbL l hv
  | .func fn ⟨f⟩ ⟨c⟩, hv => by
    simp only [flat, Bool.and_eq_true] at hv
    simp only [inb, Bool.and_eq_true]
    exact ⟨flat_inbL f hv.1, flat_inbL c hv.2⟩
  | .iface t v, hv => by simp only [flat] at hv; simp only [inb]; exact flat_inb v hv
  | .int _ _, _ => by simp [inb]
  | .bool _, _ => by simp [inb]
  | .string _, _ => by simp [inb]
  | .float _ _, _ => by simp [inb]
  | .complex _ _ _, _ => by simp [inb]
  | .nilFunc, _ => by simp [inb]
  | .nilIface, _ => by simp [inb]
theorem flat_inbL : ∀ l, flatL l = true → inbL n l = true
  | [], _ => rfl
  | v :: l, hv => by
    simp only [flatL, Bool.and_eq_true] at hv
    simp only [inbL, Bool.and_eq_true]
    exact ⟨flat_inb v hv.1, flat_inbL l hv.2⟩
end
mutual
theorem inb_mono (hm : n ≤ m) : ∀ v, inb n v = true → inb m v = true
  | .pointer (some a), hv => by simp only [inb, Nat.blt_eq] at *; omega
  | .pointer none, _ => by simp [inb]
  | .slice (some a) k c, hv => by simp only [inb, Bool.and_eq_true, Nat.blt_eq, Nat.ble_eq] at *; omega
  | .slice none _ _, _ => by simp [inb]
  | .map (some r), hv => by simp only [inb, Nat.blt_eq] at *; omega
  | .map none, _ => by simp [inb]
  | .chan (some r), hv => by simp only [inb, Nat.blt_eq] at *; omega
  | .chan none, _ => by simp [inb]
  | .agg ⟨l⟩, hv => by simp only [inb] at *; exact inbL_mono hm l hv
  | .tuple ⟨l⟩, hv => by simp only [inb] at *; exact inbL_mono hm l hv
  | .func fn ⟨f⟩ ⟨c⟩, hv => by
    simp only [inb, Bool.and_eq_true] at *
    exact ⟨inbL_mono hm f hv.1, inbL_mono hm c hv.2⟩
  | .iface t v, hv => by simp only [inb] at *; exact inb_mono hm v hv
  | .int _ _, _ => by simp [inb]
  | .bool _, _ => by simp [inb]
  | .string _, _ => by simp [inb]
  | .float _ _, _ => by simp [inb]
  | .complex _ _ _, _ => by simp [inb]
  | .nilFunc, _ => by simp [inb]
  | .nilIface, _ => by simp [inb]
theorem inbL_mono (hm : n ≤ m) : ∀ l, inbL n l = true → inbL m l = true
  | [], _ => rfl
  | v :: l, hv => by
    simp only [inbL, Bool.and_eq_true] at *
    exact ⟨inb_mono hm v hv.1, inbL_mono hm l hv.2⟩
end
theorem inbL_iff {l : List Value} : inbL n l = true ↔ ∀ v ∈ l, inb n v = true := by
  induction l with
  | nil => simp [inbL]
  | cons v l ih => simp [inbL, ih]
theorem flatL_iff {l : List Value} : flatL l = true ↔ ∀ v ∈ l, flat v = true := by
  induction l with
  | nil => simp [flatL]
  | cons v l ih => simp [flatL, ih]
theorem oneCell_ren : ∀ v : Value, (ren ρ v).oneCell' = v.oneCell'
  | .pointer (some a) => by simp [ren, Value.oneCell']
  | .pointer none => by simp [ren]
  | .slice (some a) k c => by
    simp only [ren, renS]
    cases a.spot with
    | none => rfl
    | some q => simp only; split <;> first | rfl | (split <;> rfl)
  | .slice none _ _ => by simp [ren]
  | .map (some r) => by simp [ren, Value.oneCell']
  | .map none => by simp [ren]
  | .chan (some r) => by simp [ren, Value.oneCell']
  | .chan none => by simp [ren]
  | .agg ⟨l⟩ => by simp [ren, Value.oneCell']
  | .tuple ⟨l⟩ => by simp [ren, Value.oneCell']
  | .func fn ⟨f⟩ ⟨c⟩ => by simp [ren, Value.oneCell']
  | .iface t v => by simp [ren, Value.oneCell']
  | .int _ _ => by simp
  | .bool _ => by simp
  | .string _ => by simp
  | .float _ _ => by simp [ren]
  | .complex _ _ _ => by simp [ren]
  | .nilFunc => by simp [ren]
  | .nilIface => by simp [ren]
theorem renS_form (a : Addr) (k c : Nat) : ∃ A c', renS ρ a k c = .slice A k c' := by
  unfold renS
  cases a.spot with
  | none => exact ⟨_, _, rfl⟩
  | some q => simp only; split <;> first | exact ⟨_, _, rfl⟩ | (split <;> exact ⟨_, _, rfl⟩)
theorem cells_ren (v : Value) : (ren ρ v).cells = v.cells.map (ren ρ) := by
  cases v with
  | agg cs => rw [ren_agg]; rfl
  | slice a k c =>
    cases a with
    | none => simp [ren, Value.cells]
    | some a =>
      obtain ⟨A, c', h⟩ := renS_form (ρ := ρ) a k c
      simp [ren, h, Value.cells]
  | pointer a => cases a <;> simp [ren, Value.cells]
  | map a => cases a <;> simp [ren, Value.cells]
  | chan a => cases a <;> simp [ren, Value.cells]
  | tuple cs => obtain ⟨l⟩ := cs; simp [ren, Value.cells]
  | func fn f c => obtain ⟨f⟩ := f; obtain ⟨c⟩ := c; simp [ren, Value.cells]
  | iface t v => simp [ren, Value.cells]
  | _ => simp [ren, Value.cells]
end
end Go.Proofs.Ytloibbakklenbaa.Rx
