/- Symbolic runs, first part: values, heaps, operations. Nothing of the program. -/
import Derived.LaidEql
import Derived.Below
import Derived.WalkKit
import Derived.Laws.OwnMore
import Derived.Deep.Draws
import Derived.Orders
import Derived.IntWalk
import Derived.Laws.Append
import Derived.Test.YtobdpddamdkabaaDoorRxG
namespace Go.Proofs.YtobdpddamdkabaaDoor.State
open Go.RowKit
set_option linter.unusedVariables false

/-- w' is w, but for the blocks F and new ones -/
structure Kept (F : Nat → Prop) (w w' : World) : Prop where
  os : w'.os = w.os
  tape : w'.tape = w.tape
  output : w'.output = w.output
  size : w.heap.size ≤ w'.heap.size
  block : ∀ k, k < w.heap.size → ¬ F k → w'.heap[k]? = w.heap[k]?
section
variable {F G : Nat → Prop} {a b c w w' : World}
theorem Kept.refl (F : Nat → Prop) (w : World) : Kept F w w := ⟨rfl, rfl, rfl, Nat.le_refl _, fun _ _ _ => rfl⟩
theorem Kept.trans (h : Kept F a b) (k : Kept G b c) (hFG : ∀ i, i < a.heap.size → G i → F i) : Kept F a c :=
  ⟨k.os.trans h.os, k.tape.trans h.tape, k.output.trans h.output, Nat.le_trans h.size k.size, fun i hi hn => (k.block i (Nat.lt_of_lt_of_le hi h.size) (fun hg => hn (hFG i hi hg))).trans (h.block i hi hn)⟩
theorem Kept.mono (h : Kept F a b) (hFG : ∀ i, F i → G i) : Kept G a b := ⟨h.os, h.tape, h.output, h.size, fun i hi hn => h.block i hi (fun hf => hn (hFG i hf))⟩
theorem Kept.drewN (h : Kept F a b) (n : Nat) : Kept F a (b.drewN n) := ⟨h.os, h.tape, h.output, h.size, h.block⟩
theorem Kept.drew (h : Kept F a b) : Kept F a b.drew := ⟨h.os, h.tape, h.output, h.size, h.block⟩
theorem Kept.alloc (h : Kept F a b) (o : Obj) : Kept F a (b.alloc o) :=
  ⟨h.os, h.tape, h.output, Nat.le_trans h.size (by simp), fun i hi hn => (Below.heap_alloc b o i (Nat.lt_of_lt_of_le hi h.size)).trans (h.block i hi hn)⟩
theorem Kept.setCell (h : Kept F a b) {p : Addr} (hp : F p.block ∨ a.heap.size ≤ p.block) (u : Value) : Kept F a (b.setCell p u) :=
  ⟨h.os, h.tape, h.output, by simpa [World.setCell] using h.size, fun i hi hn => (Below.heap_setCell b p u i (fun e => by
    grind)).trans (h.block i hi hn)⟩
theorem Kept.grown {row : Option Nat} (h : Kept F a b) (hg : b.grownBy c row) (hr : ∀ k, row = some k → F k ∨ a.heap.size ≤ k) : Kept F a c :=
  ⟨hg.os.trans h.os, hg.tape.trans h.tape, hg.output.trans h.output, Nat.le_trans h.size hg.size, fun i hi hn => (hg.block i (Nat.lt_of_lt_of_le hi h.size) (fun e => by
    grind)).trans (h.block i hi hn)⟩
theorem Kept.below {B : Nat} (h : Kept F a b) (hB : ∀ k, k < B → k < a.heap.size ∧ ¬ F k) : Below B a b := ⟨h.os, h.tape, h.output, h.size, fun k hk => h.block k (hB k hk).1 (hB k hk).2⟩
theorem Kept.of_below {B : Nat} (h : Below B a b) (hB : a.heap.size ≤ B) : Kept F a b := ⟨h.os, h.tape, h.output, h.size, fun i hi _ => h.block i (Nat.lt_of_lt_of_le hi hB)⟩
theorem Kept.cell (h : Kept F a b) {p : Addr} (hp : p.block < a.heap.size) (hn : ¬ F p.block) : b.cell? p = a.cell? p := World.cell?_of_block (h.block p.block hp hn)
theorem Kept.frozen (h : Kept F a b) {p : Addr} (hp : p.block < a.heap.size) (hn : ¬ F p.block) : b.frozen? p = a.frozen? p := World.frozen?_of_block (h.block p.block hp hn)
end

/-- block g holds just the cells cs, of type t, none frozen -/
def Whole (w : World) (g : Nat) (t : TypeId) (cs : Array Value) : Prop := w.heap[g]? = some (.cells cs t (0, 0))
section
variable {F : Nat → Prop} {w w' : World} {g : Nat} {t : TypeId} {cs : Array Value}
theorem Whole.lt (h : Whole w g t cs) : g < w.heap.size := by grind[Whole]
theorem Whole.cell (h : Whole w g t cs) (i : Nat) : w.cell? ⟨g, i, none⟩ = cs[i]? := cell_of_row w g i cs t (0, 0) h
theorem Whole.frozen (h : Whole w g t cs) (i : Nat) : w.frozen? ⟨g, i, none⟩ = false := by
  unfold Whole at h
  unfold World.frozen?
  grind
theorem Whole.new (w : World) (t : TypeId) (cs : Array Value) : Whole (w.alloc (.cells cs t)) w.heap.size t cs := heap_alloc_new w _
theorem Whole.kept (h : Whole w g t cs) (hk : Kept F w w') (hn : ¬ F g) : Whole w' g t cs := (hk.block g h.lt hn).trans h
theorem Whole.alloc (h : Whole w g t cs) (o : Obj) : Whole (w.alloc o) g t cs := (Below.heap_alloc w o g h.lt).trans h
theorem Whole.set_ (h : Whole w g t cs) (i : Nat) (u : Value) : Whole (w.setCell ⟨g, i, none⟩ u) g t (cs.setIfInBounds i u) := by
  unfold Whole at h ⊢
  simp [World.setCell, Array.getElem?_modify, h]
theorem Whole.far (h : Whole w g t cs) {p : Addr} (hp : g ≠ p.block) (u : Value) : Whole (w.setCell p u) g t cs := (Below.heap_setCell w p u g hp).trans h
end

/-- the slice v owns the values xs (of one cell each), in a block from base on -/
def Row1 (w : World) (base : Nat) (e : TypeId) (v : Value) (xs : List Value) : Prop := w.ownsRow base e 1 v xs.length xs
section
variable {F : Nat → Prop} {w w' : World} {base : Nat} {e : TypeId} {v : Value} {xs : List Value}
theorem Row1.nil (w : World) (base : Nat) (e : TypeId) : Row1 w base e (.slice none 0 0) [] := World.ownsRow_nil _ _ _ _
theorem Row1.form (h : Row1 w base e v xs) : ∃ A c, v = .slice A xs.length c ∧ xs.length ≤ c ∧ c ≤ 9223372036854775807 ∧
    (0 < xs.length → ∃ g, A = some ⟨g, 0, none⟩ ∧ base ≤ g ∧ g < w.heap.size ∧ v.ownBlock = some g ∧ (∀ j u, xs[j]? = some u → w.cell? ⟨g, j, none⟩ = some u) ∧ ∀ j, w.frozen? ⟨g, j, none⟩ = false) := by
  rcases h.2 with ⟨rfl, hn⟩ | ⟨g, cap, cur, rfl, hb, hh, hnc, hcm, hsz, htake⟩
  · grind
  · refine ⟨_, cap, rfl, hnc, by exact hcm, fun hl => ⟨g, rfl, hb, ?_, rfl, fun j u hu => ?_, fun j => ?_⟩⟩
    · grind
    · grind[cell_of_row]
    · unfold World.frozen?
      grind
theorem Row1.kept (h : Row1 w base e v xs) (hk : Kept F w w') (hn : ∀ k, v.ownBlock = some k → ¬ F k) : Row1 w' base e v xs := by
  refine ⟨h.1, ?_⟩
  rcases h.2 with h' | ⟨g, cap, cur, hv, hba, hh, hr⟩
  · grind
  · refine Or.inr ⟨g, cap, cur, hv, hba, ?_, hr⟩
    have hlt : g < w.heap.size := by
      grind
    rw [hk.block g hlt (hn g (by rw [hv]; rfl))]
    exact hh
theorem Row1.block_lt (h : Row1 w base e v xs) : ∀ k, v.ownBlock = some k → k < w.heap.size := by
  intro k hk
  rcases h.2 with ⟨rfl, _⟩ | ⟨g, cap, cur, rfl, hba, hh, hr⟩
  · simp [Value.ownBlock] at hk
  · have hlt : g < w.heap.size := by
      grind
    simp [Value.ownBlock] at hk; omega
theorem Row1.block_ge (h : Row1 w base e v xs) : ∀ k, v.ownBlock = some k → base ≤ k := by
  intro k hk
  rcases h.2 with ⟨rfl, _⟩ | ⟨g, cap, cur, rfl, hba, hh, hr⟩
  · simp [Value.ownBlock] at hk
  · simp [Value.ownBlock] at hk; omega
end
end Go.Proofs.YtobdpddamdkabaaDoor.State
namespace Go.Proofs.YtobdpddamdkabaaDoor.Rx
set_option linter.unusedVariables false

/-- where a block of the run lies: its number in the world, the cell where it begins, how many elements it has room for; or nowhere, if it is nil -/
structure Place where
  blk : Nat
  off : Nat
  cap : Nat
  nil : Bool
abbrev Env := Nat → Place

/-- an address of the run: with no spot the cell 'off' of the block; with the spot f + 1000 * size the field f of the element 'off'; from 1000000 on: the element behind which a cut stands -/
def cellOf (e : Nat) : Option Nat → Nat
  | none => e
  | some q => e * (q % 1000000 / 1000) + q % 1000
def renA (ρ : Env) (a : Addr) : Addr := ⟨(ρ a.block).blk, (ρ a.block).off + cellOf a.off a.spot, none⟩
/-- a slice's address and room -/
def renS (ρ : Env) (a : Addr) (n c : Nat) : Value :=
  match a.spot with
  | none => .slice (some (renA ρ a)) n c
  | some q =>
    if (ρ a.block).nil = true then .slice none n 0
    else if q / 1000000 ≠ 0 ∧ (ρ a.block).cap ≤ a.off then .slice (some ⟨(ρ (q / 1000000 - 1)).blk, (ρ (q / 1000000 - 1)).off, none⟩) n 0
    else .slice (some (renA ρ a)) n ((ρ a.block).cap - a.off)
mutual
def ren (ρ : Env) : Value → Value
  | .pointer (some a) => .pointer (some (renA ρ a))
  | .slice (some a) n c => renS ρ a n c
  | .map (some r) => .map (some (ρ r).blk)
  | .chan (some r) => .chan (some (ρ r).blk)
  | .agg ⟨l⟩ => .agg ⟨renL ρ l⟩
  | .tuple ⟨l⟩ => .tuple ⟨renL ρ l⟩
  | .func fn ⟨f⟩ ⟨c⟩ => .func fn ⟨renL ρ f⟩ ⟨renL ρ c⟩
  | .iface t v => .iface t (ren ρ v)
  | v => v
def renL (ρ : Env) : List Value → List Value
  | [] => []
  | v :: l => ren ρ v :: renL ρ l
end
section
variable {ρ ρ' : Env}
theorem renL_eq (l : List Value) : renL ρ l = l.map (ren ρ) := by
  induction l with
  | nil => rfl
  | cons v l ih => simp [renL, ih]
theorem ren_agg (cs : Array Value) : ren ρ (.agg cs) = .agg (cs.map (ren ρ)) := by
  obtain ⟨l⟩ := cs
  simp [ren, renL_eq]
theorem ren_tuple (cs : Array Value) : ren ρ (.tuple cs) = .tuple (cs.map (ren ρ)) := by
  obtain ⟨l⟩ := cs
  simp [ren, renL_eq]
@[simp] theorem ren_int (k : IntKind) (n : Int) : ren ρ (.int k n) = .int k n := by rfl
@[simp] theorem ren_bool (b : Bool) : ren ρ (.bool b) = .bool b := by rfl
@[simp] theorem ren_string (s : ByteArray) : ren ρ (.string s) = .string s := by rfl
end
mutual
/-- no block in it -/
def flat : Value → Bool
  | .pointer (some _) | .slice (some _) _ _ | .map (some _) | .chan (some _) => false
  | .agg ⟨l⟩ => flatL l
  | .tuple ⟨l⟩ => flatL l
  | .func _ ⟨f⟩ ⟨c⟩ => flatL f && flatL c
  | .iface _ v => flat v
  | _ => true
def flatL : List Value → Bool
  | [] => true
  | v :: l => flat v && flatL l
end
/-- the block behind which a cut stands -/
def tagB : Option Nat → Nat
  | none => 0
  | some q => q / 1000000
mutual
/-- every block in it is below n -/
def inb (n : Nat) : Value → Bool
  | .pointer (some a) => Nat.blt a.block n
  | .slice (some a) _ _ => Nat.blt a.block n && Nat.ble (tagB a.spot) n
  | .map (some r) | .chan (some r) => Nat.blt r n
  | .agg ⟨l⟩ => inbL n l
  | .tuple ⟨l⟩ => inbL n l
  | .func _ ⟨f⟩ ⟨c⟩ => inbL n f && inbL n c
  | .iface _ v => inb n v
  | _ => true
def inbL (n : Nat) : List Value → Bool
  | [] => true
  | v :: l => inb n v && inbL n l
end
section
variable {ρ ρ' : Env} {n m : Nat}
theorem renA_congr {a : Addr} (h : ∀ i, i < n → ρ i = ρ' i) (ha : a.block < n) : renA ρ a = renA ρ' a := by grind[renA]
theorem renS_congr {a : Addr} {k c : Nat} (h : ∀ i, i < n → ρ i = ρ' i) (ha : a.block < n) (ht : tagB a.spot ≤ n) : renS ρ a k c = renS ρ' a k c := by grind[renS,renA_congr,tagB]
mutual
theorem ren_congr (h : ∀ i, i < n → ρ i = ρ' i) : ∀ v, inb n v = true → ren ρ v = ren ρ' v
  | .pointer (some a), hv => by
    grind[inb,Nat.blt_eq,ren,renA_congr]
  | .pointer none, _ => by rfl
  | .slice (some a) k c, hv => by
    simp only [inb, Bool.and_eq_true, Nat.blt_eq, Nat.ble_eq] at hv
    grind[ren,renS_congr]
  | .slice none _ _, _ => by rfl
  | .map (some r), hv => by grind[inb,Nat.blt_eq,ren]
  | .map none, _ => by rfl
  | .chan (some r), hv => by grind[inb,Nat.blt_eq,ren]
  | .chan none, _ => by rfl
  | .agg ⟨l⟩, hv => by simp only [ren, renL_congr h l hv]
  | .tuple ⟨l⟩, hv => by simp only [ren, renL_congr h l hv]
  | .func fn ⟨f⟩ ⟨c⟩, hv => by
    simp only [inb, Bool.and_eq_true] at hv
    simp only [ren, renL_congr h f hv.1, renL_congr h c hv.2]
  | .iface t v, hv => by simp only [ren, ren_congr h v hv]
  | .int _ _, _ => by simp
  | .bool _, _ => by simp
  | .string _, _ => by simp
  | .float _ _, _ => by rfl
  | .complex _ _ _, _ => by rfl
  | .nilFunc, _ => by rfl
  | .nilIface, _ => by rfl
theorem renL_congr (h : ∀ i, i < n → ρ i = ρ' i) : ∀ l, inbL n l = true → renL ρ l = renL ρ' l
  | [], _ => rfl
  | v :: l, hv => by
    simp only [inbL, Bool.and_eq_true] at hv
    simp only [renL, ren_congr h v hv.1, renL_congr h l hv.2]
end
mutual
theorem flat_ren : ∀ v, flat v = true → ren ρ v = v
  | .pointer (some a), hv => by grind[flat]
  | .pointer none, _ => by rfl
  | .slice (some a) k c, hv => by grind[flat]
  | .slice none _ _, _ => by rfl
  | .map (some r), hv => by grind[flat]
  | .map none, _ => by rfl
  | .chan (some r), hv => by grind[flat]
  | .chan none, _ => by rfl
  | .agg ⟨l⟩, hv => by simp only [ren, flat_renL l hv]
  | .tuple ⟨l⟩, hv => by simp only [ren, flat_renL l hv]
  | .func fn ⟨f⟩ ⟨c⟩, hv => by
    simp only [flat, Bool.and_eq_true] at hv
    simp only [ren, flat_renL f hv.1, flat_renL c hv.2]
  | .iface t v, hv => by simp only [ren, flat_ren v hv]
  | .int _ _, _ => by simp
  | .bool _, _ => by simp
  | .string _, _ => by simp
  | .float _ _, _ => by rfl
  | .complex _ _ _, _ => by rfl
  | .nilFunc, _ => by rfl
  | .nilIface, _ => by rfl
theorem flat_renL : ∀ l, flatL l = true → renL ρ l = l
  | [], _ => rfl
  | v :: l, hv => by
    simp only [flatL, Bool.and_eq_true] at hv
    simp only [renL, flat_ren v hv.1, flat_renL l hv.2]
end
mutual
theorem flat_inb : ∀ v, flat v = true → inb n v = true
  | .pointer (some a), hv => by grind[flat]
  | .pointer none, _ => by rfl
  | .slice (some a) k c, hv => by grind[flat]
  | .slice none _ _, _ => by rfl
  | .map (some r), hv => by grind[flat]
  | .map none, _ => by rfl
  | .chan (some r), hv => by grind[flat]
  | .chan none, _ => by rfl
  | .agg ⟨l⟩, hv => by exact flat_inbL l hv
  | .tuple ⟨l⟩, hv => by exact flat_inbL l hv
  | .func fn ⟨f⟩ ⟨c⟩, hv => by
    simp only [flat, Bool.and_eq_true] at hv
    simp only [inb, Bool.and_eq_true]
    exact ⟨flat_inbL f hv.1, flat_inbL c hv.2⟩
  | .iface t v, hv => by exact flat_inb v hv
  | .int _ _, _ => by rfl
  | .bool _, _ => by rfl
  | .string _, _ => by rfl
  | .float _ _, _ => by rfl
  | .complex _ _ _, _ => by rfl
  | .nilFunc, _ => by rfl
  | .nilIface, _ => by rfl
theorem flat_inbL : ∀ l, flatL l = true → inbL n l = true
  | [], _ => rfl
  | v :: l, hv => by
    simp only [flatL, Bool.and_eq_true] at hv
    simp only [inbL, Bool.and_eq_true]
    exact ⟨flat_inb v hv.1, flat_inbL l hv.2⟩
end
mutual
theorem inb_mono (hm : n ≤ m) : ∀ v, inb n v = true → inb m v = true
  | .pointer (some a), hv => by grind[inb,Nat.blt_eq]
  | .pointer none, _ => by rfl
  | .slice (some a) k c, hv => by simp only [inb, Bool.and_eq_true, Nat.blt_eq, Nat.ble_eq] at *; omega
  | .slice none _ _, _ => by rfl
  | .map (some r), hv => by grind[inb,Nat.blt_eq]
  | .map none, _ => by rfl
  | .chan (some r), hv => by grind[inb,Nat.blt_eq]
  | .chan none, _ => by rfl
  | .agg ⟨l⟩, hv => by exact inbL_mono hm l hv
  | .tuple ⟨l⟩, hv => by exact inbL_mono hm l hv
  | .func fn ⟨f⟩ ⟨c⟩, hv => by
    simp only [inb, Bool.and_eq_true] at *
    exact ⟨inbL_mono hm f hv.1, inbL_mono hm c hv.2⟩
  | .iface t v, hv => by exact inb_mono hm v hv
  | .int _ _, _ => by rfl
  | .bool _, _ => by rfl
  | .string _, _ => by rfl
  | .float _ _, _ => by rfl
  | .complex _ _ _, _ => by rfl
  | .nilFunc, _ => by rfl
  | .nilIface, _ => by rfl
theorem inbL_mono (hm : n ≤ m) : ∀ l, inbL n l = true → inbL m l = true
  | [], _ => rfl
  | v :: l, hv => by
    simp only [inbL, Bool.and_eq_true] at *
    exact ⟨inb_mono hm v hv.1, inbL_mono hm l hv.2⟩
end
theorem inbL_iff {l : List Value} : inbL n l = true ↔ ∀ v ∈ l, inb n v = true := by
  induction l with
  | nil => simp [inbL]
  | cons v l ih => simp [inbL, ih]
theorem flatL_iff {l : List Value} : flatL l = true ↔ ∀ v ∈ l, flat v = true := by
  induction l with
  | nil => simp [flatL]
  | cons v l ih => simp [flatL, ih]
theorem oneCell_ren : ∀ v : Value, (ren ρ v).oneCell' = v.oneCell'
  | .pointer (some a) => by rfl
  | .pointer none => by rfl
  | .slice (some a) k c => by
    simp only [ren, renS]
    cases a.spot with
    | none => rfl
    | some q => simp only; split <;> first | rfl | (split <;> rfl)
  | .slice none _ _ => by rfl
  | .map (some r) => by rfl
  | .map none => by rfl
  | .chan (some r) => by rfl
  | .chan none => by rfl
  | .agg ⟨l⟩ => by rfl
  | .tuple ⟨l⟩ => by rfl
  | .func fn ⟨f⟩ ⟨c⟩ => by rfl
  | .iface t v => by rfl
  | .int _ _ => by simp
  | .bool _ => by simp
  | .string _ => by simp
  | .float _ _ => by rfl
  | .complex _ _ _ => by rfl
  | .nilFunc => by rfl
  | .nilIface => by rfl
theorem renS_form (a : Addr) (k c : Nat) : ∃ A c', renS ρ a k c = .slice A k c' := by
  unfold renS
  cases a.spot with
  | none => simp
  | some q => simp only; split <;> first | exact ⟨_, _, rfl⟩ | (split <;> exact ⟨_, _, rfl⟩)
theorem cells_ren (v : Value) : (ren ρ v).cells = v.cells.map (ren ρ) := by
  cases v with
  | agg cs => rw [ren_agg]; rfl
  | slice a k c =>
    cases a with
    | none => simp [ren, Value.cells]
    | some a =>
      obtain ⟨A, c', h⟩ := renS_form (ρ := ρ) a k c
      simp [ren, h, Value.cells]
  | pointer a => cases a <;> simp [ren, Value.cells]
  | map a => cases a <;> simp [ren, Value.cells]
  | chan a => cases a <;> simp [ren, Value.cells]
  | tuple cs => simp [ren, Value.cells]
  | func fn f c => simp [ren, Value.cells]
  | iface t v => simp [ren, Value.cells]
  | _ => simp [ren, Value.cells]
end
end Go.Proofs.YtobdpddamdkabaaDoor.Rx
namespace Go.Proofs.YtobdpddamdkabaaDoor.Rx
open Go.RowKit Go.Proofs.YtobdpddamdkabaaDoor.State
set_option linter.unusedVariables false

/-- a column of a row of elements: the numbers, truths or texts of one cell of each element -/
structure Col where
  i : List Int
  b : List Bool
  s : List ByteArray
def colI (l : List Int) : Col := ⟨l, [], []⟩
def colB (l : List Bool) : Col := ⟨[], l, []⟩
def colS (l : List ByteArray) : Col := ⟨[], [], l⟩
def noCol : Col := ⟨[], [], []⟩
/-- the value in a cell like t -/
def cellVal : Value → Col → Nat → Value
  | .int k _, c, e => .int k (c.i.getD e 0)
  | .bool _, c, e => .bool (c.b.getD e false)
  | .string _, c, e => .string (c.s.getD e ⟨#[]⟩)
  | v, _, _ => v
def colOk : Value → Col → Nat → Prop
  | .int _ _, c, n => c.i.length = n
  | .bool _, c, n => c.b.length = n
  | .string _, c, n => c.s.length = n
  | v, _, _ => flat v = true ∧ v.oneCell' = true
/-- n elements, each of the cells tm -/
structure Row where
  tm : List Value
  n : Nat
  cols : List Col
structure RowIn (r : Row) (arr : Array Value) (o : Nat) : Prop where
  len : r.cols.length = r.tm.length
  col : ∀ (f : Nat) (t : Value) (c : Col), r.tm[f]? = some t → r.cols[f]? = some c → colOk t c r.n
  cell : ∀ (f : Nat) (t : Value) (c : Col) (e : Nat), r.tm[f]? = some t → r.cols[f]? = some c → e < r.n → arr[o + (e * r.tm.length + f)]? = some (cellVal t c e)
/-- what a block of the run is: cells known one by one; a row of elements of its own; a row that is only read; a thing of the proof's -/
abbrev SB (R : Type) := (TypeId × List Value) ⊕ (TypeId × Row) ⊕ Row ⊕ R
abbrev Hp (R : Type) := List (Option (SB R))
/-- things of the proof's: what they say of the world, by a set of blocks -/
structure Res (R : Type) where
  H : R → Place → (Nat → Prop) → World → Prop
  keep : ∀ x p F w w', H x p F w → (∀ k, F k → w'.heap[k]? = w.heap[k]?) → H x p F w'
  lt : ∀ x p F w k, H x p F w → F k → k < w.heap.size
/-- the world at the start, and the blocks that may be written -/
structure Ctx where
  w0 : World
  U : Nat → Prop
  e0 : Env
  n0 : Nat
section
variable {R : Type} {D : Res R} {C : Ctx} {ρ ρ' : Env} {i n : Nat} {F : Nat → Prop} {w w' : World} {B : SB R}
def hold (D : Res R) (C : Ctx) (ρ : Env) (i : Nat) (F : Nat → Prop) (w : World) : SB R → Prop
  | .inl (t, cs) => (ρ i).off = 0 ∧ (∀ k, F k ↔ k = (ρ i).blk) ∧ w.heap[(ρ i).blk]? = some (.cells (cs.map (ren ρ)).toArray t (0, 0))
  | .inr (.inl (t, r)) => (∀ k, F k ↔ ((ρ i).nil = false ∧ k = (ρ i).blk)) ∧ 0 < r.tm.length ∧ r.n ≤ (ρ i).cap ∧ (ρ i).cap ≤ maxLen ∧ ((ρ i).nil = true → (ρ i).cap = 0) ∧
      ∃ arr, ((ρ i).nil = false → w.heap[(ρ i).blk]? = some (.cells arr t (0, 0)) ∧ arr.size = (ρ i).off + (ρ i).cap * r.tm.length) ∧ RowIn r arr (ρ i).off
  | .inr (.inr (.inl r)) => (∀ k, ¬ F k) ∧ 0 < r.tm.length ∧ r.n ≤ (ρ i).cap ∧ (ρ i).cap ≤ maxLen ∧ ((ρ i).nil = true → (ρ i).cap = 0) ∧
      ∃ arr, ((ρ i).nil = false → 0 < r.n → (ρ i).blk < C.w0.heap.size ∧ ¬ C.U (ρ i).blk ∧ ∃ t fz, C.w0.heap[(ρ i).blk]? = some (.cells arr t fz)) ∧ RowIn r arr (ρ i).off
  | .inr (.inr (.inr x)) => D.H x (ρ i) F w
def inside (n : Nat) : SB R → Prop
  | .inl (_, cs) => inbL n cs = true
  | _ => True
theorem inside_mono {m : Nat} (hm : n ≤ m) (h : inside n B) : inside m B := by
  rcases B with ⟨t, cs⟩ | ⟨t, r⟩ | r | x <;> first | exact trivial | skip
  exact inbL_mono hm _ h
theorem hold_keep (h : hold D C ρ i F w B) (hk : ∀ k, F k → w'.heap[k]? = w.heap[k]?) : hold D C ρ i F w' B := by
  rcases B with ⟨t, cs⟩ | ⟨t, r⟩ | r | x
  · obtain ⟨h1, h2, h3⟩ := h
    exact ⟨h1, h2, by grind⟩
  · obtain ⟨h1, h2, h3, h4, h4', arr, h5, h6⟩ := h
    exact ⟨h1, h2, h3, h4, h4', arr, fun hn => by grind, h6⟩
  · exact h
  · exact D.keep _ _ _ _ _ h hk
theorem hold_env (h : hold D C ρ i F w B) (hρ : ∀ j, j < n → ρ' j = ρ j) (hi : i < n) (hs : inside n B) : hold D C ρ' i F w B := by
  have e := hρ i hi
  rcases B with ⟨t, cs⟩ | ⟨t, r⟩ | r | x
  · simp only [hold, e] at *
    have : cs.map (ren ρ') = cs.map (ren ρ) := List.map_congr_left fun v hv => (ren_congr (fun j hj => (hρ j hj)) v (inbL_iff.1 hs v hv))
    grind
  all_goals grind[hold]
/-- the heap of a run, and the world -/
structure HM0 (D : Res R) (C : Ctx) (ρ : Env) (ft : Nat → Nat → Prop) (h : Hp R) (w : World) : Prop where
  at_ : ∀ i B, h[i]? = some (some B) → hold D C ρ i (ft i) w B ∧ inside h.length B
  lt : ∀ i k, ft i k → k < w.heap.size
  fresh : ∀ i k, ft i k → C.U k ∨ C.w0.heap.size ≤ k
  apart : ∀ i j k, ft i k → ft j k → i = j
  some_ : ∀ i k, ft i k → ∃ B, h[i]? = some (some B)
  kept : Kept C.U C.w0 w
/-- the program's own variables, at the start -/
structure Glob (w : World) (U : Nat → Prop) : Prop where
  out : HasG → GlobO w.heap[0]? ∧ ¬ U 0 ∧ 0 < w.heap.size
theorem Glob.next {w0 w : World} {U U' : Nat → Prop} (g : Glob w0 U) (hk : Kept U w0 w) (hU : ∀ k, U' k → U k ∨ w0.heap.size ≤ k) : Glob w U' := ⟨fun h => by
  obtain ⟨g1, g2, g3⟩ := g.out h
  refine ⟨by rw [hk.block 0 g3 g2]; exact g1, fun hu => ?_, Nat.lt_of_lt_of_le g3 hk.size⟩
  rcases hU 0 hu with h1 | h1
  · exact g2 h1
  · omega⟩
structure HM (D : Res R) (C : Ctx) (ρ : Env) (ft : Nat → Nat → Prop) (h : Hp R) (w : World) : Prop extends HM0 D C ρ ft h w where
  gl : Glob C.w0 C.U
variable {ft ft' : Nat → Nat → Prop} {h h' : Hp R}
theorem HM.same (hm : HM D C ρ ft h w) (hh : w'.heap = w.heap) (ho : w'.os = w.os) (ht : w'.tape = w.tape) (hu : w'.output = w.output) : HM D C ρ ft h w' where
  at_ i B hi := ⟨hold_keep (hm.at_ i B hi).1 (fun k _ => by rw [hh]), (hm.at_ i B hi).2⟩
  lt i k hk := by rw [hh]; exact hm.lt i k hk
  fresh := hm.fresh
  apart := hm.apart
  some_ := hm.some_
  kept := ⟨ho.trans hm.kept.os, ht.trans hm.kept.tape, hu.trans hm.kept.output, by rw [hh]; exact hm.kept.size, fun k hk hn => by rw [hh]; exact hm.kept.block k hk hn⟩
  gl := hm.gl
theorem HM.drew (hm : HM D C ρ ft h w) : HM D C ρ ft h w.drew := hm.same rfl rfl rfl rfl
/-- a step: the blocks of the things in S may be written, new ones are made -/
theorem HM.step (hm : HM D C ρ ft h w) (S : Nat → Prop) (hk : Kept (fun k => ∃ i, S i ∧ ft i k) w w') (hρ : ∀ i, i < h.length → ρ' i = ρ i) (hlen : h.length ≤ h'.length)
    (hnew : ∀ i B, (i < h.length → S i) → h'[i]? = some (some B) → hold D C ρ' i (ft' i) w' B ∧ inside h'.length B)
    (hsame : ∀ i, i < h.length → ¬ S i → h'[i]? = h[i]? ∧ ∀ k, ft' i k ↔ ft i k)
    (hin : ∀ i k, (i < h.length → S i) → ft' i k → ((∃ j, S j ∧ ft j k) ∨ w.heap.size ≤ k) ∧ k < w'.heap.size ∧ ∃ B, h'[i]? = some (some B))
    (hap : ∀ i j k, (i < h.length → S i) → (j < h.length → S j) → ft' i k → ft' j k → i = j) : HM D C ρ' ft' h' w' where
  at_ i B hi := by
    by_cases hs : i < h.length ∧ ¬ S i
    · obtain ⟨hl, hn⟩ := hs
      obtain ⟨e, hf⟩ := hsame i hl hn
      rw [e] at hi
      obtain ⟨h1, h2⟩ := hm.at_ i B hi
      refine ⟨?_, inside_mono hlen h2⟩
      have h3 := hold_env h1 hρ hl h2
      have h4 : hold D C ρ' i (ft i) w' B := hold_keep h3 fun k hk' => hk.block k (hm.lt i k hk') (fun ⟨j, hj, hjk⟩ => hn (by rw [hm.apart i j k hk' hjk]; exact hj))
      have : ft' i = ft i := funext fun k => propext (hf k)
      grind
    grind
  lt i k hi := by
    by_cases hs : i < h.length ∧ ¬ S i
    · exact Nat.lt_of_lt_of_le (hm.lt i k (((hsame i hs.1 hs.2).2 k).1 hi)) hk.size
    grind
  fresh i k hi := by
    by_cases hs : i < h.length ∧ ¬ S i
    · exact hm.fresh i k (((hsame i hs.1 hs.2).2 k).1 hi)
    · rcases (hin i k (fun hl => Classical.byContradiction fun hn => hs ⟨hl, hn⟩) hi).1 with ⟨j, _, hj⟩ | hge
      · exact hm.fresh j k hj
      · exact Or.inr (Nat.le_trans hm.kept.size hge)
  apart i j k hi hj := by
    by_cases hs : i < h.length ∧ ¬ S i <;> by_cases hs' : j < h.length ∧ ¬ S j
    · exact hm.apart i j k (((hsame i hs.1 hs.2).2 k).1 hi) (((hsame j hs'.1 hs'.2).2 k).1 hj)
    · have hi' := ((hsame i hs.1 hs.2).2 k).1 hi
      rcases (hin j k (fun hl => Classical.byContradiction fun hn => hs' ⟨hl, hn⟩) hj).1 with ⟨l, hl, hlk⟩ | hge
      · exact absurd hl (by rw [← hm.apart i l k hi' hlk]; exact hs.2)
      · have := hm.lt i k hi'; omega
    · have hj' := ((hsame j hs'.1 hs'.2).2 k).1 hj
      rcases (hin i k (fun hl => Classical.byContradiction fun hn => hs ⟨hl, hn⟩) hi).1 with ⟨l, hl, hlk⟩ | hge
      · exact absurd hl (by rw [← hm.apart j l k hj' hlk]; grind)
      · have := hm.lt j k hj'; omega
    grind
  some_ i k hi := by
    by_cases hs : i < h.length ∧ ¬ S i
    · obtain ⟨e, hf⟩ := hsame i hs.1 hs.2
      rw [e]
      exact hm.some_ i k ((hf k).1 hi)
    grind
  kept := hm.kept.trans hk fun k hk' ⟨j, _, hj⟩ => by
    rcases hm.fresh j k hj with hu | hge
    all_goals omega
  gl := hm.gl
def upd {α : Type} (f : Nat → α) (n : Nat) (a : α) : Nat → α := fun i => if i = n then a else f i
theorem upd_same {α : Type} (f : Nat → α) (n : Nat) (a : α) : upd f n a n = a := by simp [upd]
theorem upd_lt {α : Type} (f : Nat → α) (n : Nat) (a : α) {i : Nat} (hi : i < n) : upd f n a i = f i := by grind[upd]
theorem upd_ne {α : Type} (f : Nat → α) (n : Nat) (a : α) {i : Nat} (hi : i ≠ n) : upd f n a i = f i := by simp [upd, hi]
/-- a new block -/
theorem HM.push (hm : HM D C ρ ft h w) (p : Place) (o : Obj) (hp : p.blk = w.heap.size) (B : SB R) (hB : hold D C (upd ρ h.length p) h.length (fun k => k = w.heap.size) (w.alloc o) B) (hs : inside (h.length + 1) B) :
    HM D C (upd ρ h.length p) (upd ft h.length (fun k => k = w.heap.size)) (h ++ [some B]) (w.alloc o) := by
  refine hm.step (fun _ => False) ((Kept.refl _ _).alloc _) (fun i hi => upd_lt _ _ _ hi) (by simp) ?_ ?_ ?_ ?_
  · intro i B' hi hB'
    have hge : h.length ≤ i := Nat.le_of_not_lt hi
    have : i = h.length := by
      grind
    grind[upd_same]
  · simp_all[List.getElem?_append_left,upd_lt]
  · intro i k hi hk
    have hge : h.length ≤ i := Nat.le_of_not_lt hi
    by_cases he : i = h.length
    · simp_all[upd_same]
    · rw [upd_ne _ _ _ he] at hk
      obtain ⟨B', hB'⟩ := hm.some_ i k hk
      grind
  · intro i j k hi hj hki hkj
    have key : ∀ l, h.length ≤ l → upd ft h.length (fun k => k = w.heap.size) l k → l = h.length := fun l hl hlk => by
      refine Classical.byContradiction fun he => ?_
      rw [upd_ne _ _ _ he] at hlk
      obtain ⟨B', hB'⟩ := hm.some_ l k hlk
      grind
    grind
/-- a number that no block has -/
theorem HM.pushNone (hm : HM D C ρ ft h w) (p : Place) : HM D C (upd ρ h.length p) ft (h ++ [none]) w := by
  refine hm.step (fun _ => False) (Kept.refl _ _) (fun i hi => upd_lt _ _ _ hi) (by simp) ?_ ?_ ?_ ?_
  · grind
  · grind
  · intro i k hi hk
    obtain ⟨B', hB'⟩ := hm.some_ i k hk
    grind
  · intro i j k hi hj hki hkj
    exact hm.apart i j k hki hkj
/-- one block is written -/
theorem HM.put (hm : HM D C ρ ft h w) {i : Nat} {B0 : SB R} (hi : h[i]? = some (some B0)) (hk : Kept (ft i) w w') (B : SB R) (F : Nat → Prop) (hB : hold D C ρ i F w' B) (hs : inside h.length B)
    (hF : ∀ k, F k → (ft i k ∨ w.heap.size ≤ k) ∧ k < w'.heap.size) : HM D C ρ (upd ft i F) (h.set i (some B)) w' := by
  have hl : i < h.length := (List.getElem?_eq_some_iff.1 hi).1
  refine hm.step (fun j => j = i) (hk.mono fun k hk => ⟨i, rfl, hk⟩) (fun _ _ => rfl) (by simp) ?_ ?_ ?_ ?_
  · grind[upd_same]
  · intro j hj hn
    refine ⟨List.getElem?_set_ne (fun e => hn e.symm), fun k => by rw [upd_ne _ _ _ hn]⟩
  · intro j k hj hk'
    by_cases he : j = i
    · simp_all[upd_same]
    · rw [upd_ne _ _ _ he] at hk'
      obtain ⟨B', hB'⟩ := hm.some_ j k hk'
      grind
  · intro a b k ha hb hka hkb
    have key : ∀ l, (l < h.length → l = i) → upd ft i F l k → l = i := fun l hl' hlk => by
      refine Classical.byContradiction fun he => ?_
      rw [upd_ne _ _ _ he] at hlk
      obtain ⟨B', hB'⟩ := hm.some_ l k hlk
      grind
    grind
/-- one block is given up -/
theorem HM.drop (hm : HM D C ρ ft h w) (i : Nat) : HM D C ρ (upd ft i (fun _ => False)) (h.set i none) w := by
  refine hm.step (fun j => j = i) (Kept.refl _ _) (fun _ _ => rfl) (by simp) ?_ ?_ ?_ ?_
  · grind
  · intro j hj hn
    refine ⟨List.getElem?_set_ne (fun e => hn e.symm), fun k => by rw [upd_ne _ _ _ hn]⟩
  · intro j k hj hk'
    by_cases he : j = i
    · grind[upd_same]
    · rw [upd_ne _ _ _ he] at hk'
      obtain ⟨B', hB'⟩ := hm.some_ j k hk'
      grind
  · intro a b k ha hb hka hkb
    have key : ∀ l, upd ft i (fun _ => False) l k → ft l k := fun l hlk => by
      by_cases he : l = i
      all_goals simp_all[upd_same,upd_ne]
    exact hm.apart a b k (key a hka) (key b hkb)
end
end Go.Proofs.YtobdpddamdkabaaDoor.Rx
namespace Go.Proofs.YtobdpddamdkabaaDoor.Rx
open Go.RowKit Go.Proofs.YtobdpddamdkabaaDoor.State
set_option linter.unusedVariables false
set_option linter.unusedSimpArgs false

/-- the frame of a run (values not known are none), the truths that are known of it, and its heap -/
structure SS (R : Type) where
  tm : List (Option Value)
  li : List (Nat × Bool)
  hp : Hp R
/-- what an operation yields: what must hold of it; its value; the truth that it is known to be; the heap; where it read and wrote -/
structure Out (R : Type) where
  vc : Prop
  v : Value
  lit : Option Bool
  hp : Hp R
  rd : List (Nat × Nat)
  wr : List (Nat × Nat)
/-- the frame, and the run's -/
structure TM (ρ : Env) (n : Nat) (tm : List (Option Value)) (a : Act) : Prop where
  size : a.tmps.size = tm.length
  val : ∀ (t : Nat) (v : Value), tm[t]? = some (some v) → a.tmps[t]? = some (ren ρ v) ∧ inb n v = true
def LI (li : List (Nat × Bool)) (tm : List (Option Value)) : Prop := ∀ (t : Nat) (b : Bool), (t, b) ∈ li → tm[t]? = some (some (.bool b))
def ev (tm : List (Option Value)) : Operand → Option Value
  | .tmp t => match tm[t]? with
    | some (some v) => some v
    | _ => none
  | .const v => if flat v then some v else none
  | .func f => some (.func (.func f) #[] #[])
  | .global _ => none
def look (li : List (Nat × Bool)) (t : Nat) : Option Bool :=
  match li with
  | [] => none
  | (u, b) :: l => if Nat.beq u t then some b else look l t
def litOf (li : List (Nat × Bool)) : Operand → Option Bool
  | .tmp t => look li t
  | .const (.bool b) => some b
  | _ => none
section
variable {R : Type} {D : Res R} {P : Program}
theorem look_mem {li : List (Nat × Bool)} {t : Nat} {b : Bool} (h : look li t = some b) : (t, b) ∈ li := by
  induction li with
  | nil => cases h
  | cons p l ih =>
    grind[look,Nat.eq_of_beq_eq_true]
theorem ev_eval {ρ : Env} {n : Nat} {tm : List (Option Value)} {a : Act} {x : Operand} {v : Value} (ht : TM ρ n tm a) (h : ev tm x = some v) : a.eval x = ren ρ v ∧ inb n v = true := by
  cases x with
  | tmp t =>
    simp only [ev] at h
    split at h
    · rename_i u hu
      injection h with h
      subst h
      obtain ⟨h1, h2⟩ := ht.val t u hu
      exact ⟨by simp [Act.eval, h1], h2⟩
    · cases h
  | const u =>
    simp only [ev] at h
    split at h
    · rename_i hf
      injection h with h
      subst h
      exact ⟨by simp [Act.eval, flat_ren u hf], flat_inb u hf⟩
    · cases h
  | func f =>
    injection h with h
    subst h
    exact ⟨by rfl, by rfl⟩
  | global g => cases h
theorem lit_ev {li : List (Nat × Bool)} {tm : List (Option Value)} {x : Operand} {b : Bool} (hl : LI li tm) (h : litOf li x = some b) : ev tm x = some (.bool b) := by
  cases x with
  | tmp t =>
    have := hl t b (look_mem h)
    grind[ev]
  | const u =>
    cases u <;> simp only [litOf] at h <;> try cases h
    rfl
  | func f => cases h
  | global g => cases h
/-- what an operation yields is so -/
structure OpOk (D : Res R) (P : Program) (o : Oper) (σ : SS R) (x : Out R) : Prop where
  run : ∀ C ρ ft a w K Q, TM ρ σ.hp.length σ.tm a → LI σ.li σ.tm → HM D C ρ ft σ.hp w → x.vc →
    (∀ ρ' ft' w', (∀ i, i < σ.hp.length → ρ' i = ρ i) → HM D C ρ' ft' x.hp w' → K (a.put o.dst (ren ρ' x.v)) w') → o.wp P a w K Q
  len : σ.hp.length ≤ x.hp.length
  lit : LI σ.li σ.tm → ∀ b, x.lit = some b → x.v = .bool b
theorem wp_value {o : Oper} {a : Act} {w w' : World} {v : Value} {K : Act → World → Prop} {Q : Exit → Act → World → Prop} (h : (execOp a.eval o).run P w = .ok (.value v) w') (hk : K (a.put o.dst v) w') : o.wp P a w K Q := by
  simp only [Oper.wp, h, Oper.upon]; exact hk
theorem wp_skip' {o : Oper} {a : Act} {w w' : World} {K : Act → World → Prop} {Q : Exit → Act → World → Prop} (h : (execOp a.eval o).run P w = .ok .skip w') (hk : K (a.put o.dst undef) w') : o.wp P a w K Q := by
  simp only [Oper.wp, h, Oper.upon]; exact hk
/-- a quiet yield: the value, nothing else -/
def quietOut (σ : SS R) (vc : Prop) (v : Value) (lit : Option Bool) (rd : List (Nat × Nat)) : Out R := ⟨vc, v, lit, σ.hp, rd, []⟩
theorem quiet_ok {o : Oper} {σ : SS R} {vc : Prop} {v : Value} {lit : Option Bool} {rd : List (Nat × Nat)}
    (h : ∀ C ρ ft a w, TM ρ σ.hp.length σ.tm a → LI σ.li σ.tm → HM D C ρ ft σ.hp w → vc → (execOp a.eval o).run P w = .ok (.value (ren ρ v)) w)
    (hl : LI σ.li σ.tm → ∀ b, lit = some b → v = .bool b) : OpOk D P o σ (quietOut σ vc v lit rd) where
  run C ρ ft a w K Q ht hli hm hv hk := wp_value (h C ρ ft a w ht hli hm hv) (hk ρ ft w (fun _ _ => rfl) hm)
  len := Nat.le_refl _
  lit := hl

/-- operations that ask nothing of the world -/
def pureRun {α : Type} (P : Program) : Sem α → Option α
  | .pure a => some a
  | .program k => pureRun P (k P)
  | .mark _ k => pureRun P k
  | _ => none
theorem pureRun_run {α : Type} {P : Program} (s : Sem α) {a : α} (h : pureRun P s = some a) (w : World) : s.run P w = .ok a w := by
  induction s generalizing w with
  | pure b => simp_all[pureRun]
  | program k ih => simp only [pureRun] at h; simp only [Sem.run]; grind
  | mark m k ih => simp only [pureRun] at h; simp only [Sem.run]; grind
  | _ => simp only [pureRun] at h; cases h
def evf (tm : List (Option Value)) (x : Operand) : Value := (ev tm x).getD undef
def flatOp (tm : List (Option Value)) (x : Operand) : Bool :=
  match ev tm x with
  | some v => flat v
  | none => false
def flatAll (tm : List (Option Value)) : List Operand → Bool
  | [] => true
  | x :: l => flatOp tm x && flatAll tm l
theorem flatAll_mem {tm : List (Option Value)} {l : List Operand} (h : flatAll tm l = true) {x : Operand} (hx : x ∈ l) : ∃ v, ev tm x = some v ∧ flat v = true := by
  induction l with
  | nil => cases hx
  | cons y l ih =>
    simp only [flatAll, Bool.and_eq_true] at h
    grind[flatOp]
def noSelect : Op → Bool
  | .select _ _ => false
  | _ => true
def opPure (P : Program) (σ : SS R) (o : Oper) : Option (Out R) :=
  if noSelect o.op && flatAll σ.tm o.op.operands.toList then
    match pureRun P (execOp (evf σ.tm) o) with
    | some (.value v) => if flat v then some (quietOut σ True v none []) else none
    | _ => none
  else none
theorem opPure_ok {σ : SS R} {o : Oper} {x : Out R} (h : opPure P σ o = some x) : OpOk D P o σ x := by
  unfold opPure at h
  split at h
  · rename_i hc
    simp only [Bool.and_eq_true] at hc
    split at h
    · rename_i v hp
      split at h
      · injection h with h
        subst h
        refine quiet_ok (fun C ρ ft a w ht hli hm _ => ?_) (fun _ b hb => by cases hb)
        have e : execOp a.eval o = execOp (evf σ.tm) o := by
          refine execOp_congr o (fun cs b hs => ?_) (fun y hy => ?_)
          · grind[noSelect]
          · obtain ⟨u, hu, hfu⟩ := flatAll_mem hc.2 (Array.mem_toList_iff.2 hy)
            rw [(ev_eval ht hu).1, flat_ren u hfu]
            simp [evf, hu]
        grind[pureRun_run,flat_ren]
      · cases h
    · cases h
  · cases h
/-- move, assign -/
def opMove (σ : SS R) (x : Operand) : Option (Out R) :=
  match ev σ.tm x with
  | some v => some (quietOut σ True v (litOf σ.li x) [])
  | none => none
theorem opMove_ok {σ : SS R} {o : Oper} {y : Operand} {x : Out R} (ho : o.op = .move y ∨ o.op = .assign y) (h : opMove σ y = some x) : OpOk D P o σ x := by
  unfold opMove at h
  split at h
  · rename_i v hv
    injection h with h
    subst h
    refine quiet_ok (fun C ρ ft a w ht hli hm _ => ?_) (fun hli b hb => ?_)
    · rw [← (ev_eval ht hv).1]
      rcases ho with ho | ho <;> simp [execOp, ho]
    grind[lit_ev]
  · cases h
/-- the choice between two by a truth -/
def opPick (σ : SS R) (c y z : Operand) : Option (Out R) :=
  match litOf σ.li c with
  | some true => opMove σ y
  | some false => opMove σ z
  | none =>
    match ev σ.tm c, ev σ.tm y, ev σ.tm z with
    | some (.bool c), some (.bool y), some (.bool z) => some (quietOut σ True (.bool (if c then y else z)) none [])
    | _, _, _ => none
theorem opPick_ok {σ : SS R} {o : Oper} {c y z : Operand} {x : Out R} (ho : o.op = .pick c y z) (h : opPick σ c y z = some x) : OpOk D P o σ x := by
  unfold opPick at h
  split at h
  · rename_i hl
    unfold opMove at h
    split at h
    · rename_i v hv
      injection h with h
      subst h
      refine quiet_ok (fun C ρ ft a w ht hli hm _ => ?_) (fun hli b hb => ?_)
      · have h1 := (ev_eval ht (lit_ev hli hl)).1
        rw [← (ev_eval ht hv).1]
        simp [execOp, ho, h1, asBool]
      grind[lit_ev]
    · cases h
  · rename_i hl
    unfold opMove at h
    split at h
    · rename_i v hv
      injection h with h
      subst h
      refine quiet_ok (fun C ρ ft a w ht hli hm _ => ?_) (fun hli b hb => ?_)
      · have h1 := (ev_eval ht (lit_ev hli hl)).1
        rw [← (ev_eval ht hv).1]
        simp [execOp, ho, h1, asBool]
      grind[lit_ev]
    · cases h
  · split at h
    · rename_i c' y' z' hc hy hz
      injection h with h
      subst h
      refine quiet_ok (fun C ρ ft a w ht hli hm _ => ?_) (fun hli b hb => by cases hb)
      have h1 := (ev_eval ht hc).1
      have h2 := (ev_eval ht hy).1
      have h3 := (ev_eval ht hz).1
      simp [execOp, ho, h1, h2, h3, asBool]
    · cases h
/-- not -/
def opNot (σ : SS R) (y : Operand) : Option (Out R) :=
  match ev σ.tm y with
  | some (.bool b) => some (quietOut σ True (.bool (!b)) ((litOf σ.li y).map (!·)) [])
  | _ => none
theorem opNot_ok {σ : SS R} {o : Oper} {t : TypeId} {y : Operand} {x : Out R} (ho : o.op = .unOp .not t y) (h : opNot σ y = some x) : OpOk D P o σ x := by
  unfold opNot at h
  split at h
  · rename_i b hb
    injection h with h
    subst h
    refine quiet_ok (fun C ρ ft a w ht hli hm _ => ?_) (fun hli c hc => ?_)
    · have h1 := (ev_eval ht hb).1
      simp [execOp, ho, h1, Op.unary]
    · cases hl : litOf σ.li y with
      | none => grind
      | some d =>
        have := lit_ev hli hl
        grind
  · cases h
/-- a check against nil -/
def opNil (σ : SS R) (y : Operand) : Option (Out R) :=
  match ev σ.tm y with
  | some (.pointer (some p)) => some (quietOut σ True (.pointer (some p)) none [])
  | some (.func (.func f) xs ys) => some (quietOut σ True (.func (.func f) xs ys) none [])
  | _ => none
theorem opNil_ok {σ : SS R} {o : Oper} {y : Operand} {x : Out R} (ho : o.op = .nilCheck y) (h : opNil σ y = some x) : OpOk D P o σ x := by
  unfold opNil at h
  split at h
  · rename_i p hp
    injection h with h
    subst h
    refine quiet_ok (fun C ρ ft a w ht hli hm _ => ?_) (fun hli c hc => by cases hc)
    have h1 := (ev_eval ht hp).1
    simp [execOp, ho, h1, ren]
  · rename_i f xs ys hp
    injection h with h
    subst h
    refine quiet_ok (fun C ρ ft a w ht hli hm _ => ?_) (fun hli c hc => by cases hc)
    have h1 := (ev_eval ht hp).1
    simp [execOp, ho, h1, ren]
  · cases h
/-- the parts of a tuple -/
def opExtract (σ : SS R) (y : Operand) (k : Nat) : Option (Out R) :=
  match ev σ.tm y with
  | some (.tuple ⟨l⟩) => match l[k]? with
    | some v => some (quietOut σ True v none [])
    | none => none
  | _ => none
theorem opExtract_ok {σ : SS R} {o : Oper} {y : Operand} {k : Nat} {x : Out R} (ho : o.op = .extract y k) (h : opExtract σ y k = some x) : OpOk D P o σ x := by
  unfold opExtract at h
  split at h
  · rename_i l hl
    split at h
    · rename_i v hv
      injection h with h
      subst h
      refine quiet_ok (fun C ρ ft a w ht hli hm _ => ?_) (fun hli c hc => by cases hc)
      have h1 := (ev_eval ht hl).1
      rw [ren_tuple] at h1
      simp [execOp, ho, h1, Instr.extract, hv]
    · cases h
  · cases h
/-- == and != of what is nil and what may be -/
def nilKind (P : Program) (t : TypeId) : Value → Value → Option Bool
  | .pointer p, .pointer none | .pointer none, .pointer p =>
    match P.underlying t with
    | some (.pointer _) => some (match p with | none => true | some _ => false)
    | _ => none
  | .slice none _ _, .slice none _ _ =>
    match P.underlying t with
    | some (.slice _) => some true
    | _ => none
  | .slice (some ⟨_, _, none⟩) _ _, .slice none _ _ =>
    match P.underlying t with
    | some (.slice _) => some false
    | _ => none
  | .func _ _ _, .nilFunc =>
    match P.underlying t with
    | some (.func _ _ _) => some false
    | _ => none
  | .nilFunc, .nilFunc =>
    match P.underlying t with
    | some (.func _ _ _) => some true
    | _ => none
  | _, _ => none
def opEqNil (P : Program) (σ : SS R) (neg : Bool) (t : TypeId) (y z : Operand) : Option (Out R) :=
  match ev σ.tm y, ev σ.tm z with
  | some u, some v => match nilKind P t u v with
    | some b => some (quietOut σ True (.bool (Bool.xor b neg)) (some (Bool.xor b neg)) [])
    | none => none
  | _, _ => none
theorem nilKind_run {t : TypeId} {u v : Value} {b : Bool} (h : nilKind P t u v = some b) (ρ : Env) (w : World) : (Op.equal t (ren ρ u) (ren ρ v)).run P w = .ok b w := by
  have key : ∀ (d : Nat), (Op.equalIn (d + 1) t (ren ρ u) (ren ρ v)).run P w = .ok b w := by
    intro d
    unfold nilKind at h
    split at h
    · rename_i p
      split at h
      · rename_i hu
        injection h with h
        subst h
        cases p <;> simp [Op.equalIn, run_underlying hu, ren]
      · cases h
    · rename_i p _
      split at h
      · rename_i hu
        injection h with h
        subst h
        cases p <;> simp [Op.equalIn, run_underlying hu, ren]
      · cases h
    · split at h
      · rename_i hu
        injection h with h
        subst h
        simp [Op.equalIn, run_underlying hu, ren]
      · cases h
    · split at h
      · rename_i hu
        injection h with h
        subst h
        simp [Op.equalIn, run_underlying hu, ren, renS]
      · cases h
    · rename_i fn f c
      split at h
      · rename_i hu
        injection h with h
        subst h
        simp [Op.equalIn, run_underlying hu, ren]
      · cases h
    · split at h
      · rename_i hu
        injection h with h
        subst h
        simp [Op.equalIn, run_underlying hu, ren]
      · cases h
    · cases h
  exact key 9999
theorem opEqNil_ok {σ : SS R} {o : Oper} {neg : Bool} {t t' : TypeId} {y z : Operand} {x : Out R} (ho : o.op = .binOp (if neg then .neq else .eql) t y z t') (h : opEqNil P σ neg t y z = some x) : OpOk D P o σ x := by
  unfold opEqNil at h
  split at h
  · rename_i u v hu hv
    split at h
    · rename_i b hb
      injection h with h
      subst h
      refine quiet_ok (fun C ρ ft a w ht hli hm _ => ?_) (fun hli c hc => by grind)
      have h1 := (ev_eval ht hu).1
      have h2 := (ev_eval ht hv).1
      have hr := nilKind_run hb ρ w
      have hg : ∀ op, (eqGuard op t y z (ren ρ u) (ren ρ v)).run P w = .ok () w := by
        intro op
        unfold nilKind at hb
        split at hb
        all_goals first
          | cases hb
          | skip
        · rename_i p
          cases p <;> cases op <;> simp [eqGuard, ren]
        · rename_i p _
          cases p <;> cases op <;> simp [eqGuard, ren]
        · cases op <;> simp [eqGuard, ren]
        · cases op <;> simp [eqGuard, ren, renS]
        · rename_i fn f c
          cases op <;> simp [eqGuard, ren]
        · cases op <;> simp [eqGuard, ren]
      have hb2 : ∀ op, (op = .eql ∨ op = .neq) → (binOp op t (ren ρ u) (ren ρ v)).run P w = .ok (.bool (Bool.xor b (op == .neq))) w := by
        intro op hop
        have q1 : (BinOp.eql == BinOp.neq) = false := by decide
        have q2 : (BinOp.neq == BinOp.neq) = true := by decide
        unfold nilKind at hb
        rcases hop with rfl | rfl
        all_goals
          split at hb
          all_goals first
            | cases hb
            | skip
          · rename_i p
            cases p <;> simp [binOp, ren] at hr ⊢ <;> simp [hr, q1, q2]
          · rename_i p _
            cases p <;> simp [binOp, ren] at hr ⊢ <;> simp [hr, q1, q2]
          · simp [binOp, ren] at hr ⊢; simp [hr, q1, q2]
          · simp [binOp, ren, renS] at hr ⊢; simp [hr, q1, q2]
          · rename_i fn f c
            obtain ⟨f⟩ := f
            obtain ⟨c⟩ := c
            simp [binOp, ren] at hr ⊢; simp [hr, q1, q2]
          · simp [binOp, ren] at hr ⊢; simp [hr, q1, q2]
      cases neg with
      | false =>
        have h3 := hb2 .eql (Or.inl rfl)
        have h4 := hg .eql
        have q1 : (BinOp.eql == BinOp.neq) = false := by decide
        simp [execOp, ho, h1, h2, h3, h4, q1]
      | true =>
        have h3 := hb2 .neq (Or.inr rfl)
        have h4 := hg .neq
        simp [execOp, ho, h1, h2, h3, h4]
    · cases h
  · cases h
/-- == and != of two pointers to the first cells of blocks: own tells which blocks hold their first cell -/
def opEqPtr (P : Program) (σ : SS R) (own : Option (Option (SB R)) → Bool) (neg : Bool) (t : TypeId) (y z : Operand) : Option (Out R) :=
  match ev σ.tm y, ev σ.tm z with
  | some (.pointer (some ⟨i, 0, none⟩)), some (.pointer (some ⟨j, 0, none⟩)) =>
    match P.underlying t with
    | some (.pointer el) => match P.info? el with
      | some inf =>
        if Nat.blt 0 inf.size then
          match Nat.beq i j with
          | true => some (quietOut σ True (.bool (Bool.xor true neg)) (some (Bool.xor true neg)) [])
          | false => if own σ.hp[i]? && own σ.hp[j]? then some (quietOut σ True (.bool (Bool.xor false neg)) (some (Bool.xor false neg)) []) else none
        else none
      | none => none
    | _ => none
  | _, _ => none
theorem opEqPtr_ok {own : Option (Option (SB R)) → Bool} (hown : ∀ {C : Ctx} {ρ : Env} {ft : Nat → Nat → Prop} {h : Hp R} {w : World} {i : Nat}, HM D C ρ ft h w → own h[i]? = true → ft i (ρ i).blk ∧ ∃ ca ta, w.heap[(ρ i).blk]? = some (.cells ca ta (0, 0)))
    {σ : SS R} {o : Oper} {neg : Bool} {t t' : TypeId} {y z : Operand} {x : Out R} (ho : o.op = .binOp (if neg then .neq else .eql) t y z t') (h : opEqPtr P σ own neg t y z = some x) : OpOk D P o σ x := by
  unfold opEqPtr at h
  split at h
  · rename_i i j hu hv
    split at h
    · rename_i el ht
      split at h
      · rename_i inf hinf
        split at h
        · rename_i hsz
          have hsz0 : ¬ inf.size = 0 := by have : 0 < inf.size := by simp_all
                                           omega
          have key : ∀ (b : Bool), some (quietOut σ True (.bool (Bool.xor b neg)) (some (Bool.xor b neg)) []) = some x →
              (∀ {C : Ctx} {ρ : Env} {ft : Nat → Nat → Prop} {w : World}, HM D C ρ ft σ.hp w → (sameAddr (renA ρ ⟨i, 0, none⟩) (renA ρ ⟨j, 0, none⟩)).run P w = .ok b w) → OpOk D P o σ x := by
            intro b h hb
            injection h with h
            subst h
            refine quiet_ok (fun C ρ ft a w ht' hli hm _ => ?_) (fun hli c hc => by grind)
            have h1 := (ev_eval ht' hu).1
            have h2 := (ev_eval ht' hv).1
            have h5 := hb hm
            have hr : (Op.equal t (.pointer (some (renA ρ ⟨i, 0, none⟩))) (.pointer (some (renA ρ ⟨j, 0, none⟩)))).run P w = .ok b w := by
              have q : ∀ d, (Op.equalIn (d + 1) t (.pointer (some (renA ρ ⟨i, 0, none⟩))) (.pointer (some (renA ρ ⟨j, 0, none⟩)))).run P w = .ok b w := fun d => by
                simp [Op.equalIn, run_underlying ht, sizeOf, typeInfo, hinf, hsz0, h5]
              exact q 9999
            cases neg with
            | false =>
              have q1 : (BinOp.eql == BinOp.neq) = false := by decide
              simp [execOp, ho, h1, h2, eqGuard, binOp, hr, q1, ren]
            | true =>
              have q2 : (BinOp.neq == BinOp.neq) = true := by decide
              simp [execOp, ho, h1, h2, eqGuard, binOp, hr, q2, ren]
          split at h
          · simp_all[run_sameAddr_same]
          · rename_i hb
            split at h
            · rename_i hc
              simp only [Bool.and_eq_true] at hc
              refine key false h (fun {C ρ ft w} hm => ?_)
              obtain ⟨g1, c1, t1, e1⟩ := hown hm hc.1
              obtain ⟨g2, c2, t2, e2⟩ := hown hm hc.2
              refine run_sameAddr_other (ca := c1) (cb := c2) (ta := t1) (tb := t2) _ (fun e => ?_) e1 e2
              simp only [renA, Addr.mk.injEq] at e
              rw [e.1] at g1
              have := hm.apart _ _ _ g1 g2
              simp_all
            · cases h
        · cases h
      · cases h
    · cases h
  · cases h
end
end Go.Proofs.YtobdpddamdkabaaDoor.Rx
namespace Go.Proofs.YtobdpddamdkabaaDoor.Rx
open Go.RowKit Go.Proofs.YtobdpddamdkabaaDoor.State
set_option linter.unusedVariables false
set_option linter.unusedSimpArgs false

structure fits (n : Int) : Prop where
  lo : -9223372036854775808 ≤ n
  hi : n ≤ 9223372036854775807
theorem fits_wrap {n : Int} (h : fits n) : IntKind.i64.wrap n = n := by rw [IntKind.wrap_i64]; have := h.lo; have := h.hi; omega
section
variable {R : Type} {D : Res R} {P : Program} {C : Ctx} {ρ : Env} {ft : Nat → Nat → Prop} {w w' : World}
/-- + - * / % on ints, where they fit -/
def opInt (σ : SS R) (op : BinOp) (y z : Operand) : Option (Out R) :=
  match ev σ.tm y, ev σ.tm z with
  | some (.int .i64 a), some (.int .i64 b) =>
    match op with
    | .add => some (quietOut σ (fits (a + b)) (.int .i64 (a + b)) none [])
    | .sub => some (quietOut σ (fits (a - b)) (.int .i64 (a - b)) none [])
    | .mul => some (quietOut σ (fits (a * b)) (.int .i64 (a * b)) none [])
    | .quo => some (quietOut σ (b ≠ 0 ∧ fits (a.tdiv b)) (.int .i64 (a.tdiv b)) none [])
    | .rem => some (quietOut σ (b ≠ 0) (.int .i64 (a.tmod b)) none [])
    | _ => none
  | _, _ => none
theorem opInt_ok {σ : SS R} {o : Oper} {op : BinOp} {t t' : TypeId} {y z : Operand} {x : Out R} (ho : o.op = .binOp op t y z t') (h : opInt σ op y z = some x) : OpOk D P o σ x := by
  unfold opInt at h
  split at h
  · rename_i a b ha hb
    cases op <;> simp only at h <;> try cases h
    all_goals
      refine quiet_ok (fun C ρ ft ac w ht hli hm hv => ?_) (fun hli c hc => by cases hc)
      have h1 := (ev_eval ht ha).1
      have h2 := (ev_eval ht hb).1
      simp only [ren_int] at h1 h2
      simp only [execOp, ho, h1, h2, ren_int]
    · simp [eqGuard, binOp, Op.intArith, fits_wrap hv]
    · simp [eqGuard, binOp, Op.intArith, fits_wrap hv]
    · simp [eqGuard, binOp, Op.intArith, fits_wrap hv]
    · simp [eqGuard, binOp, Op.intDiv, fits_wrap hv.2, hv.1]
    · simp [eqGuard, binOp, Op.intDiv, hv]
  · cases h
/-- << and >> -/
def opShift (σ : SS R) (op : BinOp) (y z : Operand) : Option (Out R) :=
  match ev σ.tm y, ev σ.tm z with
  | some (.int k a), some (.int _ b) =>
    match op with
    | .shl => some (quietOut σ (0 ≤ b) (.int k (k.wrap (a * 2 ^ min b.toNat k.bits))) none [])
    | .shr => some (quietOut σ (0 ≤ b) (.int k (a.fdiv (2 ^ min b.toNat k.bits))) none [])
    | _ => none
  | _, _ => none
/-- and, or, xor, and not, of numbers -/
def opBits (σ : SS R) (op : BinOp) (y z : Operand) : Option (Out R) :=
  match ev σ.tm y, ev σ.tm z with
  | some (.int k a), some (.int k' b) => if k = k' then
      match op with
      | .and => some (quietOut σ True (.int k (bits .and k a b)) none [])
      | .or => some (quietOut σ True (.int k (bits .or k a b)) none [])
      | .xor => some (quietOut σ True (.int k (bits .xor k a b)) none [])
      | .andNot => some (quietOut σ True (.int k (bits .andNot k a b)) none [])
      | _ => none
    else none
  | _, _ => none
theorem opBits_ok {σ : SS R} {o : Oper} {op : BinOp} {t t' : TypeId} {y z : Operand} {x : Out R} (ho : o.op = .binOp op t y z t') (h : opBits σ op y z = some x) : OpOk D P o σ x := by
  unfold opBits at h
  split at h
  · rename_i k a k' b ha hb
    split at h
    · rename_i hk
      subst hk
      cases op <;> simp only at h <;> try cases h
      all_goals
        refine quiet_ok (fun C ρ ft ac w ht hli hm hv => ?_) (fun hli c hc => by cases hc)
        have h1 := (ev_eval ht ha).1
        have h2 := (ev_eval ht hb).1
        simp only [ren_int] at h1 h2
        simp only [execOp, ho, h1, h2, ren_int]
        simp [eqGuard, binOp, Op.intBits, bits]
    · cases h
  · cases h
theorem opShift_ok {σ : SS R} {o : Oper} {op : BinOp} {t t' : TypeId} {y z : Operand} {x : Out R} (ho : o.op = .binOp op t y z t') (h : opShift σ op y z = some x) : OpOk D P o σ x := by
  unfold opShift at h
  split at h
  · rename_i k a k' b ha hb
    cases op <;> simp only at h <;> try cases h
    all_goals
      refine quiet_ok (fun C ρ ft ac w ht hli hm hv => ?_) (fun hli c hc => by cases hc)
      have h1 := (ev_eval ht ha).1
      have h2 := (ev_eval ht hb).1
      simp only [ren_int] at h1 h2
      simp only [execOp, ho, h1, h2, ren_int]
      have hn : ¬ b < 0 := by omega
      simp [eqGuard, binOp, Op.shift, hn]
  · cases h
/-- texts joined -/
def opCat (σ : SS R) (y z : Operand) : Option (Out R) :=
  match ev σ.tm y, ev σ.tm z with
  | some (.string a), some (.string b) => some (quietOut σ (a.size + b.size ≤ 9223372036854775807) (.string (a ++ b)) none [])
  | _, _ => none
theorem opCat_ok {σ : SS R} {o : Oper} {t t' : TypeId} {y z : Operand} {x : Out R} (ho : o.op = .binOp .add t y z t') (h : opCat σ y z = some x) : OpOk D P o σ x := by
  unfold opCat at h
  split at h
  · rename_i a b ha hb
    injection h with h
    subst h
    refine quiet_ok (fun C ρ ft ac w ht hli hm hv => ?_) (fun hli c hc => by cases hc)
    have h1 := (ev_eval ht ha).1
    have h2 := (ev_eval ht hb).1
    have hm : ¬ ((a.size + b.size : Nat) : Int) > IntKind.i64.max := by
      have : IntKind.i64.max = 9223372036854775807 := by decide
      omega
    simp only [execOp, ho, h1, h2, ren_string]
    simp only [eqGuard, binOp, Op.stringOp, if_neg hm]
    simp
  · cases h
/-- structs, alike: plain fields; fields that are structs themselves, by `sub` -/
def eqF (P : Program) (sub : TypeId → List Value → List Value → Option Bool) (xs ys : List Value) : List Field → Option Bool
  | [] => some true
  | f :: fs =>
    if f.name ≠ "_" then
      match P.underlying f.type with
      | some (.struct _) =>
        match P.info? f.type with
        | some i =>
          match sub f.type ((xs.drop f.offset).take i.size) ((ys.drop f.offset).take i.size) with
          | some b => (eqF P sub xs ys fs).map fun r => b && r
          | none => none
        | none => none
      | u =>
        match u, xs[f.offset]?, ys[f.offset]? with
        | some (.int _), some (.int k a), some (.int k' b) => if k = k' then (eqF P sub xs ys fs).map fun r => (a == b) && r else none
        | some .bool, some (.bool a), some (.bool b) => (eqF P sub xs ys fs).map fun r => (a == b) && r
        | some .string, some (.string a), some (.string b) => (eqF P sub xs ys fs).map fun r => (a == b) && r
        | _, _, _ => none
    else eqF P sub xs ys fs
def eqD (P : Program) : Nat → TypeId → List Value → List Value → Option Bool
  | 0, _, _, _ => none
  | n + 1, t, xs, ys =>
    match P.underlying t with
    | some (.struct ⟨fs⟩) => if P.stoodInHeld t then none else eqF P (eqD P n) xs ys fs
    | _ => none
theorem part_agg {t : TypeId} {fs : Array Field} {i : TypeInfo} {xs : List Value} {off : Nat} (hu : P.underlying t = some (.struct fs)) (hi : P.info? t = some i) (w : World) : (part t ⟨xs⟩ off).run P w = .ok (.agg ⟨(xs.drop off).take i.size⟩) w := by
  have h1 : (isAgg t).run P w = .ok true w := by simp [isAgg, run_underlying hu]
  have h2 : (sizeOf t).run P w = .ok i.size w := by simp [sizeOf, typeInfo, hi]
  have h3 : ((⟨xs⟩ : Array Value).extract off (off + i.size)) = ⟨(xs.drop off).take i.size⟩ := by
    simp
  simp only [part, Sem.run_bind, h1, Result.andThen_ok, if_true, h2, Sem.run_pure, h3]
theorem eqF_run {sub : TypeId → List Value → List Value → Option Bool} {xs ys : List Value} (d : Nat) (w : World) (hsub : ∀ t a c b, sub t a c = some b → (Op.equalIn (d + 1) t (.agg ⟨a⟩) (.agg ⟨c⟩)).run P w = .ok b w) : ∀ (fs : List Field) (r : Bool), eqF P sub xs ys fs = some r → (Op.eqFields (d + 1) ⟨xs⟩ ⟨ys⟩ fs).run P w = .ok r w
  | [], r, h => by
    injection h with h
    subst h
    rfl
  | f :: fs, r, h => by
    simp only [eqF] at h
    simp only [Op.eqFields]
    have step0 : ∀ (b : Bool) (x y : Value), ((part f.type ⟨xs⟩ f.offset).run P w = .ok x w) → ((part f.type ⟨ys⟩ f.offset).run P w = .ok y w) → (Op.equalIn (d + 1) f.type x y).run P w = .ok b w → (eqF P sub xs ys fs).map (fun r => b && r) = some r →
        (do
          let a ← part f.type ⟨xs⟩ f.offset
          let b ← part f.type ⟨ys⟩ f.offset
          let r ← Op.equalIn (d + 1) f.type a b
          if (!r) = true then pure false else Op.eqFields (d + 1) ⟨xs⟩ ⟨ys⟩ fs : Sem Bool).run P w = .ok r w := by
      intro b x y hx hy he hr
      cases hq : eqF P sub xs ys fs with
      | none => grind
      | some r' =>
        rw [hq] at hr
        simp only [Option.map_some, Option.some.injEq] at hr
        have ih := eqF_run d w hsub fs r' hq
        simp only [Sem.run_bind, hx, hy, Result.andThen_ok, he]
        cases b with
        | true =>
          grind
        | false =>
          simp_all
    have step : ∀ (b : Bool) (x y : Value), ((isAgg f.type).run P w = .ok false w) → xs[f.offset]? = some x → ys[f.offset]? = some y → (Op.equalIn (d + 1) f.type x y).run P w = .ok b w → (eqF P sub xs ys fs).map (fun r => b && r) = some r →
        (do
          let a ← part f.type ⟨xs⟩ f.offset
          let b ← part f.type ⟨ys⟩ f.offset
          let r ← Op.equalIn (d + 1) f.type a b
          if (!r) = true then pure false else Op.eqFields (d + 1) ⟨xs⟩ ⟨ys⟩ fs : Sem Bool).run P w = .ok r w := by
      intro b x y hagg hx hy he hr
      refine step0 b x y ?_ ?_ he hr
      · simp only [part, Sem.run_bind, hagg, Result.andThen_ok, Bool.false_eq_true, if_false, List.getElem?_toArray, hx, Sem.run_pure]
      · simp only [part, Sem.run_bind, hagg, Result.andThen_ok, Bool.false_eq_true, if_false, List.getElem?_toArray, hy, Sem.run_pure]
    split at h
    · rename_i hn
      rw [if_pos hn]
      split at h
      · grind[part_agg]
      · split at h
        · rename_i k0 k a k' b hu hx hy
          split at h
          · rename_i hk
            subst hk
            exact step _ _ _ (by simp [isAgg, run_underlying hu]) hx hy (run_equalIn_int w d f.type k k0 a b hu) h
          · cases h
        · rename_i a b hu hx hy
          exact step _ _ _ (by simp [isAgg, run_underlying hu]) hx hy (run_equalIn_bool' w d f.type a b hu) h
        · rename_i a b hu hx hy
          refine step _ _ _ (by simp [isAgg, run_underlying hu]) hx hy ?_ h
          grind[beq_toListBytes,run_equalIn_string]
        · cases h
    · rename_i hn
      rw [if_neg hn]
      exact eqF_run d w hsub fs r h
theorem eqD_run (w : World) : ∀ (n d : Nat), n ≤ d → ∀ (t : TypeId) (a c : List Value) (b : Bool), eqD P n t a c = some b → (Op.equalIn (d + 1) t (.agg ⟨a⟩) (.agg ⟨c⟩)).run P w = .ok b w
  | 0, d, _, t, a, c, b, h => by cases h
  | n + 1, 0, hd, t, a, c, b, h => by omega
  | n + 1, d + 1, hd, t, a, c, b, h => by
    simp only [eqD] at h
    split at h
    · rename_i fs hu
      split at h
      · cases h
      · rename_i hs
        have hs : P.stoodInHeld t = false := by grind
        have hfo : P.fieldsOf t = ⟨fs⟩ := by simp [Program.fieldsOf, hu]
        have hst := run_equalIn_struct (P := P) w (d + 1) t ⟨a⟩ ⟨c⟩ (by grind) hs
        rw [hfo] at hst
        exact hst.trans (eqF_run d w (fun t' a' c' b' h' => eqD_run w n d (by omega) t' a' c' b' h') fs b h)
    · cases h
def opEqAgg (P : Program) (σ : SS R) (neg : Bool) (t : TypeId) (y z : Operand) : Option (Out R) :=
  match ev σ.tm y, ev σ.tm z with
  | some (.agg ⟨xs⟩), some (.agg ⟨ys⟩) =>
    match P.underlying t with
    | some (.struct ⟨fs⟩) =>
      if flatL xs && flatL ys && !P.stoodInHeld t && !P.eqGuardType P.depth t then
        match eqF P (eqD P 4) xs ys fs with
        | some b => some (quietOut σ True (.bool (if neg then !b else b)) none [])
        | none => none
      else none
    | _ => none
  | _, _ => none
theorem opEqAgg_ok {σ : SS R} {o : Oper} {neg : Bool} {t t' : TypeId} {y z : Operand} {x : Out R} (ho : o.op = .binOp (if neg then .neq else .eql) t y z t') (h : opEqAgg P σ neg t y z = some x) : OpOk D P o σ x := by
  unfold opEqAgg at h
  split at h
  · rename_i xs ys ha hb
    split at h
    · rename_i fs hu
      split at h
      · rename_i hc
        simp only [Bool.and_eq_true, Bool.not_eq_true'] at hc
        obtain ⟨⟨⟨f1, f2⟩, hs⟩, hg⟩ := hc
        split at h
        · rename_i b hq
          injection h with h
          subst h
          refine quiet_ok (fun C ρ ft ac w ht hli hm hv => ?_) (fun hli c hc => by cases hc)
          have h1 := (ev_eval ht ha).1
          have h2 := (ev_eval ht hb).1
          rw [flat_ren _ (by grind[flat])] at h1
          rw [flat_ren _ (by grind[flat])] at h2
          have hfo : P.fieldsOf t = ⟨fs⟩ := by simp [Program.fieldsOf, hu]
          have he := eqF_run (P := P) (xs := xs) (ys := ys) 9998 w (fun t' a' c' b' h' => eqD_run w 4 9998 (by omega) t' a' c' b' h') fs b hq
          have hst := run_equalIn_struct (P := P) w 9999 t ⟨xs⟩ ⟨ys⟩ (by grind) hs
          rw [hfo] at hst
          have hst2 : (Op.equalIn 10000 t (.agg ⟨xs⟩) (.agg ⟨ys⟩)).run P w = .ok b w := hst.trans he
          simp only [execOp, ho, h1, h2, ren_bool]
          cases neg with
          | false =>
            simp_all[run_eqGuard_agg,run_eql_struct]
          | true =>
            simp_all[run_eqGuard_agg,run_neq_struct]
        · cases h
      · cases h
    · cases h
  · cases h
/-- is a type one of several cells, and of how many -/
def aggOf (P : Program) (t : TypeId) : Option (Option Nat) :=
  match P.underlying t with
  | some (.struct _) | some (.array _ _) =>
    match P.info? t with
    | some i => some (some i.size)
    | none => none
  | some _ => some none
  | none => none
theorem aggOf_some {t : TypeId} {n : Nat} (h : aggOf P t = some (some n)) (w : World) : (isAgg t).run P w = .ok true w ∧ (sizeOf t).run P w = .ok n w := by
  unfold aggOf at h
  split at h
  · rename_i fs hu
    split at h
    · rename_i i hi
      injection h with h; injection h with h
      subst h
      exact ⟨by simp [isAgg, run_underlying hu], by simp [sizeOf, typeInfo, hi]⟩
    · cases h
  · rename_i n' e hu
    split at h
    · rename_i i hi
      injection h with h; injection h with h
      subst h
      exact ⟨by simp [isAgg, run_underlying hu], by simp [sizeOf, typeInfo, hi]⟩
    · cases h
  all_goals grind
theorem aggOf_none {t : TypeId} (h : aggOf P t = some none) (w : World) : (isAgg t).run P w = .ok false w := by
  unfold aggOf at h
  split at h
  · grind
  · grind
  · unfold isAgg
    simp_all[run_underlying]
  · cases h
/-- a field of a struct by value -/
def opField (P : Program) (σ : SS R) (t : TypeId) (y : Operand) (k : Nat) : Option (Out R) :=
  match ev σ.tm y with
  | some (.agg ⟨l⟩) =>
    match P.underlying t with
    | some (.struct ⟨fs⟩) =>
      match fs[k]? with
      | some f =>
        match aggOf P f.type with
        | some none => match l[f.offset]? with
          | some v => some (quietOut σ True v none [])
          | none => none
        | some (some n) => some (quietOut σ True (.agg ⟨(l.drop f.offset).take n⟩) none [])
        | none => none
      | none => none
    | _ => none
  | _ => none
theorem opField_ok {σ : SS R} {o : Oper} {t : TypeId} {y : Operand} {k : Nat} {x : Out R} (ho : o.op = .field t y k) (h : opField P σ t y k = some x) : OpOk D P o σ x := by
  unfold opField at h
  split at h
  · rename_i l ha
    split at h
    · rename_i fs hu
      split at h
      · rename_i f hf
        split at h
        · rename_i hg
          split at h
          · rename_i v hv
            injection h with h
            subst h
            refine quiet_ok (fun C ρ ft ac w ht hli hm _ => ?_) (fun hli c hc => by cases hc)
            have h1 := (ev_eval ht ha).1
            rw [ren_agg] at h1
            simp [execOp, ho, h1, Instr.field, run_underlying hu, hf, asAgg, part, aggOf_none hg w, hv]
          · cases h
        · rename_i n hg
          injection h with h
          subst h
          refine quiet_ok (fun C ρ ft ac w ht hli hm _ => ?_) (fun hli c hc => by cases hc)
          have h1 := (ev_eval ht ha).1
          obtain ⟨g1, g2⟩ := aggOf_some hg w
          simp only [execOp, ho, h1, Instr.field, Sem.run_bind, run_underlying hu, Result.andThen_ok, List.getElem?_toArray, hf, asAgg, Sem.run_pure, part, g1, if_true, g2, ren_agg]
          simp
        · cases h
      · cases h
    · cases h
  · cases h
/-- the address of a field -/
def opFieldAddr (P : Program) (σ : SS R) (t : TypeId) (y : Operand) (k : Nat) : Option (Out R) :=
  match ev σ.tm y with
  | some (.pointer (some ⟨i, e, sp⟩)) =>
    match P.underlying t with
    | some (.struct ⟨fs⟩) =>
      match fs[k]? with
      | some f =>
        match P.info? f.type with
        | some inf =>
          if Nat.beq inf.size 0 then none else
          match sp with
          | none => some (quietOut σ True (.pointer (some ⟨i, e + f.offset, none⟩)) none [])
          | some q => if Nat.blt q 1000000 && Nat.blt (q % 1000 + f.offset) 1000 then some (quietOut σ True (.pointer (some ⟨i, e, some (q + f.offset)⟩)) none []) else none
        | none => none
      | none => none
    | _ => none
  | _ => none
theorem add_at (b o j : Nat) : (⟨b, o, none⟩ : Addr).add j = ⟨b, o + j, none⟩ := by
  unfold Addr.add; simp
theorem opFieldAddr_ok {σ : SS R} {o : Oper} {t : TypeId} {y : Operand} {k : Nat} {x : Out R} (ho : o.op = .fieldAddr t y k) (h : opFieldAddr P σ t y k = some x) : OpOk D P o σ x := by
  unfold opFieldAddr at h
  split at h
  · rename_i i e sp ha
    split at h
    · rename_i fs hu
      split at h
      · rename_i f hf
        split at h
        · rename_i inf hi
          split at h
          · cases h
          · rename_i hz
            have hz' : inf.size ≠ 0 := fun e => hz (by rw [e]; rfl)
            have key : ∀ (C : Ctx) (ρ : Env) (ft : Nat → Nat → Prop) (ac : Act) (w : World), TM ρ σ.hp.length σ.tm ac →
                (execOp ac.eval o).run P w = .ok (.value (.pointer (some ((renA ρ ⟨i, e, sp⟩).add f.offset)))) w := by
              intro C ρ ft ac w ht
              have h1 := (ev_eval ht ha).1
              simp only [ren] at h1
              simp [execOp, ho, h1, Instr.fieldAt, run_underlying hu, hf, Instr.sureAddr, fieldPlace, sizeOf, typeInfo, hi, hz']
            split at h
            · injection h with h
              subst h
              refine quiet_ok (fun C ρ ft ac w ht hli hm _ => ?_) (fun hli c hc => by cases hc)
              rw [key C ρ ft ac w ht]
              grind[ren,renA,add_at,cellOf]
            · rename_i q
              split at h
              · rename_i hq
                simp only [Bool.and_eq_true, Nat.blt_eq] at hq
                injection h with h
                subst h
                refine quiet_ok (fun C ρ ft ac w ht hli hm _ => ?_) (fun hli c hc => by cases hc)
                rw [key C ρ ft ac w ht]
                grind[ren,renA,add_at,cellOf]
              · cases h
        · cases h
      · cases h
    · cases h
  · cases h
end
end Go.Proofs.YtobdpddamdkabaaDoor.Rx
namespace Go.Proofs.YtobdpddamdkabaaDoor.Rx
open Go.RowKit Go.Proofs.YtobdpddamdkabaaDoor.State
set_option linter.unusedVariables false
set_option linter.unusedSimpArgs false
section
variable {R : Type} {D : Res R} {P : Program} {C : Ctx} {ρ : Env} {ft : Nat → Nat → Prop} {w w' : World}
/-- the address of an element -/
def opIndexAddr (P : Program) (σ : SS R) (t : TypeId) (y z : Operand) : Option (Out R) :=
  match ev σ.tm y, ev σ.tm z with
  | some (.slice (some ⟨i, e0, some q⟩) n _), some (.int _ j) =>
    match P.underlying t with
    | some (.slice el) =>
      match P.info? el, σ.hp[i]? with
      | some inf, some (some (.inr (.inl (_, r)))) =>
        if Nat.beq (q % 1000000) (1000 * inf.size) && Nat.beq inf.size r.tm.length then
          some (quietOut σ (0 ≤ j ∧ j < n ∧ e0 + n ≤ r.n) (.pointer (some ⟨i, e0 + j.toNat, some (1000 * inf.size)⟩)) none [])
        else none
      | some inf, some (some (.inr (.inr (.inl r)))) =>
        if Nat.beq (q % 1000000) (1000 * inf.size) && Nat.beq inf.size r.tm.length then
          some (quietOut σ (0 ≤ j ∧ j < n ∧ e0 + n ≤ r.n) (.pointer (some ⟨i, e0 + j.toNat, some (1000 * inf.size)⟩)) none [])
        else none
      | _, _ => none
    | _ => none
  | _, _ => none
theorem cap_row {i : Nat} {h : Hp R} {t : TypeId} {r : Row} (hm : HM D C ρ ft h w) (hi : h[i]? = some (some (.inr (.inl (t, r))))) : r.n ≤ (ρ i).cap := (hm.at_ i _ hi).1.2.2.1
theorem cap_view {i : Nat} {h : Hp R} {r : Row} (hm : HM D C ρ ft h w) (hi : h[i]? = some (some (.inr (.inr (.inl r))))) : r.n ≤ (ρ i).cap := (hm.at_ i _ hi).1.2.2.1
theorem indexAddr_run {σ : SS R} {o : Oper} {t el : TypeId} {y z : Operand} {i e0 q n c : Nat} {k : IntKind} {j : Int} {inf : TypeInfo} {N : Nat} (ho : o.op = .indexAddr t y z)
    (ha : ev σ.tm y = some (.slice (some ⟨i, e0, some q⟩) n c)) (hb : ev σ.tm z = some (.int k j)) (hu : P.underlying t = some (.slice el)) (hi : P.info? el = some inf)
    (hq : q % 1000000 = 1000 * inf.size) {ac : Act} (ht : TM ρ σ.hp.length σ.tm ac) (hv : 0 ≤ j ∧ j < n ∧ e0 + n ≤ N) (hcap : N ≤ (ρ i).cap) (hnil : (ρ i).nil = true → (ρ i).cap = 0) :
    (execOp ac.eval o).run P w = .ok (.value (ren ρ (.pointer (some ⟨i, e0 + j.toNat, some (1000 * inf.size)⟩)))) w := by
  have h1 := (ev_eval ht ha).1
  have h2 := (ev_eval ht hb).1
  obtain ⟨v0, v1, v2⟩ := hv
  have hne : ¬ (q / 1000000 ≠ 0 ∧ (ρ i).cap ≤ e0) := fun h => by omega
  have hnn : ¬ (ρ i).nil = true := fun h => by grind
  simp only [ren, renS, if_neg hne, if_neg hnn] at h1
  simp only [execOp, ho, h1, h2, Instr.indexAt, asIntOf, Sem.run_bind, Sem.run_pure, Result.andThen_ok, run_underlying hu, Sem.run_ite]
  have hc : (0 ≤ j ∧ j < (n : Int)) := ⟨v0, v1⟩
  have hd1 : q % 1000000 / 1000 = inf.size := by omega
  have hd2 : q % 1000 = 0 := by omega
  have hd3 : 1000 * inf.size % 1000000 / 1000 = inf.size := by omega
  have hd4 : 1000 * inf.size % 1000 = 0 := by omega
  simp only [hc, and_self, if_true, sizeOf, typeInfo, Sem.run_bind, run_program, Result.andThen_ok, hi, Sem.run_pure, ren, renA, add_at, cellOf, hd1, hd2, hd3, hd4, Nat.add_zero]
  grind
theorem opIndexAddr_ok {σ : SS R} {o : Oper} {t : TypeId} {y z : Operand} {x : Out R} (ho : o.op = .indexAddr t y z) (h : opIndexAddr P σ t y z = some x) : OpOk D P o σ x := by
  unfold opIndexAddr at h
  split at h
  · rename_i i e0 q n c k j ha hb
    split at h
    · rename_i el hu
      split at h
      · rename_i inf t' r hi hr
        split at h
        · rename_i hc
          simp only [Bool.and_eq_true] at hc
          have hq := Nat.eq_of_beq_eq_true hc.1
          injection h with h
          subst h
          exact quiet_ok (fun C ρ ft ac w ht hli hm hv => indexAddr_run ho ha hb hu hi hq ht hv (cap_row hm hr) (hm.at_ i _ hr).1.2.2.2.2.1) (fun hli c hc => by cases hc)
        · cases h
      · rename_i inf r hi hr
        split at h
        · rename_i hc
          simp only [Bool.and_eq_true] at hc
          have hq := Nat.eq_of_beq_eq_true hc.1
          injection h with h
          subst h
          exact quiet_ok (fun C ρ ft ac w ht hli hm hv => indexAddr_run ho ha hb hu hi hq ht hv (cap_view hm hr) (hm.at_ i _ hr).1.2.2.2.2.1) (fun hli c hc => by cases hc)
        · cases h
      · cases h
    · cases h
  · cases h
/-- the address of an element, in a row known cell by cell -/
def opIndexCells (P : Program) (σ : SS R) (t : TypeId) (y z : Operand) : Option (Out R) :=
  match ev σ.tm y, ev σ.tm z with
  | some (.slice (some ⟨i, e, none⟩) n _), some (.int _ j) =>
    match P.underlying t with
    | some (.slice el) =>
      match P.info? el with
      | some inf => some (quietOut σ (0 ≤ j ∧ j < n) (.pointer (some ⟨i, e + j.toNat * inf.size, none⟩)) none [])
      | none => none
    | _ => none
  | _, _ => none
theorem opIndexCells_ok {σ : SS R} {o : Oper} {t : TypeId} {y z : Operand} {x : Out R} (ho : o.op = .indexAddr t y z) (h : opIndexCells P σ t y z = some x) : OpOk D P o σ x := by
  unfold opIndexCells at h
  split at h
  · rename_i i e n c k j ha hb
    split at h
    · rename_i el hu
      split at h
      · rename_i inf hi
        injection h with h
        subst h
        refine quiet_ok (fun C ρ ft ac w ht hli hm hv => ?_) (fun hli c hc => by cases hc)
        have h1 := (ev_eval ht ha).1
        have h2 := (ev_eval ht hb).1
        simp only [ren, renS] at h1
        have hc : (0 ≤ j ∧ j < (n : Int)) := hv
        simp only [execOp, ho, h1, h2, Instr.indexAt, asIntOf, Sem.run_bind, Sem.run_pure, Result.andThen_ok, run_underlying hu, Sem.run_ite]
        simp only [hc, and_self, if_true, sizeOf, typeInfo, Sem.run_bind, run_program, Result.andThen_ok, hi, Sem.run_pure, ren, renA, add_at, cellOf, Nat.add_assoc]
      · cases h
    · cases h
  · cases h
/-- the address of an array's element -/
def opIndexArr (P : Program) (σ : SS R) (t : TypeId) (y z : Operand) : Option (Out R) :=
  match ev σ.tm y, ev σ.tm z with
  | some (.pointer (some ⟨i, e, sp⟩)), some (.int _ j) =>
    match P.underlying t with
    | some (.array n el) =>
      match P.info? el with
      | some inf =>
        match sp with
        | none => some (quietOut σ (0 ≤ j ∧ j < n) (.pointer (some ⟨i, e + j.toNat * inf.size, none⟩)) none [])
        | some q => if Nat.blt q 1000000 && Nat.blt (q % 1000 + n * inf.size) 1000 then some (quietOut σ (0 ≤ j ∧ j < n) (.pointer (some ⟨i, e, some (q + j.toNat * inf.size)⟩)) none []) else none
      | none => none
    | _ => none
  | _, _ => none
theorem opIndexArr_ok {σ : SS R} {o : Oper} {t : TypeId} {y z : Operand} {x : Out R} (ho : o.op = .indexAddr t y z) (h : opIndexArr P σ t y z = some x) : OpOk D P o σ x := by
  unfold opIndexArr at h
  split at h
  · rename_i i e sp k j ha hb
    split at h
    · rename_i n el hu
      split at h
      · rename_i inf hi
        have key : ∀ (ρ : Env) (ac : Act) (w : World), TM ρ σ.hp.length σ.tm ac → (0 ≤ j ∧ j < (n : Int)) →
            (execOp ac.eval o).run P w = .ok (.value (.pointer (some ((renA ρ ⟨i, e, sp⟩).add (j.toNat * inf.size))))) w := by
          intro ρ ac w ht hj
          have h1 := (ev_eval ht ha).1
          have h2 := (ev_eval ht hb).1
          simp only [ren] at h1
          simp only [ren_int] at h2
          simp only [execOp, ho, h1, h2, Instr.indexAt, Instr.sureAddr, asIntOf, Sem.run_bind, Sem.run_pure, Result.andThen_ok, run_underlying hu, Sem.run_ite]
          simp only [hj, and_self, if_true, sizeOf, typeInfo, Sem.run_bind, run_program, Result.andThen_ok, hi, Sem.run_pure]
        split at h
        · grind[quiet_ok,ren,renA,add_at,cellOf]
        · rename_i q
          split at h
          · rename_i hq
            simp only [Bool.and_eq_true, Nat.blt_eq] at hq
            injection h with h
            subst h
            refine quiet_ok (fun C ρ ft ac w ht hli hm hv => ?_) (fun hli c hc => by cases hc)
            have hs : j.toNat * inf.size ≤ n * inf.size := Nat.mul_le_mul_right _ (by omega)
            grind[ren,renA,add_at,cellOf]
          · cases h
      · cases h
    · cases h
  · cases h
/-- the fields f, f + 1, .. of element e -/
def rowCells (tm : List Value) (cols : List Col) (e : Nat) : Nat → Nat → Option (List Value)
  | _, 0 => some []
  | f, m + 1 =>
    match tm[f]?, cols[f]? with
    | some t, some c => (rowCells tm cols e (f + 1) m).map (cellVal t c e :: ·)
    | _, _ => none
theorem rowCells_get {tm : List Value} {cols : List Col} {e : Nat} : ∀ {m f : Nat} {l : List Value}, rowCells tm cols e f m = some l → l.length = m ∧ ∀ (j : Nat) (v : Value), l[j]? = some v → ∃ t c, tm[f + j]? = some t ∧ cols[f + j]? = some c ∧ v = cellVal t c e
  | 0, f, l, h => by
    grind[rowCells]
  | m + 1, f, l, h => by
    simp only [rowCells] at h
    split at h
    · rename_i t c ht hc
      cases hr : rowCells tm cols e (f + 1) m with
      | none => grind
      | some l' =>
        rw [hr] at h
        simp only [Option.map_some, Option.some.injEq] at h
        obtain ⟨h1, h2⟩ := rowCells_get hr
        grind
    · cases h
theorem cellVal_flat {t : Value} {c : Col} {n : Nat} (h : colOk t c n) (e : Nat) : flat (cellVal t c e) = true := by
  cases t <;> simp only [cellVal, flat] <;> exact h.1
theorem cellVal_one {t : Value} {c : Col} {n : Nat} (h : colOk t c n) (e : Nat) : (cellVal t c e).oneCell' = true := by
  cases t <;> simp only [cellVal, Value.oneCell'] <;> exact h.2
def rowOf (x : Option (Option (SB R))) : Option Row :=
  match x with
  | some (some (.inr (.inl (_, r)))) => some r
  | some (some (.inr (.inr (.inl r)))) => some r
  | _ => none
/-- a row, of its own or only read, reads so -/
theorem row_reads {h : Hp R} {i : Nat} {r : Row} (hm : HM D C ρ ft h w) (hr : rowOf h[i]? = some r) :
    r.n ≤ (ρ i).cap ∧ (ρ i).cap ≤ maxLen ∧ 0 < r.tm.length ∧ r.cols.length = r.tm.length ∧ (∀ (f : Nat) (t : Value) (c : Col), r.tm[f]? = some t → r.cols[f]? = some c → colOk t c r.n) ∧
      ∀ (f : Nat) (t : Value) (c : Col) (e : Nat), r.tm[f]? = some t → r.cols[f]? = some c → e < r.n → w.cell? ⟨(ρ i).blk, (ρ i).off + (e * r.tm.length + f), none⟩ = some (cellVal t c e) := by
  unfold rowOf at hr
  split at hr
  · rename_i t0 r0 hi
    injection hr with hr
    subst hr
    obtain ⟨h1, h2, h3, h4, h4', arr, h5, h7⟩ := (hm.at_ i _ hi).1
    refine ⟨h3, h4, h2, h7.len, h7.col, fun f t c e g1 g2 g3 => ?_⟩
    have hn : (ρ i).nil = false := by
      grind
    rw [cell_of_row w _ _ arr _ _ (h5 hn).1]
    exact h7.cell f t c e g1 g2 g3
  · rename_i r0 hi
    injection hr with hr
    subst hr
    obtain ⟨h1, h2, h3, h4, h4', arr, h5, h8⟩ := (hm.at_ i _ hi).1
    refine ⟨h3, h4, h2, h8.len, h8.col, fun f t c e g1 g2 g3 => ?_⟩
    have hn : (ρ i).nil = false := by
      grind
    obtain ⟨h5, h6, t0, fz, h7⟩ := h5 hn (by omega)
    rw [cell_of_row w _ _ arr t0 fz (by rw [hm.kept.block _ h5 h6]; exact h7)]
    exact h8.cell f t c e g1 g2 g3
  grind
theorem cells_reads0 {h : Hp R} {i : Nat} {t : TypeId} {cs : List Value} (hm : HM0 D C ρ ft h w) (hi : h[i]? = some (some (.inl (t, cs)))) (j : Nat) :
    w.cell? ⟨(ρ i).blk, (ρ i).off + j, none⟩ = cs[j]?.map (ren ρ) := by
  obtain ⟨h1, h2, h3⟩ := (hm.at_ i _ hi).1
  rw [cell_of_row w _ _ _ _ _ h3, h1, Nat.zero_add]
  simp
theorem cells_reads {h : Hp R} {i : Nat} {t : TypeId} {cs : List Value} (hm : HM D C ρ ft h w) (hi : h[i]? = some (some (.inl (t, cs)))) (j : Nat) :
    w.cell? ⟨(ρ i).blk, (ρ i).off + j, none⟩ = cs[j]?.map (ren ρ) := cells_reads0 hm.toHM0 hi j
def locs (i f : Nat) : Nat → List (Nat × Nat)
  | 0 => []
  | m + 1 => (i, f + 1) :: locs i (f + 1) m
def opLoad (P : Program) (σ : SS R) (t : TypeId) (y : Operand) : Option (Out R) :=
  match ev σ.tm y with
  | some (.pointer (some ⟨i, e, none⟩)) =>
    match σ.hp[i]? with
    | some (some (.inl (_, cs))) =>
      match aggOf P t with
      | some none => match cs[e]? with
        | some v => some (quietOut σ True v none [(i, e + 1)])
        | none => none
      | some (some n) => if Nat.ble (e + n) cs.length then some (quietOut σ True (.agg ⟨(cs.drop e).take n⟩) none (locs i e n)) else none
      | none => none
    | _ => none
  | some (.pointer (some ⟨i, e, some q⟩)) =>
    match rowOf σ.hp[i]? with
    | some r =>
      if Nat.beq (q / 1000) r.tm.length && Nat.blt q 1000000 then
        match aggOf P t with
        | some none => match rowCells r.tm r.cols e (q % 1000) 1 with
          | some [v] => some (quietOut σ (e < r.n) v none [(i, q % 1000 + 1)])
          | _ => none
        | some (some n) => match rowCells r.tm r.cols e (q % 1000) n with
          | some l => some (quietOut σ (e < r.n) (.agg ⟨l⟩) none (locs i (q % 1000) n))
          | none => none
        | none => none
      else none
    | none => none
  | _ => none
theorem loadVar_agg {t : TypeId} {a : Addr} {cs : List Value} (ha : aggOf P t = some (some cs.length)) (h : ∀ (j : Nat) (v : Value), cs[j]? = some v → w.cell? (a.add j) = some v) : (loadVar t a).run P w = .ok (.agg ⟨cs⟩) w := by
  obtain ⟨g1, g2⟩ := aggOf_some ha w
  have hl := run_loadCells_list (P := P) w a cs h
  simp only [loadVar, Sem.run_bind, g1, Result.andThen_ok, if_true, g2, hl, Sem.run_pure]
theorem loadVar_one {t : TypeId} {a : Addr} {v : Value} (ha : aggOf P t = some none) (h : w.cell? a = some v) : (loadVar t a).run P w = .ok v w := by
  have g1 := aggOf_none ha w
  simp only [loadVar, Sem.run_bind, g1, Result.andThen_ok, Bool.false_eq_true, if_false, run_load, h]
theorem opLoad_ok {σ : SS R} {o : Oper} {t : TypeId} {y : Operand} {x : Out R} (ho : o.op = .load t y) (h : opLoad P σ t y = some x) : OpOk D P o σ x := by
  unfold opLoad at h
  split at h
  · rename_i i e ha
    split at h
    · rename_i t' cs hi
      split at h
      · rename_i hg
        split at h
        · rename_i v hv
          injection h with h
          subst h
          refine quiet_ok (fun C ρ ft ac w ht hli hm _ => ?_) (fun hli c hc => by cases hc)
          have h1 := (ev_eval ht ha).1
          simp only [ren, renA, cellOf] at h1
          have hc := cells_reads hm hi e
          rw [hv] at hc
          simp [execOp, ho, h1, Instr.loadAt, Instr.sureAddr, loadVar_one hg hc]
        · cases h
      · rename_i n hg
        split at h
        · rename_i hle
          have hle := Nat.le_of_ble_eq_true hle
          injection h with h
          subst h
          refine quiet_ok (fun C ρ ft ac w ht hli hm _ => ?_) (fun hli c hc => by cases hc)
          have h1 := (ev_eval ht ha).1
          simp only [ren, renA, cellOf] at h1
          have hl : (((cs.drop e).take n).map (ren ρ)).length = n := by grind
          have hld : (loadVar t ⟨(ρ i).blk, (ρ i).off + e, none⟩).run P w = .ok (.agg ⟨((cs.drop e).take n).map (ren ρ)⟩) w := by
            refine loadVar_agg (by grind) (fun j v hv => ?_)
            rw [add_at, Nat.add_assoc, cells_reads hm hi]
            grind
          simp only [execOp, ho, h1, Instr.loadAt, Instr.sureAddr, Sem.run_bind, Sem.run_pure, Result.andThen_ok, hld, ren_agg]
          simp
        · cases h
      · cases h
    · cases h
  · rename_i i e q ha
    split at h
    · rename_i r hr
      split at h
      · rename_i hc
        simp only [Bool.and_eq_true, Nat.blt_eq] at hc
        have hq := Nat.eq_of_beq_eq_true hc.1
        have key : ∀ (C : Ctx) (ρ : Env) (ft : Nat → Nat → Prop) (ac : Act) (w : World), TM ρ σ.hp.length σ.tm ac → HM D C ρ ft σ.hp w → e < r.n →
            ac.eval y = .pointer (some ⟨(ρ i).blk, (ρ i).off + (e * r.tm.length + q % 1000), none⟩) ∧
            ∀ (m : Nat) (l : List Value), rowCells r.tm r.cols e (q % 1000) m = some l → (∀ (j : Nat) (v : Value), l[j]? = some v → w.cell? ((⟨(ρ i).blk, (ρ i).off + (e * r.tm.length + q % 1000), none⟩ : Addr).add j) = some v) ∧ ∀ v ∈ l, flat v = true := by
          intro C ρ ft ac w ht hm he
          have h1 := (ev_eval ht ha).1
          have e1 : q % 1000000 / 1000 = r.tm.length := by omega
          simp only [ren, renA, cellOf, e1] at h1
          grind[row_reads,rowCells_get,add_at,List.getElem?_of_mem,cellVal_flat]
        split at h
        · rename_i hg
          split at h
          · rename_i v hv
            injection h with h
            subst h
            refine quiet_ok (fun C ρ ft ac w ht hli hm he => ?_) (fun hli c hc => by cases hc)
            obtain ⟨h1, h2⟩ := key C ρ ft ac w ht hm he
            obtain ⟨h3, h4⟩ := h2 _ _ hv
            have h5 := h3 0 v (by simp)
            rw [add_at, Nat.add_zero] at h5
            rw [flat_ren v (h4 v (by simp))]
            simp [execOp, ho, h1, Instr.loadAt, Instr.sureAddr, loadVar_one hg h5]
          · cases h
        · rename_i n hg
          split at h
          · rename_i l hl
            injection h with h
            subst h
            refine quiet_ok (fun C ρ ft ac w ht hli hm he => ?_) (fun hli c hc => by cases hc)
            obtain ⟨h1, h2⟩ := key C ρ ft ac w ht hm he
            obtain ⟨h3, h4⟩ := h2 _ _ hl
            have hn := (rowCells_get hl).1
            have hld := loadVar_agg (P := P) (t := t) (by grind) h3
            rw [flat_ren (.agg ⟨l⟩) (by grind[flat,flatL_iff])]
            simp only [execOp, ho, h1, Instr.loadAt, Instr.sureAddr, Sem.run_bind, Sem.run_pure, Result.andThen_ok, hld]
          · cases h
        · cases h
      · cases h
    · cases h
  · cases h
/-- several cells from k on -/
def setMany (cur : Array Value) : Nat → List Value → Array Value
  | _, [] => cur
  | k, v :: l => setMany (cur.setIfInBounds k v) (k + 1) l
def setL (cs : List Value) : Nat → List Value → List Value
  | _, [] => cs
  | k, v :: l => setL (cs.set k v) (k + 1) l
theorem setMany_map (cs : List Value) : ∀ (k : Nat) (l : List Value), setMany (cs.map (ren ρ)).toArray k (l.map (ren ρ)) = ((setL cs k l).map (ren ρ)).toArray
  | _, [] => rfl
  | k, v :: l => by
    simp only [List.map_cons, setMany, setL]
    have : (cs.map (ren ρ)).toArray.setIfInBounds k (ren ρ v) = ((cs.set k v).map (ren ρ)).toArray := by simp
    rw [this]
    exact setMany_map (cs.set k v) (k + 1) l
theorem setMany_size (cur : Array Value) : ∀ (k : Nat) (l : List Value), (setMany cur k l).size = cur.size
  | _, [] => rfl
  | k, v :: l => by rw [setMany, setMany_size]; simp
theorem setL_length (cs : List Value) : ∀ (k : Nat) (l : List Value), (setL cs k l).length = cs.length
  | _, [] => rfl
  | k, v :: l => by rw [setL, setL_length]; simp
theorem setL_inb {n : Nat} {cs : List Value} : ∀ (k : Nat) (l : List Value), inbL n cs = true → inbL n l = true → inbL n (setL cs k l) = true
  | _, [], h, _ => h
  | k, v :: l, h, hl => by
    simp only [inbL, Bool.and_eq_true] at hl
    refine setL_inb (k + 1) l ?_ hl.2
    grind[inbL_iff]
theorem run_storeMany (g o : Nat) (t : TypeId) : ∀ (vs : List Value) (i : Nat) (cur : Array Value) (w : World), w.heap[g]? = some (.cells cur t (0, 0)) → o + i + vs.length ≤ cur.size → (∀ v ∈ vs, v.oneCell' = true) →
    (storeCells ⟨g, o, none⟩ vs i).run P w = .ok () (w.setRow g (setMany cur (o + i) vs))
  | [], i, cur, w, hg, _, _ => by
    simp only [storeCells, setMany]
    rw [setRow_self w g cur t (0, 0) hg]
    rfl
  | v :: rest, i, cur, w, hg, hl, h1 => by
    have hi : o + i < cur.size := by grind
    have hcell : w.cell? ⟨g, o + i, none⟩ = some cur[o + i] := by simp [World.cell?, hg, hi]
    have hfro : w.frozen? ⟨g, o + i, none⟩ = false := by simp [World.frozen?, hg]
    have hst : (store ((⟨g, o, none⟩ : Addr).add i) v).run P w = .ok () (w.setRow g (cur.setIfInBounds (o + i) v)) := by
      grind[add_at,run_store,setCell_eq_setRow]
    have ih := run_storeMany g o t rest (i + 1) (cur.setIfInBounds (o + i) v) (w.setRow g (cur.setIfInBounds (o + i) v)) (setRow_heap w g cur _ t _ hg) (by grind) (fun x hx => h1 x (by simp [hx]))
    simp only [storeCells, Sem.run_bind, hst, Result.andThen_ok, ih, setRow_setRow, setMany, Nat.add_assoc]
theorem kept_setRow (w : World) (g : Nat) (cs : Array Value) {F : Nat → Prop} (hF : F g) : Kept F w (w.setRow g cs) :=
  ⟨rfl, rfl, rfl, by simp, fun k _ hn => setRow_other w g k cs (fun e => hn (e ▸ hF))⟩
def oneL : List Value → Bool
  | [] => true
  | v :: l => v.oneCell' && oneL l
theorem oneL_mem {l : List Value} (h : oneL l = true) : ∀ v ∈ l, v.oneCell' = true := by
  induction l with
  | nil => simp
  | cons u l ih =>
    simp_all[oneL]
/-- a value in one cell of an element -/
def setCol (t : Value) (c : Col) (e : Nat) (v : Value) : Option Col :=
  match t, v with
  | .int k _, .int k' x => if k = k' then some { c with i := c.i.set e x } else none
  | .bool _, .bool x => some { c with b := c.b.set e x }
  | .string _, .string x => some { c with s := c.s.set e x }
  | _, _ => none
def setCols (tm : List Value) (cols : List Col) (e : Nat) : Nat → List Value → Option (List Col)
  | _, [] => some cols
  | f, v :: l =>
    match tm[f]?, cols[f]? with
    | some t, some c => match setCol t c e v with
      | some c' => setCols tm (cols.set f c') e (f + 1) l
      | none => none
    | _, _ => none
theorem setCol_ok {t : Value} {c c' : Col} {e n : Nat} {v : Value} (h : setCol t c e v = some c') (hc : colOk t c n) (he : e < n) :
    colOk t c' n ∧ flat v = true ∧ v.oneCell' = true ∧ ∀ e', e' < n → cellVal t c' e' = if e' = e then v else cellVal t c e' := by
  unfold setCol at h
  split at h
  · split at h
    · rename_i k _ k' x hk
      injection h with h
      subst h
      refine ⟨by grind[colOk], rfl, rfl, fun e' he' => ?_⟩
      simp only [colOk] at hc
      simp only [cellVal, List.getD_eq_getElem?_getD, List.getElem?_set]
      grind
    · cases h
  · injection h with h
    subst h
    refine ⟨by grind[colOk], rfl, rfl, fun e' he' => ?_⟩
    simp only [colOk] at hc
    simp only [cellVal, List.getD_eq_getElem?_getD, List.getElem?_set]
    grind
  · injection h with h
    subst h
    refine ⟨by grind[colOk], rfl, rfl, fun e' he' => ?_⟩
    simp only [colOk] at hc
    simp only [cellVal, List.getD_eq_getElem?_getD, List.getElem?_set]
    grind
  · cases h
/-- two places of a row -/
theorem place_eq {s e e' f f' : Nat} (hf : f < s) (hf' : f' < s) (h : e * s + f = e' * s + f') : e = e' ∧ f = f' := by
  have h1 : (e * s + f) / s = e := by rw [Nat.add_comm, Nat.add_mul_div_right _ _ (by omega), Nat.div_eq_of_lt hf, Nat.zero_add]
  have h2 : (e' * s + f') / s = e' := by rw [Nat.add_comm, Nat.add_mul_div_right _ _ (by omega), Nat.div_eq_of_lt hf', Nat.zero_add]
  grind
theorem setCol_row {r : Row} {arr : Array Value} {o e f : Nat} {t : Value} {c c' : Col} {v : Value} (hr : RowIn r arr o) (ht : r.tm[f]? = some t) (hc : r.cols[f]? = some c) (he : e < r.n)
    (hs : setCol t c e v = some c') : RowIn { r with cols := r.cols.set f c' } (arr.setIfInBounds (o + (e * r.tm.length + f)) v) o := by
  obtain ⟨k1, k2, k3, k4⟩ := setCol_ok hs (hr.col f t c ht hc) he
  have hfl : f < r.tm.length := (List.getElem?_eq_some_iff.1 ht).1
  have hcl : f < r.cols.length := (List.getElem?_eq_some_iff.1 hc).1
  refine ⟨by simpa using hr.len, fun f' t' c1 h1 h2 => ?_, fun f' t' c1 e' h1 h2 h3 => ?_⟩
  · simp only at h1 h2
    by_cases hff : f = f'
    · subst hff
      rw [ht] at h1; injection h1 with h1; subst h1
      rw [List.getElem?_set_self hcl] at h2; injection h2 with h2; subst h2
      exact k1
    · rw [List.getElem?_set_ne hff] at h2
      exact hr.col f' t' c1 h1 h2
  · simp only at h1 h2 h3 ⊢
    have hfl' : f' < r.tm.length := (List.getElem?_eq_some_iff.1 h1).1
    rw [Array.getElem?_setIfInBounds]
    have hold := hr.cell f' t'
    by_cases hff : f = f'
    · subst hff
      rw [ht] at h1; injection h1 with h1; subst h1
      rw [List.getElem?_set_self hcl] at h2; injection h2 with h2; subst h2
      rw [k4 e' h3]
      have h5 := hr.cell f t c e' ht hc h3
      have hlt : o + (e' * r.tm.length + f) < arr.size := (Array.getElem?_eq_some_iff.1 h5).1
      by_cases hee : e' = e
      · subst hee
        simp [hlt]
      · rw [if_neg hee, if_neg (fun hh => hee (place_eq hfl hfl (by omega : e' * r.tm.length + f = e * r.tm.length + f)).1)]
        exact h5
    · rw [List.getElem?_set_ne hff] at h2
      rw [if_neg (fun hh => hff (place_eq hfl hfl' (by omega : e * r.tm.length + f = e' * r.tm.length + f')).2)]
      exact hr.cell f' t' c1 e' h1 h2 h3
theorem setCols_row {tm : List Value} {n o e : Nat} (he : e < n) : ∀ {vs : List Value} {f : Nat} {cols cols' : List Col} {arr : Array Value}, RowIn ⟨tm, n, cols⟩ arr o → setCols tm cols e f vs = some cols' →
    RowIn ⟨tm, n, cols'⟩ (setMany arr (o + (e * tm.length + f)) vs) o ∧ (∀ v ∈ vs, flat v = true ∧ v.oneCell' = true) ∧ (vs = [] ∨ f + vs.length ≤ tm.length)
  | [], f, cols, cols', arr, hr, h => by
    injection h with h
    subst h
    exact ⟨hr, (fun v hv => by cases hv), Or.inl rfl⟩
  | v :: l, f, cols, cols', arr, hr, h => by
    simp only [setCols] at h
    split at h
    · rename_i t c ht hc
      split at h
      · rename_i c' hs
        obtain ⟨h1, h2, h3⟩ := setCols_row (tm := tm) (n := n) (o := o) (e := e) he (f := f + 1) (setCol_row hr ht hc he hs) h
        obtain ⟨_, k2, k3, _⟩ := setCol_ok hs (hr.col f t c ht hc) he
        refine ⟨h1, fun u hu => ?_, Or.inr ?_⟩
        all_goals grind
      · cases h
    · cases h
def opStore (P : Program) (σ : SS R) (t : TypeId) (y z : Operand) : Option (Out R) :=
  match ev σ.tm y, ev σ.tm z with
  | some (.pointer (some ⟨i, e, none⟩)), some v =>
    match σ.hp[i]?, P.info? t with
    | some (some (.inl (ty, cs))), some inf =>
      if Nat.beq v.cells.toList.length inf.size && Nat.ble (e + inf.size) cs.length && oneL v.cells.toList then
        some ⟨True, undef, none, σ.hp.set i (some (.inl (ty, setL cs e v.cells.toList))), [], locs i e inf.size⟩
      else none
    | _, _ => none
  | some (.pointer (some ⟨i, e, some q⟩)), some v =>
    match σ.hp[i]?, P.info? t with
    | some (some (.inr (.inl (ty, r)))), some inf =>
      if Nat.beq v.cells.toList.length inf.size && Nat.beq (q / 1000) r.tm.length && Nat.blt q 1000000 && Nat.blt 0 inf.size then
        match setCols r.tm r.cols e (q % 1000) v.cells.toList with
        | some cols => some ⟨e < r.n, undef, none, σ.hp.set i (some (.inr (.inl (ty, { r with cols := cols })))), [], locs i (q % 1000) inf.size⟩
        | none => none
      else none
    | _, _ => none
  | _, _ => none
theorem cells_inb {n : Nat} {v : Value} (h : inb n v = true) : inbL n v.cells.toList = true := by
  cases v with
  | agg cs => simpa [inb, Value.cells] using h
  | _ => simp only [Value.cells, inbL, h]; rfl
theorem opStore_ok {σ : SS R} {o : Oper} {t : TypeId} {y z : Operand} {x : Out R} (ho : o.op = .store t y z) (hd : o.dst = none) (h : opStore P σ t y z = some x) : OpOk D P o σ x := by
  unfold opStore at h
  split at h
  · rename_i i e v ha hb
    split at h
    · rename_i ty cs inf hi hinf
      split at h
      · rename_i hc
        simp only [Bool.and_eq_true] at hc
        have hsz := Nat.eq_of_beq_eq_true hc.1.1
        have hle := Nat.le_of_ble_eq_true hc.1.2
        have hone := oneL_mem hc.2
        injection h with h
        subst h
        refine ⟨fun C ρ ft ac w K Q ht hli hm _ hK => ?_, by simp, fun _ b hb => by cases hb⟩
        have h1 := (ev_eval ht ha).1
        obtain ⟨h2, h2'⟩ := ev_eval ht hb
        simp only [ren, renA, cellOf] at h1
        obtain ⟨g1, g2, g3⟩ := (hm.at_ i _ hi).1
        have hvl : ((ren ρ v).cells.toList) = v.cells.toList.map (ren ρ) := by rw [cells_ren]; simp
        have hst := run_storeMany (P := P) (ρ i).blk e ty (v.cells.toList.map (ren ρ)) 0 _ w g3 (by grind) (fun u hu => by
          grind[oneCell_ren])
        simp only [Nat.add_zero] at hst
        rw [setMany_map] at hst
        have hrun : (execOp ac.eval o).run P w = .ok .skip (w.setRow (ρ i).blk ((setL cs e v.cells.toList).map (ren ρ)).toArray) := by
          have hsz2 : (ren ρ v).cells.size = inf.size := by grind[Array.length_toList]
          simp only [execOp, ho, h1, h2, Instr.storeAt, Instr.sureAddr, storeVar, Sem.run_bind, Sem.run_pure, Result.andThen_ok, sizeOf, typeInfo, run_program, hinf, hsz2, ne_eq, not_true_eq_false, if_false, g1, Nat.zero_add, hvl, hst]
        refine wp_skip' hrun (hK ρ (upd ft i (ft i)) _ (fun _ _ => rfl) ?_)
        refine hm.put hi (kept_setRow _ _ _ ((g2 _).2 rfl)) _ _ ⟨g1, g2, setRow_heap w _ _ _ _ _ g3⟩ (setL_inb _ _ (hm.at_ i _ hi).2 (cells_inb h2')) (fun k hk => ⟨Or.inl hk, by simpa [World.setRow] using hm.lt i k hk⟩)
      · cases h
    · cases h
  · rename_i i e q v ha hb
    split at h
    · rename_i ty r inf hi hinf
      split at h
      · rename_i hc
        simp only [Bool.and_eq_true, Nat.blt_eq] at hc
        have hsz := Nat.eq_of_beq_eq_true hc.1.1.1
        have hq := Nat.eq_of_beq_eq_true hc.1.1.2
        split at h
        · rename_i cols hcols
          injection h with h
          subst h
          refine ⟨fun C ρ ft ac w K Q ht hli hm he hK => ?_, by simp, fun _ b hb => by cases hb⟩
          have h1 := (ev_eval ht ha).1
          obtain ⟨h2, h2'⟩ := ev_eval ht hb
          have e1 : q % 1000000 / 1000 = r.tm.length := by omega
          simp only [ren, renA, cellOf, e1] at h1
          obtain ⟨g1, g2, g3, g4, g4', arr, g56, g7⟩ := (hm.at_ i _ hi).1
          have hnn : (ρ i).nil = false := by
            grind
          obtain ⟨g5, g6⟩ := g56 hnn
          obtain ⟨k1, k2, k3⟩ := setCols_row (tm := r.tm) (n := r.n) he (arr := arr) g7 hcols
          have hvl : ((ren ρ v).cells.toList) = v.cells.toList := by
            rw [cells_ren]
            rw [Array.toList_map]
            conv => rhs; rw [← List.map_id v.cells.toList]
            grind[List.map_congr_left,flat_ren]
          have hfit : (ρ i).off + (e * r.tm.length + q % 1000) + 0 + v.cells.toList.length ≤ arr.size := by
            have hmul : (e + 1) * r.tm.length ≤ (ρ i).cap * r.tm.length := Nat.mul_le_mul_right _ (by omega)
            grind
          have hst := run_storeMany (P := P) (ρ i).blk ((ρ i).off + (e * r.tm.length + q % 1000)) ty v.cells.toList 0 arr w g5 hfit (fun u hu => (k2 u hu).2)
          simp only [Nat.add_zero] at hst
          have hrun : (execOp ac.eval o).run P w = .ok .skip (w.setRow (ρ i).blk (setMany arr ((ρ i).off + (e * r.tm.length + q % 1000)) v.cells.toList)) := by
            have hsz2 : (ren ρ v).cells.size = inf.size := by grind
            simp only [execOp, ho, h1, h2, Instr.storeAt, Instr.sureAddr, storeVar, Sem.run_bind, Sem.run_pure, Result.andThen_ok, sizeOf, typeInfo, run_program, hinf, hsz2, ne_eq, not_true_eq_false, if_false, hvl, hst]
          refine wp_skip' hrun (hK ρ (upd ft i (ft i)) _ (fun _ _ => rfl) ?_)
          exact hm.put hi (kept_setRow _ _ _ ((g1 _).2 ⟨hnn, rfl⟩)) _ _ ⟨g1, g2, g3, g4, g4', _, fun _ => ⟨setRow_heap w _ _ _ _ _ g5, by grind[setMany_size]⟩, k1⟩ trivial (fun k hk => ⟨Or.inl hk, by simpa [World.setRow] using hm.lt i k hk⟩)
        · cases h
      · cases h
    · cases h
  · cases h
end
end Go.Proofs.YtobdpddamdkabaaDoor.Rx
namespace Go.Proofs.YtobdpddamdkabaaDoor.Rx
open Go.RowKit Go.Proofs.YtobdpddamdkabaaDoor.State
set_option linter.unusedVariables false
set_option linter.unusedSimpArgs false
section
variable {R : Type} {D : Res R} {P : Program} {C : Ctx} {ρ : Env} {ft : Nat → Nat → Prop} {w w' : World}
/-- a new block of known cells -/
def newCells (σ : SS R) (t : TypeId) (cs : List Value) : Option (Out R) :=
  some ⟨True, .pointer (some ⟨σ.hp.length, 0, none⟩), none, σ.hp ++ [some (.inl (t, cs))], [], [(σ.hp.length, 0)]⟩
theorem newCells_ok {σ : SS R} {o : Oper} {t : TypeId} {cs : List Value} {x : Out R}
    (hrun : ∀ (ρ : Env) (a : Act) (w : World), TM ρ σ.hp.length σ.tm a → (execOp a.eval o).run P w = .ok (.value (.pointer (some ⟨w.heap.size, 0, none⟩))) (w.alloc (.cells (cs.map (ren ρ)).toArray t)) ∧ inbL σ.hp.length cs = true)
    (h : newCells σ t cs = some x) : OpOk D P o σ x := by
  injection h with h
  subst h
  refine ⟨fun C ρ ft a w K Q ht hli hm _ hK => ?_, by simp, fun _ b hb => by cases hb⟩
  obtain ⟨h1, h2⟩ := hrun ρ a w ht
  have hren : cs.map (ren (upd ρ σ.hp.length ⟨w.heap.size, 0, 0, false⟩)) = cs.map (ren ρ) :=
    List.map_congr_left fun v hv => ren_congr (n := σ.hp.length) (fun i hi => upd_lt _ _ _ hi) v (inbL_iff.1 h2 v hv)
  have hp := hm.push (D := D) ⟨w.heap.size, 0, 0, false⟩ (.cells (cs.map (ren ρ)).toArray t) rfl (.inl (t, cs)) (by
    refine ⟨by rw [upd_same], fun k => by rw [upd_same], ?_⟩
    grind[upd_same,heap_alloc_new]) (inbL_mono (Nat.le_succ _) _ h2)
  grind[wp_value,upd_lt,ren,renA,upd_same,cellOf]
def opAlloc (P : Program) (σ : SS R) (t : TypeId) : Option (Out R) :=
  match P.info? t with
  | some i => match i.zero with
    | some z => if flatL z.cells.toList then newCells σ t z.cells.toList else none
    | none => none
  | none => none
theorem flat_map {l : List Value} (h : flatL l = true) : l.map (ren ρ) = l := by
  conv => rhs; rw [← List.map_id l]
  grind[List.map_congr_left,flat_ren,flatL_iff]
theorem opAlloc_ok {σ : SS R} {o : Oper} {t : TypeId} {x : Out R} (ho : o.op = .alloc t) (h : opAlloc P σ t = some x) : OpOk D P o σ x := by
  unfold opAlloc at h
  split at h
  · rename_i i hi
    split at h
    · rename_i z hz
      split at h
      · rename_i hf
        refine newCells_ok (fun ρ a w ht => ⟨?_, flat_inbL _ hf⟩) h
        rw [flat_map hf]
        simp [execOp, ho, Instr.alloc, zeroValue, typeInfo, hi, hz, newVar, newRow]
      · cases h
    · cases h
  · cases h
def opBox (σ : SS R) (t : TypeId) (y : Operand) : Option (Out R) :=
  match ev σ.tm y with
  | some v => newCells σ t v.cells.toList
  | none => none
theorem opBox_ok {σ : SS R} {o : Oper} {t : TypeId} {y : Operand} {x : Out R} (ho : o.op = .box t y) (h : opBox σ t y = some x) : OpOk D P o σ x := by
  unfold opBox at h
  split at h
  · rename_i v hv
    refine newCells_ok (fun ρ a w ht => ?_) h
    obtain ⟨h1, h2⟩ := ev_eval ht hv
    refine ⟨?_, cells_inb h2⟩
    have : (ren ρ v).cells = (v.cells.toList.map (ren ρ)).toArray := by grind[cells_ren]
    simp [execOp, ho, Instr.box, newVar, newRow, h1, this]
  · cases h
/-- the parts of a literal, known -/
def evParts (tm : List (Option Value)) : List (Nat × Operand) → Option (List (Nat × Value))
  | [] => some []
  | (i, y) :: l =>
    match ev tm y, evParts tm l with
    | some v, some r => some ((i, v) :: r)
    | _, _ => none
theorem evParts_map {tm : List (Option Value)} {n : Nat} {a : Act} (ht : TM ρ n tm a) : ∀ {l : List (Nat × Operand)} {r : List (Nat × Value)}, evParts tm l = some r →
    l.map (fun (i, y) => (i, a.eval y)) = r.map (fun (i, v) => (i, ren ρ v)) ∧ ∀ p ∈ r, inb n p.2 = true
  | [], r, h => by
    grind[evParts]
  | (i, y) :: l, r, h => by
    simp only [evParts] at h
    split at h
    · rename_i v r' hv hr
      injection h with h
      obtain ⟨h1, h2⟩ := ev_eval ht hv
      obtain ⟨h3, h4⟩ := evParts_map ht hr
      grind
    · cases h
/-- a literal's cells -/
def fillL (place : Nat → Option (Nat × Nat)) (cs : List Value) : List (Nat × Value) → Option (List Value)
  | [] => some cs
  | (i, v) :: rest =>
    match place i with
    | none => none
    | some (off, size) =>
      if Nat.beq v.cells.toList.length size && Nat.ble (off + size) cs.length then fillL place (setL cs off v.cells.toList) rest else none
theorem foldl_setMany (vs : List Value) : ∀ (k : Nat) (cur : Array Value) (off : Nat), (vs.zipIdx k).foldl (fun cs (x : Value × Nat) => cs.setIfInBounds (off + x.2) x.1) cur = setMany cur (off + k) vs := by
  induction vs with
  | nil => intro k cur off; rfl
  | cons v l ih => simp_all[setMany,Nat.add_assoc]
theorem fillL_fill {place : Nat → Option (Nat × Nat)} : ∀ {rest : List (Nat × Value)} {cs r : List Value}, fillL place cs rest = some r →
    Instr.fill place (cs.map (ren ρ)).toArray (rest.map fun (i, v) => (i, ren ρ v)) = some (r.map (ren ρ)).toArray ∧ r.length = cs.length
  | [], cs, r, h => by
    injection h with h
    subst h
    exact ⟨rfl, rfl⟩
  | (i, v) :: rest, cs, r, h => by
    simp only [fillL] at h
    split at h
    · cases h
    · rename_i off size hp
      split at h
      · rename_i hc
        simp only [Bool.and_eq_true] at hc
        have h1 := Nat.eq_of_beq_eq_true hc.1
        have h2 := Nat.le_of_ble_eq_true hc.2
        obtain ⟨h3, h4⟩ := fillL_fill h
        refine ⟨?_, by rw [h4, setL_length]⟩
        simp only [List.map_cons, Instr.fill, hp]
        have hsz : (ren ρ v).cells.size = size := by grind[cells_ren]
        have : (ren ρ v).cells = (v.cells.toList.map (ren ρ)).toArray := by grind[cells_ren]
        simp_all[foldl_setMany,setMany_map]
      · cases h
def sizesOf (P : Program) : List Field → Option (List (Nat × Nat))
  | [] => some []
  | f :: fs =>
    match P.info? f.type, sizesOf P fs with
    | some i, some r => some ((f.offset, i.size) :: r)
    | _, _ => none
theorem sizesOf_mapM (w : World) : ∀ {fs : List Field} {r : List (Nat × Nat)}, sizesOf P fs = some r → (fs.mapM (m := Sem) fun f => do pure (f.offset, ← sizeOf f.type)).run P w = .ok r w
  | [], r, h => by
    simp_all[sizesOf]
  | f :: fs, r, h => by
    simp only [sizesOf] at h
    split at h
    · rename_i i r' hi hr
      injection h with h
      subst h
      have ih := sizesOf_mapM w hr
      simp [sizeOf, typeInfo, hi] at ih ⊢
      simp [ih]
    · cases h
def opBuild (P : Program) (σ : SS R) (t : TypeId) (parts : List (Nat × Operand)) : Option (Out R) :=
  match P.info? t, P.underlying t, evParts σ.tm parts with
  | some i, some (.struct ⟨fs⟩), some ps =>
    match i.zero, sizesOf P fs with
    | some z, some sz =>
      if flatL z.cells.toList then
        match fillL (fun k => sz[k]?) z.cells.toList ps with
        | some cs => some (quietOut σ True (.agg ⟨cs⟩) none [])
        | none => none
      else none
    | _, _ => none
  | some i, some (.array _ elem), some ps =>
    match i.zero, P.info? elem with
    | some z, some ie =>
      if flatL z.cells.toList then
        match fillL (fun k => some (k * ie.size, ie.size)) z.cells.toList ps with
        | some cs => some (quietOut σ True (.agg ⟨cs⟩) none [])
        | none => none
      else none
    | _, _ => none
  | _, _, _ => none
theorem opBuild_ok {σ : SS R} {o : Oper} {t : TypeId} {parts : Array (Nat × Operand)} {x : Out R} (ho : o.op = .build t parts) (h : opBuild P σ t parts.toList = some x) : OpOk D P o σ x := by
  unfold opBuild at h
  split at h
  · rename_i i fs ps hi hu hps
    split at h
    · rename_i z sz hz hsz
      split at h
      · rename_i hf
        split at h
        · rename_i cs hcs
          injection h with h
          subst h
          refine quiet_ok (fun C ρ ft a w ht hli hm _ => ?_) (fun hli c hc => by cases hc)
          obtain ⟨h1, h2⟩ := evParts_map ht hps
          obtain ⟨h3, h4⟩ := fillL_fill (ρ := ρ) hcs
          rw [flat_map hf] at h3
          have hpl : (parts.map fun (i, y) => (i, a.eval y)).toList = ps.map fun (i, v) => (i, ren ρ v) := by
            simp[*]
          have hm2 := sizesOf_mapM w hsz
          have hm3 : ((⟨fs⟩ : Array Field).mapM (m := Sem) fun f => do pure (f.offset, ← sizeOf f.type)).run P w = .ok ⟨sz⟩ w := by
            simp_all
          have hplace : (fun (k : Nat) => (⟨sz⟩ : Array (Nat × Nat))[k]?) = fun (k : Nat) => sz[k]? := by simp
          simp only [execOp, ho, Instr.build, zeroValue, typeInfo, Sem.run_bind, run_program, Result.andThen_ok, hi, Sem.run_pure, hz, run_underlying hu, hm3, hpl, hplace]
          simp_all[ren_agg]
        · cases h
      · cases h
    · cases h
  · rename_i i q elem ps hi hu hps
    split at h
    · rename_i z ie hz hie
      split at h
      · rename_i hf
        split at h
        · rename_i cs hcs
          injection h with h
          subst h
          refine quiet_ok (fun C ρ ft a w ht hli hm _ => ?_) (fun hli c hc => by cases hc)
          obtain ⟨h1, h2⟩ := evParts_map ht hps
          obtain ⟨h3, h4⟩ := fillL_fill (ρ := ρ) hcs
          rw [flat_map hf] at h3
          have hpl : (parts.map fun (i, y) => (i, a.eval y)).toList = ps.map fun (i, v) => (i, ren ρ v) := by
            simp[*]
          simp only [execOp, ho, Instr.build, zeroValue, typeInfo, sizeOf, Sem.run_bind, run_program, Result.andThen_ok, hi, hie, Sem.run_pure, hz, run_underlying hu, hpl]
          simp_all[ren_agg]
        · cases h
      · cases h
    · cases h
  · cases h
end
end Go.Proofs.YtobdpddamdkabaaDoor.Rx
namespace Go.Proofs.YtobdpddamdkabaaDoor.Rx
open Go.RowKit Go.Proofs.YtobdpddamdkabaaDoor.State
set_option linter.unusedVariables false
set_option linter.unusedSimpArgs false
section
variable {R : Type} {D : Res R} {P : Program} {C : Ctx} {ρ : Env} {ft : Nat → Nat → Prop} {w w' : World}
/-- a column out of its values -/
def takeCol (t : Value) : List Value → Option Col
  | [] => match t with
    | .int _ _ | .bool _ | .string _ => some noCol
    | _ => none
  | v :: l =>
    match t, v, takeCol t l with
    | .int k _, .int k' x, some c => if k = k' then some { c with i := x :: c.i } else none
    | .bool _, .bool x, some c => some { c with b := x :: c.b }
    | .string _, .string x, some c => some { c with s := x :: c.s }
    | _, _, _ => none
theorem takeCol_ok {t : Value} : ∀ {l : List Value} {c : Col}, takeCol t l = some c → colOk t c l.length ∧ ∀ (e : Nat), e < l.length → l[e]? = some (cellVal t c e)
  | [], c, h => by
    simp only [takeCol] at h
    split at h
    · injection h with h; subst h; exact ⟨rfl, fun e he => by simp at he⟩
    · injection h with h; subst h; exact ⟨rfl, fun e he => by simp at he⟩
    · injection h with h; subst h; exact ⟨rfl, fun e he => by simp at he⟩
    · cases h
  | v :: l, c, h => by
    simp only [takeCol] at h
    split at h
    · rename_i k _ k' x c' hc
      split at h
      · rename_i hk
        injection h with h
        obtain ⟨h1, h2⟩ := takeCol_ok hc
        grind[colOk,cellVal]
      · cases h
    · rename_i x c' hc
      injection h with h
      obtain ⟨h1, h2⟩ := takeCol_ok hc
      grind[colOk,cellVal]
    · rename_i x c' hc
      injection h with h
      obtain ⟨h1, h2⟩ := takeCol_ok hc
      grind[colOk,cellVal]
    · cases h
/-- each s-th of a list's cells, from f on -/
def stride (cells : List Value) (s f : Nat) : Nat → List Value
  | 0 => []
  | n + 1 => stride cells s f n ++ [(cells[n * s + f]?).getD undef]
theorem stride_get (cells : List Value) (s f : Nat) : ∀ (n : Nat), (stride cells s f n).length = n ∧ ∀ e, e < n → (stride cells s f n)[e]? = some ((cells[e * s + f]?).getD undef)
  := by intro a;induction a<;>intros<;>grind[stride]
def takeCols (cells : List Value) (s n : Nat) : Nat → List Value → Option (List Col)
  | _, [] => some []
  | f, t :: tm =>
    match takeCol t (stride cells s f n), takeCols cells s n (f + 1) tm with
    | some c, some r => some (c :: r)
    | _, _ => none
theorem takeCols_ok {cells : List Value} {s n : Nat} : ∀ {tm : List Value} {f0 : Nat} {cols : List Col}, takeCols cells s n f0 tm = some cols →
    cols.length = tm.length ∧ ∀ (f : Nat) (t : Value) (c : Col), tm[f]? = some t → cols[f]? = some c → colOk t c n ∧ ∀ e, e < n → (cells[e * s + (f0 + f)]?).getD undef = cellVal t c e
  | [], f0, cols, h => by
    grind[takeCols]
  | t0 :: tm, f0, cols, h => by
    simp only [takeCols] at h
    split at h
    · rename_i c r hc hr
      injection h with h
      subst h
      obtain ⟨h1, h2⟩ := takeCols_ok hr
      refine ⟨by simp [h1], fun f t c' g1 g2 => ?_⟩
      cases f with
      | zero =>
        grind[takeCol_ok,stride_get]
      | succ f =>
        grind
    · cases h
/-- a new row of elements, its cells known -/
theorem HM.pushRow {h : Hp R} (hm : HM D C ρ ft h w) (t : TypeId) (r : Row) (arr : Array Value) (cap : Nat) (h0 : 0 < r.tm.length) (hn : r.n ≤ cap) (hc : cap ≤ maxLen) (hs : arr.size = cap * r.tm.length) (hr : RowIn r arr 0) :
    HM D C (upd ρ h.length ⟨w.heap.size, 0, cap, false⟩) (upd ft h.length (fun k => k = w.heap.size)) (h ++ [some (.inr (.inl (t, r)))]) (w.alloc (.cells arr t)) := by
  refine hm.push ⟨w.heap.size, 0, cap, false⟩ (.cells arr t) rfl (.inr (.inl (t, r))) ?_ trivial
  grind[hold,upd_same,heap_alloc_new]
/-- a row that is nil -/
theorem HM.pushNil {h : Hp R} (hm : HM D C ρ ft h w) (t : TypeId) (r : Row) (h0 : 0 < r.tm.length) (hn : r.n = 0) (hl : r.cols.length = r.tm.length) (hc : ∀ (f : Nat) (t : Value) (c : Col), r.tm[f]? = some t → r.cols[f]? = some c → colOk t c r.n) (b o : Nat) :
    HM D C (upd ρ h.length ⟨b, o, 0, true⟩) ft (h ++ [some (.inr (.inl (t, r)))]) w := by
  have hno : ∀ k, ¬ ft h.length k := fun k hk => by
    obtain ⟨B, hB⟩ := hm.some_ _ _ hk
    grind
  refine hm.step (fun _ => False) (Kept.refl _ _) (fun i hi => upd_lt _ _ _ hi) (by simp) ?_ ?_ ?_ ?_
  · intro i B' hi hB'
    have hge : h.length ≤ i := Nat.le_of_not_lt hi
    have : i = h.length := by
      grind
    subst this
    simp at hB'
    subst hB'
    refine ⟨?_, trivial⟩
    simp only [hold, upd_same]
    exact ⟨fun k => by grind, h0, by omega, by simp, fun _ => trivial, #[], (fun h => by cases h), hl, hc, fun f t c e _ _ he => by omega⟩
  · grind
  · intro i k hi hk
    obtain ⟨B', hB'⟩ := hm.some_ i k hk
    grind
  · intro i j k hi hj hki hkj
    exact hm.apart i j k hki hkj
/-- the like of zero cells, n times -/
def repL (tm : List Value) : Nat → List Value
  | 0 => []
  | n + 1 => repL tm n ++ tm
theorem repL_length (tm : List Value) : ∀ n, (repL tm n).length = n * tm.length
  := by intro a;induction a<;>intros<;>grind[repL]
theorem repL_get (tm : List Value) (h0 : 0 < tm.length) : ∀ (n j : Nat), j < n * tm.length → (repL tm n)[j]? = tm[j % tm.length]?
  | 0, j, hj => by omega
  | n + 1, j, hj => by
    simp only [repL]
    rcases Nat.lt_or_ge j (n * tm.length) with hlt | hge
    · rw [List.getElem?_append_left (by grind[repL_length])]
      exact repL_get tm h0 n j hlt
    · rw [List.getElem?_append_right (by grind[repL_length]), repL_length]
      have : j % tm.length = j - n * tm.length := by
        rw [Nat.add_mul, Nat.one_mul] at hj
        obtain ⟨d, rfl⟩ : ∃ d, j = n * tm.length + d := ⟨j - n * tm.length, by omega⟩
        grind[Nat.add_mul_mod_self_right,Nat.mod_eq_of_lt]
      rw [this]
theorem rep_eq (z : Array Value) (h0 : 0 < z.size) (n : Nat) : ((Array.range (n * z.size)).map (z[· % z.size]!)) = (repL z.toList n).toArray := by
  apply Array.ext'
  apply List.ext_getElem?
  grind[repL_get,repL_length]
def flatParts : List (Nat × Value) → Bool
  | [] => true
  | (_, v) :: l => flat v && flatParts l
theorem flatParts_map {l : List (Nat × Value)} (h : flatParts l = true) : l.map (fun (i, v) => (i, ren ρ v)) = l := by
  induction l with
  | nil => rfl
  | cons p l ih =>
    simp_all[flatParts,flat_ren]
/-- what the elements of a slice type are: their type, their zero cells, their bytes -/
def elemOf (P : Program) (t : TypeId) : Option (TypeId × List Value × Nat) :=
  match P.underlying t with
  | some (.slice el) =>
    match P.info? el with
    | some inf => match inf.zero with
      | some z => if flatL z.cells.toList && Nat.beq inf.size z.cells.toList.length && Nat.blt 0 inf.size && Nat.blt inf.size 1000 then some (el, z.cells.toList, inf.bytes) else none
      | none => none
    | none => none
  | _ => none
theorem elemOf_ok {t el : TypeId} {tm : List Value} {by_ : Nat} (h : elemOf P t = some (el, tm, by_)) :
    ∃ inf z, P.underlying t = some (.slice el) ∧ P.info? el = some inf ∧ inf.zero = some z ∧ z.cells.toList = tm ∧ inf.size = tm.length ∧ inf.bytes = by_ ∧ flatL tm = true ∧ 0 < tm.length ∧ tm.length < 1000 := by
  unfold elemOf at h
  split at h
  · rename_i el' hu
    split at h
    · rename_i inf hi
      split at h
      · rename_i z hz
        split at h
        · rename_i hc
          simp only [Bool.and_eq_true, Nat.blt_eq] at hc
          grind[Nat.eq_of_beq_eq_true]
        · cases h
      · cases h
    · cases h
  · cases h
def opBuildSlice (P : Program) (σ : SS R) (t : TypeId) (len : Nat) (parts : List (Nat × Operand)) : Option (Out R) :=
  match elemOf P t, evParts σ.tm parts with
  | some (el, tm, _), some ps =>
    if flatParts ps && Nat.ble (len * tm.length) 1000000 then
      match fillL (fun i => some (i * tm.length, tm.length)) (repL tm len) ps with
      | some cells => match takeCols cells tm.length len 0 tm with
        | some cols => some ⟨True, .slice (some ⟨σ.hp.length, 0, some (1000 * tm.length)⟩) len len, none, σ.hp ++ [some (.inr (.inl (el, ⟨tm, len, cols⟩)))], [], [(σ.hp.length, 0)]⟩
        | none => none
      | none => none
    else none
  | _, _ => none
theorem opBuildSlice_ok {σ : SS R} {o : Oper} {t : TypeId} {len : Nat} {parts : Array (Nat × Operand)} {x : Out R} (ho : o.op = .buildSlice t len parts) (h : opBuildSlice P σ t len parts.toList = some x) : OpOk D P o σ x := by
  unfold opBuildSlice at h
  split at h
  · rename_i el tm by_ ps he hps
    obtain ⟨inf, z, hu, hi, hz, htm, hsz, _, hfl, h0, h1k⟩ := elemOf_ok he
    split at h
    · rename_i hc
      simp only [Bool.and_eq_true] at hc
      have hle := Nat.le_of_ble_eq_true hc.2
      split at h
      · rename_i cells hcells
        split at h
        · rename_i cols hcols
          injection h with h
          subst h
          refine ⟨fun C ρ ft a w K Q ht hli hm _ hK => ?_, by simp, fun _ b hb => by cases hb⟩
          obtain ⟨h1, h2⟩ := evParts_map ht hps
          rw [flatParts_map hc.1] at h1
          obtain ⟨h3, h4⟩ := fillL_fill (ρ := ρ) hcells
          rw [flatParts_map hc.1] at h3
          have hrepf : flatL (repL tm len) = true := by
            grind[flatL_iff,List.getElem?_of_mem,repL_length,repL_get]
          rw [flat_map hrepf] at h3
          have hpl : (parts.map fun (i, y) => (i, a.eval y)).toList = ps := by
            simp[*]
          have hzs : z.cells.size = tm.length := by grind
          have hzero : (Array.range (len * tm.length)).map ((if len * tm.length = 0 then (#[] : Array Value) else z.cells)[· % (if len * tm.length = 0 then (#[] : Array Value) else z.cells).size]!) = (repL tm len).toArray := by
            by_cases hz0 : len * tm.length = 0
            · grind[Nat.mul_eq_zero,repL]
            · grind[rep_eq]
          have hclen : cells.length = len * tm.length := by rw [h4, repL_length]
          obtain ⟨c1, c2⟩ := takeCols_ok hcols
          have hrow : RowIn ⟨tm, len, cols⟩ (cells.map (ren ρ)).toArray 0 := by
            refine ⟨c1, fun f t c g1 g2 => (c2 f t c g1 g2).1, fun f t c e g1 g2 g3 => ?_⟩
            have hfl' : f < tm.length := (List.getElem?_eq_some_iff.1 g1).1
            have hlt : e * tm.length + f < cells.length := by
              have := Nat.mul_le_mul_right tm.length (show e + 1 ≤ len from g3)
              grind
            obtain ⟨k1, k2⟩ := c2 f t c g1 g2
            have := k2 e g3
            rw [Nat.zero_add, List.getElem?_eq_getElem hlt, Option.getD_some] at this
            grind[flat_ren,cellVal_flat]
          have hrun : (execOp a.eval o).run P w = .ok (.value (.slice (some ⟨w.heap.size, 0, none⟩) len len)) (w.alloc (.cells (cells.map (ren ρ)).toArray el)) := by
            have hbig : ¬ len * tm.length > 2 ^ 24 := by omega
            simp only [execOp, ho, Instr.buildSlice, Sem.run_bind, run_underlying hu, Result.andThen_ok, sizeOf, typeInfo, run_program, hi, Sem.run_pure, hsz, if_neg hbig, hpl]
            by_cases hz0 : len * tm.length = 0
            · rw [if_pos hz0] at hzero
              rw [hz0] at hzero
              simp only [hz0, if_true, Sem.run_bind, Sem.run_pure, Result.andThen_ok]
              rw [hzero, h3]
              rfl
            · rw [if_neg hz0] at hzero
              simp only [hz0, if_false, Sem.run_bind, zeroValue, typeInfo, run_program, Result.andThen_ok, hi, hz, Sem.run_pure]
              rw [hzero, h3]
              rfl
          refine wp_value hrun ?_
          have hp := hm.pushRow el ⟨tm, len, cols⟩ (cells.map (ren ρ)).toArray len h0 (Nat.le_refl _) (by
            have : len ≤ len * tm.length := Nat.le_mul_of_pos_right _ h0
            unfold maxLen; omega) (by grind) hrow
          have := hK _ _ _ (fun i hi => upd_lt ρ σ.hp.length ⟨w.heap.size, 0, len, false⟩ hi) hp
          grind[ren,renS,renA,upd_same,cellOf]
        · cases h
      · cases h
    · cases h
  · cases h
/-- a new row of elements, known cell by cell (they may lead to blocks) -/
def opBuildCells (P : Program) (σ : SS R) (t : TypeId) (len : Nat) (parts : List (Nat × Operand)) : Option (Out R) :=
  match elemOf P t, evParts σ.tm parts with
  | some (el, tm, _), some ps =>
    if Nat.ble (len * tm.length) 1000000 && Nat.blt 0 len then
      match fillL (fun i => some (i * tm.length, tm.length)) (repL tm len) ps with
      | some cells => if inbL σ.hp.length cells then some ⟨True, .slice (some ⟨σ.hp.length, 0, none⟩) len len, none, σ.hp ++ [some (.inl (el, cells))], [], [(σ.hp.length, 0)]⟩ else none
      | none => none
    else none
  | _, _ => none
theorem opBuildCells_ok {σ : SS R} {o : Oper} {t : TypeId} {len : Nat} {parts : Array (Nat × Operand)} {x : Out R} (ho : o.op = .buildSlice t len parts) (h : opBuildCells P σ t len parts.toList = some x) : OpOk D P o σ x := by
  unfold opBuildCells at h
  split at h
  · rename_i el tm by_ ps he hps
    obtain ⟨inf, z, hu, hi, hz, htm, hsz, _, hfl, h0, h1k⟩ := elemOf_ok he
    split at h
    · rename_i hc
      simp only [Bool.and_eq_true, Nat.blt_eq] at hc
      have hle := Nat.le_of_ble_eq_true hc.1
      split at h
      · rename_i cells hcells
        split at h
        · rename_i hin
          injection h with h
          subst h
          refine ⟨fun C ρ ft a w K Q ht hli hm _ hK => ?_, by simp, fun _ b hb => by cases hb⟩
          obtain ⟨h1, h2⟩ := evParts_map ht hps
          obtain ⟨h3, h4⟩ := fillL_fill (ρ := ρ) hcells
          have hrepf : flatL (repL tm len) = true := by
            grind[flatL_iff,List.getElem?_of_mem,repL_length,repL_get]
          rw [flat_map hrepf] at h3
          have hpl : (parts.map fun (i, y) => (i, a.eval y)).toList = ps.map fun (i, v) => (i, ren ρ v) := by
            simp[*]
          have hzs : z.cells.size = tm.length := by grind
          have hne : ¬ len * tm.length = 0 := by
            grind[Nat.mul_eq_zero]
          have hzero : (Array.range (len * tm.length)).map (z.cells[· % z.cells.size]!) = (repL tm len).toArray := by
            grind[rep_eq]
          have hrun : (execOp a.eval o).run P w = .ok (.value (.slice (some ⟨w.heap.size, 0, none⟩) len len)) (w.alloc (.cells (cells.map (ren ρ)).toArray el)) := by
            have hbig : ¬ len * tm.length > 2 ^ 24 := by omega
            simp only [execOp, ho, Instr.buildSlice, Sem.run_bind, run_underlying hu, Result.andThen_ok, sizeOf, typeInfo, run_program, hi, Sem.run_pure, hsz, if_neg hbig, hpl]
            simp only [hne, if_false, Sem.run_bind, zeroValue, typeInfo, run_program, Result.andThen_ok, hi, hz, Sem.run_pure]
            rw [hzero, h3]
            rfl
          have hren : cells.map (ren (upd ρ σ.hp.length ⟨w.heap.size, 0, 0, false⟩)) = cells.map (ren ρ) :=
            List.map_congr_left fun v hv => ren_congr (n := σ.hp.length) (fun i hi => upd_lt _ _ _ hi) v (inbL_iff.1 hin v hv)
          have hp := hm.push (D := D) ⟨w.heap.size, 0, 0, false⟩ (.cells (cells.map (ren ρ)).toArray el) rfl (.inl (el, cells)) (by
            refine ⟨by rw [upd_same], fun k => by rw [upd_same], ?_⟩
            grind[upd_same,heap_alloc_new]) (inbL_mono (Nat.le_succ _) _ hin)
          grind[wp_value,upd_lt,ren,renS,renA,upd_same,cellOf]
        · cases h
      · cases h
    · cases h
  · cases h
/-- a column of zeros -/
def zeroCol (t : Value) (n : Nat) : Option Col :=
  match t with
  | .int _ x => some { noCol with i := List.replicate n x }
  | .bool x => some { noCol with b := List.replicate n x }
  | .string x => some { noCol with s := List.replicate n x }
  | _ => none
def zeroCols : List Value → Nat → Option (List Col)
  | [], _ => some []
  | t :: tm, n =>
    match zeroCol t n, zeroCols tm n with
    | some c, some r => some (c :: r)
    | _, _ => none
theorem zeroCol_ok {t : Value} {n : Nat} {c : Col} (h : zeroCol t n = some c) : colOk t c n ∧ ∀ e, e < n → cellVal t c e = t := by
  unfold zeroCol at h
  grind[colOk,cellVal]
theorem zeroCols_ok : ∀ {tm : List Value} {n : Nat} {cols : List Col}, zeroCols tm n = some cols → cols.length = tm.length ∧ ∀ (f : Nat) (t : Value) (c : Col), tm[f]? = some t → cols[f]? = some c → colOk t c n ∧ ∀ e, e < n → cellVal t c e = t
  := by intro a;induction a<;>intros<;>grind[zeroCols,zeroCol_ok]
/-- nil, as a row without elements -/
def opNilSlice (P : Program) (σ : SS R) (t : TypeId) : Option (Out R) :=
  match elemOf P t with
  | some (el, tm, _) => match zeroCols tm 0 with
    | some cols => some ⟨True, .slice (some ⟨σ.hp.length, 0, some (1000 * tm.length)⟩) 0 0, none, σ.hp ++ [some (.inr (.inl (el, ⟨tm, 0, cols⟩)))], [], [(σ.hp.length, 0)]⟩
    | none => none
  | none => none
theorem opNilSlice_ok {σ : SS R} {o : Oper} {t : TypeId} {n c : Nat} {y : Operand} {x : Out R} (ho : o.op = .move y ∨ o.op = .assign y) (hy : ev σ.tm y = some (.slice none 0 0)) (h : opNilSlice P σ t = some x) : OpOk D P o σ x := by
  unfold opNilSlice at h
  split at h
  · rename_i el tm by_ he
    obtain ⟨inf, z, hu, hi, hz, htm, hsz, _, hfl, h0, h1k⟩ := elemOf_ok he
    split at h
    · rename_i cols hcols
      injection h with h
      subst h
      refine ⟨fun C ρ ft a w K Q ht hli hm _ hK => ?_, by simp, fun _ b hb => by cases hb⟩
      obtain ⟨c1, c2⟩ := zeroCols_ok hcols
      have hv := (ev_eval ht hy).1
      have hrun : (execOp a.eval o).run P w = .ok (.value (.slice none 0 0)) w := by
        simp only [ren] at hv
        rcases ho with ho | ho <;> simp [execOp, ho, hv]
      refine wp_value hrun ?_
      have hp := hm.pushNil el ⟨tm, 0, cols⟩ h0 rfl c1 (fun f t c g1 g2 => (c2 f t c g1 g2).1) 0 0
      grind[upd_lt,ren,renS,upd_same]
    · cases h
  · cases h
def opMakeSlice (P : Program) (σ : SS R) (t : TypeId) (y z : Operand) : Option (Out R) :=
  match elemOf P t, ev σ.tm y, ev σ.tm z with
  | some (el, tm, by_), some (.int _ l), some (.int _ c) =>
    match zeroCols tm l.toNat with
    | some cols => some ⟨0 ≤ l ∧ l ≤ c ∧ c * by_ ≤ 140737488355328 ∧ c ≤ 140737488355328, .slice (some ⟨σ.hp.length, 0, some (1000 * tm.length)⟩) l.toNat c.toNat, none, σ.hp ++ [some (.inr (.inl (el, ⟨tm, l.toNat, cols⟩)))], [], [(σ.hp.length, 0)]⟩
    | none => none
  | _, _, _ => none
theorem opMakeSlice_ok {σ : SS R} {o : Oper} {t : TypeId} {y z : Operand} {x : Out R} (ho : o.op = .makeSlice t y z) (h : opMakeSlice P σ t y z = some x) : OpOk D P o σ x := by
  unfold opMakeSlice at h
  split at h
  · rename_i el tm by_ k l k' c he hl hcp
    obtain ⟨inf, zv, hu, hi, hz, htm, hsz, hby, hfl, h0, h1k⟩ := elemOf_ok he
    split at h
    · rename_i cols hcols
      injection h with h
      subst h
      refine ⟨fun C ρ ft a w K Q ht hli hm hv hK => ?_, by simp, fun _ b hb => by cases hb⟩
      obtain ⟨v0, v1, v2, v3⟩ := hv
      obtain ⟨c1, c2⟩ := zeroCols_ok hcols
      have h1 := (ev_eval ht hl).1
      have h2 := (ev_eval ht hcp).1
      simp only [ren_int] at h1 h2
      obtain ⟨ln, rfl⟩ := Int.eq_ofNat_of_zero_le v0
      obtain ⟨cn, rfl⟩ := Int.eq_ofNat_of_zero_le (Int.le_trans v0 v1)
      have hzs : zv.cells.size = tm.length := by grind
      have hw1 : IntKind.i64.wrap (ln : Int) = ln := fits_wrap ⟨by omega, by omega⟩
      have hw2 : IntKind.i64.wrap (cn : Int) = cn := fits_wrap ⟨by omega, by omega⟩
      have harr : (Array.range (cn * tm.length)).map ((if cn * tm.length = 0 then (#[] : Array Value) else zv.cells)[· % (if cn * tm.length = 0 then (#[] : Array Value) else zv.cells).size]!) = (repL tm cn).toArray := by
        by_cases hz0 : cn * tm.length = 0
        · grind[Nat.mul_eq_zero,repL]
        · grind[rep_eq]
      have hb2 : (by_ : Int) * (cn : Int) ≤ 281474976710656 := by grind
      have hrun : (execOp a.eval o).run P w = .ok (.value (.slice (some ⟨w.heap.size, 0, none⟩) ln cn)) (w.alloc (.cells (repL tm cn).toArray el)) := by
        simp only [execOp, ho, h1, h2, Instr.makeSlice, Sem.run_bind, run_underlying hu, Result.andThen_ok, asInt, asIntOf, Sem.run_pure, typeInfo, run_program, hi, hw1, hw2, hby]
        have hcond : (decide ((cn : Int) < 0) || decide ((by_ : Int) * (cn : Int) > 2 ^ 48) || decide ((ln : Int) < 0) || decide ((ln : Int) > (cn : Int))) = false := by
          grind
        simp only [hcond, Bool.false_eq_true, if_false, Sem.run_pure, Result.andThen_ok, run_askRoom, sizeOf, typeInfo, Sem.run_bind, run_program, hi, hsz, Int.toNat_natCast]
        by_cases hz0 : cn * tm.length = 0
        · rw [if_pos hz0] at harr
          rw [hz0] at harr
          simp only [hz0, if_true, Sem.run_bind, Sem.run_pure, Result.andThen_ok]
          rw [harr]
          rfl
        · rw [if_neg hz0] at harr
          simp only [hz0, if_false, Sem.run_bind, zeroValue, typeInfo, run_program, Result.andThen_ok, hi, hz, Sem.run_pure]
          rw [harr]
          rfl
      refine wp_value hrun ?_
      have hrow : RowIn ⟨tm, ln, cols⟩ (repL tm cn).toArray 0 := by
        refine ⟨c1, fun f t c g1 g2 => (c2 f t c g1 g2).1, fun f t c e g1 g2 g3 => ?_⟩
        have hfl' : f < tm.length := (List.getElem?_eq_some_iff.1 g1).1
        have hlt : e * tm.length + f < cn * tm.length := by
          have := Nat.mul_le_mul_right tm.length (show e + 1 ≤ cn by grind)
          grind
        grind[Nat.add_mul_mod_self_right,Nat.mod_eq_of_lt]
      have hp := hm.pushRow el ⟨tm, ln, cols⟩ (repL tm cn).toArray cn h0 (by grind) (by unfold maxLen; omega) (by grind) hrow
      grind[upd_lt,ren,renS,renA,upd_same,cellOf]
    · cases h
  · cases h
end
end Go.Proofs.YtobdpddamdkabaaDoor.Rx
namespace Go.Proofs.YtobdpddamdkabaaDoor.Rx
open Go.RowKit Go.Proofs.YtobdpddamdkabaaDoor.State
set_option linter.unusedVariables false
set_option linter.unusedSimpArgs false
section
variable {R : Type} {D : Res R} {P : Program} {C : Ctx} {ρ : Env} {ft : Nat → Nat → Prop} {w w' : World}
/-- the length of a slice -/
def opLen (P : Program) (σ : SS R) (t : TypeId) (y : Operand) : Option (Out R) :=
  match ev σ.tm y, P.underlying t with
  | some (.slice (some _) n _), some (.slice _) => some (quietOut σ True (.int .i64 n) none [])
  | _, _ => none
theorem opLen_ok {σ : SS R} {o : Oper} {t : TypeId} {y : Operand} {x : Out R} (ho : o.op = .call { callee := .builtin .len, args := #[y], argTypes := #[t] }) (h : opLen P σ t y = some x) : OpOk D P o σ x := by
  unfold opLen at h
  split at h
  · rename_i ad n c el ha hu
    injection h with h
    subst h
    refine quiet_ok (fun C ρ ft a w ht hli hm _ => ?_) (fun hli c hc => by cases hc)
    have h1 := (ev_eval ht ha).1
    simp only [ren] at h1
    obtain ⟨A, c', e⟩ := renS_form (ρ := ρ) ad n c
    rw [e] at h1
    simp [execOp, ho, resolve, invoke, builtin, h1, Builtin.len_, run_underlying hu, goInt]
  · cases h
/-- a text's octet -/
def byteAt (s : ByteArray) (i : Nat) : Int := ((s.data.toList[i]?).getD 0).toNat
def opIndexStr (P : Program) (σ : SS R) (t : TypeId) (y z : Operand) : Option (Out R) :=
  match ev σ.tm y, ev σ.tm z, P.underlying t with
  | some (.string s), some (.int _ j), some .string => some (quietOut σ (0 ≤ j ∧ j < s.size) (.int .u8 (byteAt s j.toNat)) none [])
  | _, _, _ => none
theorem opIndexStr_ok {σ : SS R} {o : Oper} {t : TypeId} {y z : Operand} {x : Out R} (ho : o.op = .index t y z) (h : opIndexStr P σ t y z = some x) : OpOk D P o σ x := by
  unfold opIndexStr at h
  split at h
  · rename_i s k j ha hb hu
    injection h with h
    subst h
    refine quiet_ok (fun C ρ ft a w ht hli hm hv => ?_) (fun hli c hc => by cases hc)
    obtain ⟨v0, v1⟩ := hv
    have h1 := (ev_eval ht ha).1
    have h2 := (ev_eval ht hb).1
    simp only [ren_string] at h1
    have hlt : j.toNat < s.size := by omega
    have hlt2 : j.toNat < s.data.toList.length := by simp[*]
    have hget : s[j.toNat]? = some (s[j.toNat]) := by simp
    have hb : (s[j.toNat].toNat : Int) = byteAt s j.toNat := by
      unfold byteAt
      rw [List.getElem?_eq_getElem hlt2]
      rfl
    simp only [execOp, ho, h1, h2, Instr.index, asIntOf, Sem.run_bind, Sem.run_pure, Result.andThen_ok, run_underlying hu, v0, if_true, hget, ren_int, ← hb]
  · cases h
/-- a bound of a cut -/
def evB (tm : List (Option Value)) : Option Operand → Option (Option Int)
  | none => some none
  | some y => match ev tm y with
    | some (.int _ j) => some (some j)
    | _ => none
theorem evB_eval {n : Nat} {tm : List (Option Value)} {a : Act} {y : Option Operand} {b : Option Int} (ht : TM ρ n tm a) (h : evB tm y = some b) :
    (∃ (k : IntKind), ∃ j, b = some j ∧ y.map a.eval = some (.int k j)) ∨ (b = none ∧ y.map a.eval = none) := by
  cases y with
  | none => grind[evB]
  | some y =>
    simp only [evB] at h
    split at h
    · rename_i k j hj
      injection h with h
      have := (ev_eval ht hj).1
      simp[*]
    · cases h
theorem sliceBounds_run {isS : Bool} {len cap : Nat} {lo hi : Option Value} {l h : Int} (w : World)
    (hl : (∃ k, lo = some (.int k l)) ∨ (lo = none ∧ l = 0)) (hh : (∃ k, hi = some (.int k h)) ∨ (hi = none ∧ h = len)) (h0 : 0 ≤ l) (h1 : l ≤ h) (h2 : h ≤ cap) :
    (Instr.sliceBounds isS len cap lo hi none).run P w = .ok (l.toNat, h.toNat, cap) w := by
  have hh0 : 0 ≤ h := by omega
  obtain ⟨lN, rfl⟩ := Int.eq_ofNat_of_zero_le h0
  obtain ⟨hN, rfl⟩ := Int.eq_ofNat_of_zero_le hh0
  have hA : hN ≤ cap := by omega
  have hB : lN ≤ hN := by omega
  rcases hl with ⟨k, rfl⟩ | ⟨rfl, hl0⟩ <;> rcases hh with ⟨k', rfl⟩ | ⟨rfl, hhl⟩
  · simp [Instr.sliceBounds, Instr.sliceBound, asIntOf, hA, hB]
  · obtain rfl : hN = len := by omega
    simp [Instr.sliceBounds, Instr.sliceBound, asIntOf, hA, hB]
  · obtain rfl : lN = 0 := by omega
    simp [Instr.sliceBounds, Instr.sliceBound, asIntOf, hA, hB]
  · obtain rfl : hN = len := by omega
    obtain rfl : lN = 0 := by omega
    rfl
def opSlice (P : Program) (σ : SS R) (t : TypeId) (y : Operand) (lo hi mx : Option Operand) : Option (Out R) :=
  match mx with
  | some _ => none
  | none =>
    match ev σ.tm y, evB σ.tm lo, evB σ.tm hi with
    | some (.string s), some l, some h =>
      match P.underlying t with
      | some .string => some (quietOut σ (0 ≤ l.getD 0 ∧ l.getD 0 ≤ h.getD s.size ∧ h.getD s.size ≤ s.size) (.string (s.extract (l.getD 0).toNat (h.getD s.size).toNat)) none [])
      | _ => none
    | some (.slice (some ⟨i, e0, some q⟩) n c), some l, some h =>
      match elemOf P t, rowOf σ.hp[i]? with
      | some (el, tm, _), some r =>
        if Nat.beq (q % 1000000) (1000 * tm.length) && Nat.beq tm.length r.tm.length then
          match l with
          | none => some (quietOut σ (0 ≤ h.getD n ∧ h.getD n ≤ n ∧ e0 + n ≤ r.n) (.slice (some ⟨i, e0, some q⟩) (h.getD n).toNat c) none [])
          | some l => match Nat.blt q 1000000 with
            | true => some (quietOut σ (e0 = 0 ∧ 0 ≤ l ∧ l ≤ h.getD n ∧ h.getD n ≤ n ∧ e0 + n ≤ r.n) (.slice (some ⟨i, e0 + l.toNat, some (1000 * tm.length + 1000000 * (i + 1))⟩) (h.getD n - l).toNat c) none [])
            | false => some ⟨0 ≤ l ∧ l ≤ h.getD n ∧ h.getD n ≤ n ∧ e0 + n ≤ r.n, .slice (some ⟨i, e0 + l.toNat, some (1000 * tm.length + 1000000 * (σ.hp.length + 1))⟩) (h.getD n - l).toNat c, none, σ.hp ++ [none], [], [(σ.hp.length, 0)]⟩
        else none
      | _, _ => none
    | _, _, _ => none
theorem sel_hi {hi : Option Operand} {h : Option Int} {a : Act} {n : Nat} (hx : (∃ (k : IntKind), ∃ j, h = some j ∧ hi.map a.eval = some (.int k j)) ∨ (h = none ∧ hi.map a.eval = none)) :
    (∃ k, hi.map a.eval = some (.int k (h.getD n))) ∨ (hi.map a.eval = none ∧ h.getD n = n) := by grind
theorem sel_lo {lo : Option Operand} {l : Option Int} {a : Act} (hx : (∃ (k : IntKind), ∃ j, l = some j ∧ lo.map a.eval = some (.int k j)) ∨ (l = none ∧ lo.map a.eval = none)) :
    (∃ k, lo.map a.eval = some (.int k (l.getD 0))) ∨ (lo.map a.eval = none ∧ l.getD 0 = 0) := by grind
theorem slice_run {t el : TypeId} {A : Option Addr} {n cap : Nat} {lo hi : Option Value} {l h : Int} {inf : TypeInfo} (w : World) (hu : P.underlying t = some (.slice el)) (hinf : P.info? el = some inf)
    (hl : (∃ k, lo = some (.int k l)) ∨ (lo = none ∧ l = 0)) (hh : (∃ k, hi = some (.int k h)) ∨ (hi = none ∧ h = n)) (h0 : 0 ≤ l) (h1 : l ≤ h) (h2 : h ≤ cap) :
    (Instr.sliceAt t (.slice A n cap) lo hi none).run P w = .ok (.slice (if cap = l.toNat then A else A.map (·.add (l.toNat * inf.size))) (h.toNat - l.toNat) (cap - l.toNat)) w := by
  have hb := sliceBounds_run (P := P) (isS := true) (len := n) (cap := cap) w hl hh h0 h1 h2
  simp [Instr.sliceAt, run_underlying hu, Instr.slice, hb, sizeOf, typeInfo, hinf]
theorem opSlice_ok {σ : SS R} {o : Oper} {t : TypeId} {y : Operand} {lo hi mx : Option Operand} {x : Out R} (ho : o.op = .slice t y lo hi mx) (h : opSlice P σ t y lo hi mx = some x) : OpOk D P o σ x := by
  unfold opSlice at h
  split at h
  · cases h
  · split at h
    · rename_i s l hh ha hl hhi
      split at h
      · rename_i hu
        injection h with h
        subst h
        refine quiet_ok (fun C ρ ft a w ht hli hm hv => ?_) (fun hli c hc => by cases hc)
        obtain ⟨v0, v1, v2⟩ := hv
        have h1 := (ev_eval ht ha).1
        have hb := sliceBounds_run (P := P) (isS := false) (len := s.size) (cap := s.size) w (sel_lo (evB_eval ht hl)) (sel_hi (n := s.size) (evB_eval ht hhi)) v0 v1 v2
        simp [execOp, ho, h1, Instr.sliceAt, run_underlying hu, Instr.slice, hb]
      · cases h
    · rename_i i e0 q n c l hh ha hl hhi
      split at h
      · rename_i el tm by_ r he hr
        obtain ⟨inf, z, hu, hinf, hz, htm, hsz, _, hfl, h0, h1k⟩ := elemOf_ok he
        split at h
        · rename_i hc
          simp only [Bool.and_eq_true] at hc
          have hq := Nat.eq_of_beq_eq_true hc.1
          have hq1 : q % 1000000 / 1000 = tm.length := by omega
          have hq2 : q % 1000 = 0 := by omega
          split at h
          · injection h with h
            subst h
            refine quiet_ok (fun C ρ ft a w ht hli hm hv => ?_) (fun hli c hc => by cases hc)
            obtain ⟨v0, v1, v2⟩ := hv
            have h1 := (ev_eval ht ha).1
            obtain ⟨g1, g2, _⟩ := row_reads hm hr
            have hlo : (∃ k, lo.map a.eval = some (.int k 0)) ∨ (lo.map a.eval = none ∧ (0 : Int) = 0) := by
              grind[evB_eval]
            have hhx := sel_hi (n := n) (evB_eval ht hhi)
            have hadd : ∀ A : Option Addr, (A.map fun x => x.add 0) = A := fun A => by cases A <;> simp [Addr.add]
            have hnil := (fun (hz : (ρ i).nil = true) => (show (ρ i).cap = 0 from by
              unfold rowOf at hr
              split at hr
              · rename_i t0 r0 hi; exact (hm.at_ i _ hi).1.2.2.2.2.1 hz
              · rename_i r0 hi; exact (hm.at_ i _ hi).1.2.2.2.2.1 hz
              grind))
            simp only [ren, renS] at h1 ⊢
            by_cases hn : (ρ i).nil = true
            · rw [if_pos hn] at h1 ⊢
              have hcap := hnil hn
              have hn0 : n = 0 := by omega
              subst hn0
              have hr2 := slice_run (P := P) (A := none) (n := 0) (cap := 0) w hu hinf hlo hhx (Int.le_refl 0) v0 (by omega)
              simp [execOp, ho, h1, hr2]
            · rw [if_neg hn] at h1 ⊢
              by_cases hex : q / 1000000 ≠ 0 ∧ (ρ i).cap ≤ e0
              · rw [if_pos hex] at h1 ⊢
                have hn0 : n = 0 := by omega
                subst hn0
                have hr2 := slice_run (P := P) (A := some ⟨(ρ (q / 1000000 - 1)).blk, (ρ (q / 1000000 - 1)).off, none⟩) (n := 0) (cap := 0) w hu hinf hlo hhx (Int.le_refl 0) v0 (by omega)
                simp [execOp, ho, h1, hr2]
              · rw [if_neg hex] at h1 ⊢
                have hr2 := slice_run (P := P) (A := some (renA ρ ⟨i, e0, some q⟩)) (n := n) (cap := (ρ i).cap - e0) w hu hinf hlo hhx (Int.le_refl 0) v0 (by omega)
                simp [execOp, ho, h1, hr2, hadd]
          · rename_i l
            split at h
            · rename_i hb0
              have hq0 : q < 1000000 := by simp_all
              injection h with h
              subst h
              refine quiet_ok (fun C ρ ft a w ht hli hm hv => ?_) (fun hli c hc => by cases hc)
              obtain ⟨hz0, v0, v1, v2, v3⟩ := hv
              subst hz0
              have h1 := (ev_eval ht ha).1
              obtain ⟨g1, g2, _⟩ := row_reads hm hr
              have hlo : (∃ k, lo.map a.eval = some (.int k l)) ∨ (lo.map a.eval = none ∧ l = 0) := by
                grind[evB_eval]
              have hhx := sel_hi (n := n) (evB_eval ht hhi)
              have hnil := (fun (hz : (ρ i).nil = true) => (show (ρ i).cap = 0 from by
                unfold rowOf at hr
                split at hr
                · rename_i t0 r0 hi; exact (hm.at_ i _ hi).1.2.2.2.2.1 hz
                · rename_i r0 hi; exact (hm.at_ i _ hi).1.2.2.2.2.1 hz
                grind))
              have e1 : (1000 * tm.length + 1000000 * (i + 1)) / 1000000 = i + 1 := by omega
              have e2 : (1000 * tm.length + 1000000 * (i + 1)) % 1000000 / 1000 = tm.length := by omega
              have e3 : (1000 * tm.length + 1000000 * (i + 1)) % 1000 = 0 := by omega
              have hex : ¬ (q / 1000000 ≠ 0 ∧ (ρ i).cap ≤ 0) := fun h => h.1 (by omega)
              simp only [ren, renS] at h1 ⊢
              by_cases hn : (ρ i).nil = true
              · rw [if_pos hn] at h1 ⊢
                have hcap := hnil hn
                have hn0 : n = 0 := by omega
                subst hn0
                have hl0 : l = 0 := by omega
                subst hl0
                have hr2 := slice_run (P := P) (A := none) (n := 0) (cap := 0) w hu hinf hlo hhx v0 v1 (by omega)
                simp [execOp, ho, h1, hr2]
              · rw [if_neg hn, if_neg hex, Nat.sub_zero] at h1
                rw [if_neg hn]
                have hr2 := slice_run (P := P) (A := some (renA ρ ⟨i, 0, some q⟩)) (n := n) (cap := (ρ i).cap) w hu hinf hlo hhx v0 v1 (by omega)
                have hx : (execOp a.eval o).run P w = .ok (.value (.slice (if (ρ i).cap = l.toNat then some (renA ρ ⟨i, 0, some q⟩) else (some (renA ρ ⟨i, 0, some q⟩)).map (·.add (l.toNat * inf.size))) ((hh.getD ↑n).toNat - l.toNat) ((ρ i).cap - l.toNat))) w := by
                  simp only [execOp, ho, h1, Option.map_none, hr2, Sem.run_bind, Result.andThen_ok, Sem.run_pure]
                rw [hx]
                have hsub : (hh.getD ↑n - l).toNat = (hh.getD ↑n).toNat - l.toNat := by omega
                have hsz2 : inf.size = tm.length := by rw [hsz]
                rw [hsub]
                by_cases hc2 : (ρ i).cap = l.toNat
                · simp_all[renA,cellOf]
                · rw [if_neg hc2, if_neg (fun h => hc2 (by omega))]
                  simp_all[renA,cellOf,add_at]
            · injection h with h
              subst h
              refine ⟨fun C ρ ft a w K Q ht hli hm hv hK => ?_, by simp, fun _ b hb => by cases hb⟩
              obtain ⟨v0, v1, v2, v3⟩ := hv
              have h1 := (ev_eval ht ha).1
              obtain ⟨hb1, hb2⟩ := ev_eval ht ha
              simp only [inb, Bool.and_eq_true, Nat.blt_eq] at hb2
              have hil : i < σ.hp.length := hb2.1
              obtain ⟨g1, g2, _⟩ := row_reads hm hr
              have hlo : (∃ k, lo.map a.eval = some (.int k l)) ∨ (lo.map a.eval = none ∧ l = 0) := by
                grind[evB_eval]
              have hhx := sel_hi (n := n) (evB_eval ht hhi)
              have hnil := (fun (hz : (ρ i).nil = true) => (show (ρ i).cap = 0 from by
                unfold rowOf at hr
                split at hr
                · rename_i t0 r0 hi; exact (hm.at_ i _ hi).1.2.2.2.2.1 hz
                · rename_i r0 hi; exact (hm.at_ i _ hi).1.2.2.2.2.1 hz
                grind))
              generalize hN : σ.hp.length = N at *
              have e1 : (1000 * tm.length + 1000000 * (N + 1)) / 1000000 = N + 1 := by omega
              have e2 : (1000 * tm.length + 1000000 * (N + 1)) % 1000000 / 1000 = tm.length := by omega
              have e3 : (1000 * tm.length + 1000000 * (N + 1)) % 1000 = 0 := by omega
              have hfin : ∀ (A : Addr) (v : Value), (execOp a.eval o).run P w = .ok (.value v) w →
                  ren (upd ρ N ⟨A.block, A.off, 0, false⟩) (.slice (some ⟨i, e0 + l.toNat, some (1000 * tm.length + 1000000 * (N + 1))⟩) (hh.getD ↑n - l).toNat c) = v → o.wp P a w K Q := by
                intro A v hrun hv
                have hp := hm.pushNone ⟨A.block, A.off, 0, false⟩
                grind[upd_lt,wp_value]
              have hupd : ∀ p : Place, upd ρ N p i = ρ i := fun p => upd_lt _ _ _ hil
              simp only [ren, renS] at h1
              by_cases hn : (ρ i).nil = true
              · rw [if_pos hn] at h1
                have hcap := hnil hn
                have hn0 : n = 0 := by omega
                subst hn0
                have hl0 : l = 0 := by omega
                subst hl0
                have hr2 := slice_run (P := P) (A := none) (n := 0) (cap := 0) w hu hinf hlo hhx v0 v1 (by omega)
                refine hfin ⟨0, 0, none⟩ (.slice none (hh.getD 0).toNat 0) (by simp [execOp, ho, h1, hr2]) ?_
                simp_all[ren,renS]
              · rw [if_neg hn] at h1
                by_cases hex : q / 1000000 ≠ 0 ∧ (ρ i).cap ≤ e0
                · rw [if_pos hex] at h1
                  have hn0 : n = 0 := by omega
                  subst hn0
                  have hl0 : l = 0 := by omega
                  subst hl0
                  have hr2 := slice_run (P := P) (A := some ⟨(ρ (q / 1000000 - 1)).blk, (ρ (q / 1000000 - 1)).off, none⟩) (n := 0) (cap := 0) w hu hinf hlo hhx v0 v1 (by omega)
                  refine hfin ⟨(ρ (q / 1000000 - 1)).blk, (ρ (q / 1000000 - 1)).off, none⟩ (.slice (some ⟨(ρ (q / 1000000 - 1)).blk, (ρ (q / 1000000 - 1)).off, none⟩) (hh.getD 0).toNat 0) (by simp [execOp, ho, h1, hr2]) ?_
                  simp_all[ren,renS,upd_same]
                · rw [if_neg hex] at h1
                  have hr2 := slice_run (P := P) (A := some (renA ρ ⟨i, e0, some q⟩)) (n := n) (cap := (ρ i).cap - e0) w hu hinf hlo hhx v0 v1 (by omega)
                  refine hfin (renA ρ ⟨i, e0, some q⟩) _ (by simp only [execOp, ho, h1, Option.map_none, hr2, Sem.run_bind, Sem.run_pure, Result.andThen_ok]; rfl) ?_
                  simp only [ren, renS]
                  rw [hupd, if_neg hn, e1]
                  have hnl : (hh.getD (n : Int) - l).toNat = (hh.getD (n : Int)).toNat - l.toNat := by omega
                  by_cases hc2 : (ρ i).cap - e0 = l.toNat
                  · rw [if_pos hc2, if_pos ⟨by omega, by omega⟩, hnl, hc2, Nat.sub_self]
                    simp [upd_same, renA]
                  · rw [if_neg hc2, if_neg (by omega), hnl]
                    simp_all[renA,cellOf,add_at,Nat.add_mul,Nat.sub_add_eq]
        · cases h
      · cases h
    · cases h
end
end Go.Proofs.YtobdpddamdkabaaDoor.Rx
namespace Go.Proofs.YtobdpddamdkabaaDoor.Rx
open Go.RowKit Go.Proofs.YtobdpddamdkabaaDoor.State
set_option linter.unusedVariables false
set_option linter.unusedSimpArgs false
/-- n of a list from e on -/
def cut {α : Type} (l : List α) (e n : Nat) : List α := (l.drop e).take n
theorem cut_length {α : Type} {l : List α} {e n : Nat} (h : e + n ≤ l.length) : (cut l e n).length = n := by grind[cut]
theorem cut_get {α : Type} {l : List α} {e n i : Nat} (h : i < n) : (cut l e n)[i]? = l[e + i]? := by simp_all[cut]
@[simp] theorem cut_all {α : Type} (l : List α) : cut l 0 l.length = l := by simp [cut]
def catCol (t : Value) (c0 : Col) (e0 n : Nat) (c1 : Col) (e1 m : Nat) : Col :=
  match t with
  | .int _ _ => ⟨cut c0.i e0 n ++ cut c1.i e1 m, [], []⟩
  | .bool _ => ⟨[], cut c0.b e0 n ++ cut c1.b e1 m, []⟩
  | _ => ⟨[], [], cut c0.s e0 n ++ cut c1.s e1 m⟩
/-- the same kind of cell -/
def likeV : Value → Value → Bool
  | .int k _, .int k' _ => decide (k = k')
  | .bool _, .bool _ => true
  | .string _, .string _ => true
  | _, _ => false
def likeL : List Value → List Value → Bool
  | [], [] => true
  | a :: l, b :: r => likeV a b && likeL l r
  | _, _ => false
theorem likeL_length : ∀ {l r : List Value}, likeL l r = true → l.length = r.length
  | [], [], _ => rfl
  | [], _ :: _, h => by simp [likeL] at h
  | _ :: _, [], h => by simp [likeL] at h
  | a :: l, b :: r, h => by
    simp only [likeL, Bool.and_eq_true] at h
    simp [likeL_length h.2]
theorem likeL_get : ∀ {l r : List Value} {f : Nat} {a b : Value}, likeL l r = true → l[f]? = some a → r[f]? = some b → likeV a b = true
  | [], r, f, a, b, _, h1, _ => by simp at h1
  | _ :: _, [], f, a, b, h, _, h2 => by simp at h2
  | a0 :: l, b0 :: r, f, a, b, h, h1, h2 => by
    simp only [likeL, Bool.and_eq_true] at h
    cases f with
    | zero => grind
    | succ f => exact likeL_get h.2 h1 h2
theorem like_cell {a b : Value} (h : likeV a b = true) (c : Col) (e : Nat) : cellVal a c e = cellVal b c e := by
  cases a <;> cases b <;> simp [likeV, cellVal] at h ⊢
  exact h
theorem like_ok {a b : Value} (h : likeV a b = true) (c : Col) (n : Nat) : colOk a c n ↔ colOk b c n := by
  cases a <;> cases b <;> simp [likeV, colOk] at h ⊢
theorem cat_ok {a : Value} {c0 c1 : Col} {e0 n e1 m N0 N1 : Nat} (hk : likeV a a = true) (h0 : colOk a c0 N0) (h1 : colOk a c1 N1) (hn : e0 + n ≤ N0) (hm : e1 + m ≤ N1) :
    colOk a (catCol a c0 e0 n c1 e1 m) (n + m) ∧ ∀ e, e < n + m → cellVal a (catCol a c0 e0 n c1 e1 m) e = if e < n then cellVal a c0 (e0 + e) else cellVal a c1 (e1 + (e - n)) := by
  cases a <;> simp only [likeV] at hk <;> try (cases hk)
  all_goals
    simp only [colOk] at h0 h1
    refine ⟨by simp only [colOk, catCol, List.length_append]; rw [cut_length (by omega), cut_length (by omega)], fun e he => ?_⟩
    simp only [cellVal, catCol, List.getD_eq_getElem?_getD]
    by_cases hlt : e < n
    · rw [if_pos hlt, List.getElem?_append_left (by rw [cut_length (by omega)]; exact hlt), cut_get hlt]
    · rw [if_neg hlt, List.getElem?_append_right (by rw [cut_length (by omega)]; omega), cut_length (by omega), cut_get (by omega)]
def catCols (e0 n e1 m : Nat) : List Value → List Col → List Col → List Col
  | t :: tm, c0 :: l0, c1 :: l1 => catCol t c0 e0 n c1 e1 m :: catCols e0 n e1 m tm l0 l1
  | _, _, _ => []
theorem catCols_get {e0 n e1 m : Nat} : ∀ {tm : List Value} {l0 l1 : List Col}, tm.length = l0.length → l0.length = l1.length → (catCols e0 n e1 m tm l0 l1).length = l0.length ∧
    ∀ (f : Nat) (c : Col), (catCols e0 n e1 m tm l0 l1)[f]? = some c → ∃ t c0 c1, tm[f]? = some t ∧ l0[f]? = some c0 ∧ l1[f]? = some c1 ∧ c = catCol t c0 e0 n c1 e1 m
  | [], [], [], _, _ => ⟨rfl, fun f c h => by simp [catCols] at h⟩
  | [], _ :: _, _, h, _ => by simp at h
  | _ :: _, [], _, h, _ => by simp at h
  | _, [], _ :: _, _, h => by simp at h
  | _, _ :: _, [], _, h => by simp at h
  | t :: tm, c0 :: l0, c1 :: l1, h0, h => by
    obtain ⟨h1, h2⟩ := catCols_get (e0 := e0) (n := n) (e1 := e1) (m := m) (tm := tm) (l0 := l0) (l1 := l1) (by grind) (by grind)
    grind[catCols]
theorem setMany_get : ∀ (l : List Value) (cur : Array Value) (k j : Nat), k + l.length ≤ cur.size → (setMany cur k l)[j]? = if k ≤ j ∧ j < k + l.length then l[j - k]? else cur[j]?
  | [], cur, k, j, h => by
    simp[setMany,if_neg]
  | v :: l, cur, k, j, h => by
    simp only [setMany]
    rw [setMany_get l _ (k + 1) j (by grind), Array.getElem?_setIfInBounds]
    grind
section
variable {R : Type} {D : Res R} {P : Program} {C : Ctx} {ρ : Env} {ft : Nat → Nat → Prop} {w w' : World}
/-- what is appended: the row that it lies in, from which element on, how many -/
def srcRow (σ : SS R) (tm : List Value) (y : Operand) : Option (Row × Nat × Nat) :=
  match ev σ.tm y with
  | some (.slice none 0 0) => match zeroCols tm 0 with
    | some cols => some (⟨tm, 0, cols⟩, 0, 0)
    | none => none
  | some (.slice (some ⟨j, e1, some q⟩) m _) =>
    match rowOf σ.hp[j]? with
    | some r => if Nat.beq (q % 1000000) (1000 * tm.length) && likeL r.tm tm then some (r, e1, m) else none
    | none => none
  | _ => none
theorem rowOf_nil {h : Hp R} {i : Nat} {r : Row} (hm : HM D C ρ ft h w) (hr : rowOf h[i]? = some r) : (ρ i).nil = true → (ρ i).cap = 0 := by
  intro hz
  unfold rowOf at hr
  split at hr
  · rename_i t0 r0 hi; exact (hm.at_ i _ hi).1.2.2.2.2.1 hz
  · rename_i r0 hi; exact (hm.at_ i _ hi).1.2.2.2.2.1 hz
  grind
theorem srcRow_ok {σ : SS R} {tm : List Value} {y : Operand} {r : Row} {e1 m : Nat} {a : Act} (h : srcRow σ tm y = some (r, e1, m)) (ht : TM ρ σ.hp.length σ.tm a) (hm : HM D C ρ ft σ.hp w) (hv : e1 + m ≤ r.n) (h0 : 0 < tm.length) (h1k : tm.length < 1000) :
    r.cols.length = tm.length ∧ (∀ (f : Nat) (t : Value) (c : Col), tm[f]? = some t → r.cols[f]? = some c → colOk t c r.n) ∧
    ∃ A c', a.eval y = .slice A m c' ∧ ∃ news : List Value, news.length = m * tm.length ∧ (∀ w2 : World, w2.heap = w.heap → (Builtin.firstCells tm.length m (a.eval y)).run P w2 = .ok news.toArray w2) ∧ (∀ v ∈ news, v.oneCell' = true) ∧
      ∀ (f : Nat) (t : Value) (c : Col) (e : Nat), tm[f]? = some t → r.cols[f]? = some c → e < m → news[e * tm.length + f]? = some (cellVal t c (e1 + e)) := by
  unfold srcRow at h
  split at h
  · rename_i ha
    split at h
    · rename_i cols hcols
      injection h with h
      injection h with h2 h3
      injection h3 with h3 h4
      subst h2; subst h4
      obtain ⟨c1, c2⟩ := zeroCols_ok hcols
      have hv1 := (ev_eval ht ha).1
      simp only [ren] at hv1
      refine ⟨c1, fun f t c g1 g2 => (c2 f t c g1 g2).1, none, 0, hv1, [], by simp, (fun w2 _ => by rw [hv1]; rfl), (fun v hv => by cases hv), fun f t c e _ _ he => by omega⟩
    · cases h
  · rename_i j e1' q m' c ha
    split at h
    · rename_i r' hr
      split at h
      · rename_i hc
        simp only [Bool.and_eq_true] at hc
        have hq := Nat.eq_of_beq_eq_true hc.1
        injection h with h
        injection h with h2 h3
        injection h3 with h3 h4
        subst h2; subst h3; subst h4
        have hlen := likeL_length hc.2
        obtain ⟨g1, g2, g3, g4, g5, g6⟩ := row_reads hm hr
        have hnil := rowOf_nil hm hr
        have hv1 := (ev_eval ht ha).1
        simp only [ren] at hv1
        have hok : ∀ (f : Nat) (t : Value) (c : Col), tm[f]? = some t → r'.cols[f]? = some c → colOk t c r'.n := fun f t c k1 k2 => by
          grind[like_ok,likeL_get]
        refine ⟨by omega, hok, ?_⟩
        have hreal : ∀ (A : Option Addr) (c' : Nat), a.eval y = .slice A m' c' → (m' = 0 ∨ A = some ⟨(ρ j).blk, (ρ j).off + e1' * tm.length, none⟩) → ∃ A c', a.eval y = .slice A m' c' ∧ ∃ news : List Value, news.length = m' * tm.length ∧ (∀ w2 : World, w2.heap = w.heap → (Builtin.firstCells tm.length m' (a.eval y)).run P w2 = .ok news.toArray w2) ∧ (∀ v ∈ news, v.oneCell' = true) ∧
            ∀ (f : Nat) (t : Value) (c : Col) (e : Nat), tm[f]? = some t → r'.cols[f]? = some c → e < m' → news[e * tm.length + f]? = some (cellVal t c (e1' + e)) := by
          intro A c' hA hcase
          refine ⟨A, c', hA, ?_⟩
          rcases hcase with hm0 | hA2
          · subst hm0
            rw [hA]
            cases A <;> simp [Builtin.firstCells, loadCells, loadCellsFrom]
          · subst hA2
            refine ⟨(List.range (m' * tm.length)).map fun k => match r'.tm[k % tm.length]?, r'.cols[k % tm.length]? with | some t, some c => cellVal t c (e1' + k / tm.length) | _, _ => undef, by simp, ?_, ?_, ?_⟩
            · intro w2 hw2
              rw [hA]
              refine run_firstCells_some w2 tm.length m' _ m' c' _ (by simp) (fun k v hk => ?_)
              have hkl : k < m' * tm.length := by grind
              simp only [List.getElem?_map, List.getElem?_range hkl, Option.map_some, Option.some.injEq] at hk
              have hmod : k % tm.length < r'.tm.length := by grind[Nat.mod_lt]
              have hmod2 : k % tm.length < r'.cols.length := by omega
              have q1 := List.getElem?_eq_getElem hmod
              have q2 := List.getElem?_eq_getElem hmod2
              rw [q1, q2] at hk
              have hdiv : k / tm.length < m' := Nat.div_lt_of_lt_mul (by grind)
              have := g6 _ _ _ (e1' + k / tm.length) q1 q2 (by omega)
              rw [World.cell?_of_block (w := w) (by rw [hw2]), add_at, ← hk, ← this]
              grind[Nat.div_add_mod]
            · grind[Nat.mod_lt,cellVal_one]
            · intro f t c e k1 k2 he
              have hfl : f < tm.length := (List.getElem?_eq_some_iff.1 k1).1
              have hlt : e * tm.length + f < m' * tm.length := by
                have := Nat.mul_le_mul_right tm.length (show e + 1 ≤ m' from he)
                grind
              have d1 : (e * tm.length + f) % tm.length = f := by rw [Nat.add_comm, Nat.add_mul_mod_self_right, Nat.mod_eq_of_lt hfl]
              have d2 : (e * tm.length + f) / tm.length = e := by simp_all[Nat.add_comm,Nat.add_mul_div_right]
              grind[like_cell,likeL_get]
        have e1 : q % 1000000 / 1000 = tm.length := by omega
        have e2 : q % 1000 = 0 := by omega
        unfold renS at hv1
        simp only at hv1
        by_cases hn : (ρ j).nil = true
        · grind
        · rw [if_neg hn] at hv1
          by_cases hex : q / 1000000 ≠ 0 ∧ (ρ j).cap ≤ e1'
          · grind
          simp_all[if_neg,renA,cellOf]
      · cases h
    · cases h
  · cases h
section
variable (w : World)
theorem append_room {t t2 ty e : TypeId} {i : TypeInfo} {el2 : TypeId} (ht : P.underlying t = some (.slice e)) (ht2 : P.underlying t2 = some (.slice el2)) (hi : P.info? e = some i) {g o sLen sCap m c : Nat} {A : Option Addr} {cur : Array Value} {news : List Value}
    (hg : w.heap[g]? = some (.cells cur e (0, 0))) (hf : (Builtin.firstCells i.size m (.slice A m c)).run P w = .ok news.toArray w) (h1 : ∀ u ∈ news, u.oneCell' = true) (hroom : sLen + m ≤ sCap) (hfit : o + sLen * i.size + news.length ≤ cur.size) :
    (Builtin.append_ #[t, t2] ty #[.slice (some ⟨g, o, none⟩) sLen sCap, .slice A m c]).run P w = .ok (.slice (some ⟨g, o, none⟩) (sLen + m) sCap) (w.setRow g (setMany cur (o + sLen * i.size) news)) := by
  have hst := run_storeMany (P := P) g (o + sLen * i.size) e news 0 cur w hg (by omega) h1
  simp [Builtin.append_, run_underlying ht, run_underlying ht2, sizeOf, typeInfo, hi, Builtin.lenOf, hroom, hf, add_at, hst]
theorem append_grow {t t2 ty e : TypeId} {i : TypeInfo} {z : Value} {el2 : TypeId} (ht : P.underlying t = some (.slice e)) (ht2 : P.underlying t2 = some (.slice el2)) (hi : P.info? e = some i) (hz : i.zero = some z) {sLen sCap m c : Nat} {A B : Option Addr} {olds news : List Value}
    (hf0 : (Builtin.firstCells i.size sLen (.slice B sLen sCap)).run P w.drew = .ok olds.toArray w.drew) (hf : (Builtin.firstCells i.size m (.slice A m c)).run P w.drew = .ok news.toArray w.drew)
    (hg : sCap < sLen + m) (h63 : sLen + m ≤ 140737488355328) (hfit : (sLen + m) * i.bytes ≤ 140737488355328) :
    (Builtin.append_ #[t, t2] ty #[.slice B sLen sCap, .slice A m c]).run P w =
      .ok (.slice (some ⟨w.heap.size, 0, none⟩) (sLen + m) (grownCap w (sLen + m) sCap e)) (w.drew.alloc (.cells (olds ++ news ++ (Builtin.zeroCells z.cells (grownCap w (sLen + m) sCap e - (sLen + m))).toList).toArray e)) := by
  have hn : ¬ (sLen + m ≤ sCap) := by omega
  have h63' : ¬ (9223372036854775807 < ((sLen : Int) + (m : Int))) := by omega
  have h48 := growslice_fits (need := sLen + m) (old := sCap) (bytes := i.bytes) hg hfit
  have h48' : ¬ (281474976710656 < Builtin.nextslicecap (sLen + m) sCap * i.bytes) := by omega
  simp [Builtin.append_, run_underlying ht, run_underlying ht2, sizeOf, typeInfo, zeroValue, hi, hz, Builtin.lenOf, hn, h63', h48', Question.forced, hf, hf0, newRow, grownCap]
  congr 2
  simp
end
/-- the old row renounced, a new one in its place -/
theorem HM.moveRow {h : Hp R} (hm : HM D C ρ ft h w) (i : Nat) (t : TypeId) (r : Row) (p : Place) (hk : Kept (ft i) w w') (hp : p.nil = false) (hblk : (ft i p.blk ∨ w.heap.size ≤ p.blk) ∧ p.blk < w'.heap.size) (h0 : 0 < r.tm.length) (hn : r.n ≤ p.cap) (hc : p.cap ≤ maxLen)
    (arr : Array Value) (harr : w'.heap[p.blk]? = some (.cells arr t (0, 0))) (hs : arr.size = p.off + p.cap * r.tm.length) (hr : RowIn r arr p.off) :
    HM D C (upd ρ h.length p) (upd (upd ft i (fun _ => False)) h.length (fun k => k = p.blk)) (h.set i none ++ [some (.inr (.inl (t, r)))]) w' := by
  have key : ∀ l k, h.length ≤ l → upd (upd ft i (fun _ => False)) h.length (fun k => k = p.blk) l k → l = h.length ∧ k = p.blk := fun l k hl hlk => by
    by_cases he : l = h.length
    · grind[upd_same]
    · rw [upd_ne _ _ _ he] at hlk
      by_cases hli : l = i
      · grind[upd_same]
      · rw [upd_ne _ _ _ hli] at hlk
        obtain ⟨B', hB'⟩ := hm.some_ l k hlk
        grind
  have keyi : ∀ k, i < h.length → ¬ upd (upd ft i (fun _ => False)) h.length (fun k => k = p.blk) i k := fun k hi hk => by
    grind[upd_ne,upd_same]
  refine hm.step (fun j => j = i) (hk.mono fun k hk => ⟨i, rfl, hk⟩) (fun j hj => upd_lt _ _ _ hj) (by simp) ?_ ?_ ?_ ?_
  · intro j B' hj hB'
    rcases Nat.lt_or_ge j h.length with hl | hge
    · grind
    · have : j = h.length := by
        grind
      subst this
      simp at hB'
      subst hB'
      refine ⟨?_, trivial⟩
      grind[hold,upd_same]
  · intro j hj hne
    refine ⟨by grind, fun k => by simp_all[upd_lt,upd_ne]⟩
  · intro j k hj hk'
    rcases Nat.lt_or_ge j h.length with hl | hge
    · grind
    · obtain ⟨rfl, rfl⟩ := key j k hge hk'
      simp[*]
  grind
theorem like_self {a b : Value} (h : likeV a b = true) : likeV a a = true := by
  cases a <;> cases b <;> simp [likeV] at h ⊢
theorem like_symm {a b : Value} (h : likeV a b = true) : likeV b a = true := by
  cases a <;> cases b <;> simp [likeV] at h ⊢
  grind
/-- the joined row lies there -/
theorem cat_row {tm0 tm : List Value} {cols0 cols1 : List Col} {e0 n e1 m N0 N1 o : Nat} {arr : Array Value} (hl : likeL tm0 tm = true) (hc0 : cols0.length = tm0.length) (hc1 : cols1.length = tm.length)
    (h0 : ∀ (f : Nat) (t : Value) (c : Col), tm0[f]? = some t → cols0[f]? = some c → colOk t c N0) (h1 : ∀ (f : Nat) (t : Value) (c : Col), tm[f]? = some t → cols1[f]? = some c → colOk t c N1) (hn : e0 + n ≤ N0) (hm : e1 + m ≤ N1)
    (g0 : ∀ (f : Nat) (t : Value) (c : Col) (e : Nat), tm0[f]? = some t → cols0[f]? = some c → e < n → arr[o + (e * tm.length + f)]? = some (cellVal t c (e0 + e)))
    (g1 : ∀ (f : Nat) (t : Value) (c : Col) (e : Nat), tm[f]? = some t → cols1[f]? = some c → e < m → arr[o + ((n + e) * tm.length + f)]? = some (cellVal t c (e1 + e))) :
    RowIn ⟨tm0, n + m, catCols e0 n e1 m tm0 cols0 cols1⟩ arr o := by
  have hlen := likeL_length hl
  obtain ⟨k1, k2⟩ := catCols_get (e0 := e0) (n := n) (e1 := e1) (m := m) (tm := tm0) (l0 := cols0) (l1 := cols1) hc0.symm (by omega)
  have main : ∀ (f : Nat) (t : Value) (c : Col), tm0[f]? = some t → (catCols e0 n e1 m tm0 cols0 cols1)[f]? = some c → ∃ t' c0 c1, tm[f]? = some t' ∧ cols0[f]? = some c0 ∧ cols1[f]? = some c1 ∧ c = catCol t c0 e0 n c1 e1 m ∧ likeV t t' = true := fun f t c ht hc => by
    grind[likeL_get]
  refine ⟨by grind, fun f t c ht hc => ?_, fun f t c e ht hc he => ?_⟩
  · grind[cat_ok,like_self,like_ok]
  · obtain ⟨t', c0, c1, q, q0, q1, rfl, hk⟩ := main f t c ht hc
    simp only at he ⊢
    rw [(cat_ok (like_self hk) (h0 f t c0 ht q0) ((like_ok hk c1 _).2 (h1 f t' c1 q q1)) hn hm).2 e he, hlen]
    by_cases hlt : e < n
    · grind
    · have := g1 f t' c1 (e - n) q q1 (by omega)
      grind[like_cell]
/-- a new block: the old ones, the new ones, room -/
theorem joined_get {n m s : Nat} {olds news zs : List Value} (h0 : olds.length = n * s) (h1 : news.length = m * s) : ∀ (f e : Nat), f < s →
    (e < n → (olds ++ news ++ zs).toArray[0 + (e * s + f)]? = olds[e * s + f]?) ∧ (e < m → (olds ++ news ++ zs).toArray[0 + ((n + e) * s + f)]? = news[e * s + f]?) := by
  intro f e hf
  refine ⟨fun he => ?_, fun he => ?_⟩
  · have := Nat.mul_le_mul_right s (show e + 1 ≤ n from he)
    grind
  · have := Nat.mul_le_mul_right s (show e + 1 ≤ m from he)
    rw [Nat.add_mul, Nat.one_mul] at this
    grind
def need (tagged : Bool) (m : Nat) (p : Prop) : Prop :=
  match tagged with
  | true => p
  | false => 0 < m ∧ p
theorem need_out {b : Bool} {m : Nat} {p : Prop} (h : need b m p) : (b = false → 0 < m) ∧ p := by
  cases b with
  | true => exact ⟨(fun h => by cases h), h⟩
  | false => exact ⟨fun _ => h.1, h.2⟩
def opAppend (P : Program) (σ : SS R) (t t2 : TypeId) (y z : Operand) : Option (Out R) :=
  match elemOf P t, P.underlying t2 with
  | some (el, tm, by_), some (.slice _) =>
    match srcRow σ tm z, ev σ.tm y with
    | some (r1, e1, m), some (.slice none 0 0) =>
      match zeroCols tm 0 with
      | some zc => some ⟨e1 + m ≤ r1.n ∧ m * by_ ≤ 140737488355328 ∧ m ≤ 140737488355328, .slice (some ⟨σ.hp.length, 0, some (1000 * tm.length)⟩) (0 + m) 0, none, σ.hp ++ [some (.inr (.inl (el, ⟨tm, 0 + m, catCols 0 0 e1 m tm zc r1.cols⟩)))], [], [(σ.hp.length, 0)]⟩
      | none => none
    | some (r1, e1, m), some (.slice (some ⟨i, e0, some q⟩) n _) =>
      match σ.hp[i]? with
      | some (some (.inr (.inl (t', r)))) =>
        if Nat.beq (q % 1000000) (1000 * tm.length) && likeL r.tm tm && Nat.beq t' el then
          some ⟨need (Nat.blt q 1000000) m (e0 + n ≤ r.n ∧ e1 + m ≤ r1.n ∧ (n + m) * by_ ≤ 140737488355328 ∧ n + m ≤ 140737488355328), .slice (some ⟨σ.hp.length, 0, some (1000 * tm.length)⟩) (n + m) 0, none,
            σ.hp.set i none ++ [some (.inr (.inl (el, ⟨r.tm, n + m, catCols e0 n e1 m r.tm r.cols r1.cols⟩)))], [], [(i, 0), (σ.hp.length, 0)]⟩
        else none
      | _ => none
    | _, _ => none
  | _, _ => none
theorem zeroCols_like : ∀ {tm : List Value} {n : Nat} {cols : List Col}, zeroCols tm n = some cols → likeL tm tm = true
  | [], _, _, _ => rfl
  | t :: tm, n, cols, h => by
    simp only [zeroCols] at h
    split at h
    · rename_i c r hc hr
      simp only [likeL, Bool.and_eq_true]
      refine ⟨?_, zeroCols_like hr⟩
      cases t <;> simp [zeroCol, likeV] at hc ⊢
    · cases h
theorem zeroCells_length (z : Array Value) (n : Nat) : (Builtin.zeroCells z n).toList.length = n * z.size := by grind[size_zeroCells]
theorem opAppend_ok {σ : SS R} {o : Oper} {t t2 : TypeId} {y z : Operand} {x : Out R} (ho : o.op = .call { callee := .builtin .append, args := #[y, z], argTypes := #[t, t2] }) (h : opAppend P σ t t2 y z = some x) : OpOk D P o σ x := by
  unfold opAppend at h
  split at h
  · rename_i el tm by_ el2 he hu2
    obtain ⟨inf, zv, hu, hi, hz, htm, hsz, hby, hfl, h0, h1k⟩ := elemOf_ok he
    have hzs : zv.cells.size = tm.length := by grind
    have e1' : 1000 * tm.length / 1000000 = 0 := by omega
    have e2' : 1000 * tm.length % 1000 = 0 := by omega
    split at h
    · rename_i r1 e1 m hsrc hy
      split at h
      · rename_i zc hzc
        injection h with h
        subst h
        refine ⟨fun C ρ ft a w K Q ht hli hm hv hK => ?_, by simp, fun _ b hb => by cases hb⟩
        obtain ⟨v0, v1, v2⟩ := hv
        obtain ⟨s1, s2, A, c', s3, news, s4, s5, s6, s7⟩ := srcRow_ok hsrc ht hm v0 h0 h1k
        obtain ⟨c1, c2⟩ := zeroCols_ok hzc
        have hy1 := (ev_eval ht hy).1
        simp only [ren] at hy1
        have hself : likeL tm tm = true := zeroCols_like hzc
        by_cases hm0 : m = 0
        · subst hm0
          have hrun : (execOp a.eval o).run P w = .ok (.value (.slice none 0 0)) w := by
            have hf := s5 w rfl
            rw [s3] at hf
            simp only [execOp, ho, resolve, invoke, builtin, Sem.run_bind, Sem.run_pure, Result.andThen_ok, List.map_toArray, List.map_cons, List.map_nil, hy1, s3]
            have hn0 : news = [] := List.eq_nil_of_length_eq_zero (by omega)
            simp [Builtin.append_, run_underlying hu, run_underlying hu2, sizeOf, typeInfo, hi, Builtin.lenOf, hsz]
            rw [hf]; rfl
          have hrow : RowIn ⟨tm, 0 + 0, catCols 0 0 e1 0 tm zc r1.cols⟩ #[] 0 :=
            cat_row hself c1 s1 (fun f t c g1 g2 => (c2 f t c g1 g2).1) s2 (Nat.le_refl 0) v0 (fun f t c e _ _ he => by omega) (fun f t c e _ _ he => by omega)
          have hp := hm.pushNil el ⟨tm, 0 + 0, catCols 0 0 e1 0 tm zc r1.cols⟩ h0 rfl hrow.len hrow.col 0 0
          grind[upd_lt,wp_value,ren,renS,upd_same]
        · have hf := s5 w.drew rfl
          rw [s3] at hf
          have hrun : (execOp a.eval o).run P w = .ok (.value (.slice (some ⟨w.heap.size, 0, none⟩) (0 + m) (grownCap w (0 + m) 0 el))) (w.drew.alloc (.cells ([] ++ news ++ (Builtin.zeroCells zv.cells (grownCap w (0 + m) 0 el - (0 + m))).toList).toArray el)) := by
            have hr := append_grow (P := P) (t := t) (t2 := t2) (ty := o.type) w hu hu2 hi hz (sLen := 0) (sCap := 0) (m := m) (c := c') (A := A) (B := none) (olds := []) (news := news) (by rfl) (by grind) (by omega) (by omega) (by grind)
            simp only [execOp, ho, resolve, invoke, builtin, Sem.run_bind, Sem.run_pure, Result.andThen_ok, List.map_toArray, List.map_cons, List.map_nil, hy1, s3, hr]
          have hcap := grownCap_ge w (0 + m) 0 el
          have hcap2 := grownCap_le_maxLen w (0 + m) 0 el (by unfold maxLen; omega)
          have hrow : RowIn ⟨tm, 0 + m, catCols 0 0 e1 m tm zc r1.cols⟩ ([] ++ news ++ (Builtin.zeroCells zv.cells (grownCap w (0 + m) 0 el - (0 + m))).toList).toArray 0 := by
            refine cat_row hself c1 s1 (fun f t c g1 g2 => (c2 f t c g1 g2).1) s2 (Nat.le_refl 0) v0 (fun f t c e _ _ he => by omega) (fun f t c e g1 g2 he => ?_)
            grind
          have hp := hm.drew.pushRow el ⟨tm, 0 + m, catCols 0 0 e1 m tm zc r1.cols⟩ _ (grownCap w (0 + m) 0 el) h0 hcap hcap2 (by
            simp only [List.nil_append, List.size_toArray, List.length_append, s4, zeroCells_length, hzs, ← Nat.add_mul]
            grind) hrow
          have := hK _ _ _ (fun i hi => upd_lt ρ σ.hp.length ⟨w.heap.size, 0, grownCap w (0 + m) 0 el, false⟩ hi) hp
          grind[wp_value,ren,renS,renA,upd_same,cellOf]
      · cases h
    · rename_i r1 e1 m i e0 q n c hsrc hy
      split at h
      · rename_i t' r hir
        split at h
        · rename_i hc
          simp only [Bool.and_eq_true] at hc
          have hq := Nat.eq_of_beq_eq_true hc.1.1
          have hlike := hc.1.2
          have hte := Nat.eq_of_beq_eq_true hc.2
          subst hte
          have hlen := likeL_length hlike
          have hq1 : q % 1000000 / 1000 = tm.length := by omega
          have hq2 : q % 1000 = 0 := by omega
          injection h with h
          subst h
          refine ⟨fun C ρ ft a w K Q ht hli hm hv hK => ?_, by simp, fun _ b hb => by cases hb⟩
          obtain ⟨v0, v1, v2, v3, v4⟩ := need_out hv
          obtain ⟨s1, s2, A, c', s3, news, s4, s5, s6, s7⟩ := srcRow_ok hsrc ht hm v2 h0 h1k
          obtain ⟨hy1, hy2⟩ := ev_eval ht hy
          simp only [ren] at hy1
          simp only [inb, Bool.and_eq_true, Nat.blt_eq] at hy2
          obtain ⟨g1, g2, g3, g4, g4', arr, g5, g6⟩ := (hm.at_ i _ hir).1
          have hqt : q / 1000000 ≠ 0 → 0 < m := fun hh => v0 (by
            grind[Nat.blt_eq])
          have h0' : 0 < r.tm.length := g2
          -- behind a growth
          have grow : ∀ (B : Option Addr) (cap0 : Nat) (olds : List Value), a.eval y = .slice B n cap0 → olds.length = n * tm.length → (∀ w2 : World, w2.heap = w.heap → (Builtin.firstCells tm.length n (.slice B n cap0)).run P w2 = .ok olds.toArray w2) →
              (∀ (f : Nat) (t : Value) (c : Col) (e : Nat), r.tm[f]? = some t → r.cols[f]? = some c → e < n → olds[e * tm.length + f]? = some (cellVal t c (e0 + e))) → cap0 < n + m → o.wp P a w K Q := by
            intro B cap0 olds hB hol hof hog hlt
            have hf := s5 w.drew rfl
            rw [s3] at hf
            have hr := append_grow (P := P) (t := t) (t2 := t2) (ty := o.type) w hu hu2 hi hz (sLen := n) (sCap := cap0) (m := m) (c := c') (A := A) (B := B) (olds := olds) (news := news) (by rw [hsz]; exact hof w.drew rfl) (by rw [hsz]; exact hf) hlt (by omega) (by grind)
            have hrun : (execOp a.eval o).run P w = .ok (.value (.slice (some ⟨w.heap.size, 0, none⟩) (n + m) (grownCap w (n + m) cap0 t'))) (w.drew.alloc (.cells (olds ++ news ++ (Builtin.zeroCells zv.cells (grownCap w (n + m) cap0 t' - (n + m))).toList).toArray t')) := by
              simp only [execOp, ho, resolve, invoke, builtin, Sem.run_bind, Sem.run_pure, Result.andThen_ok, List.map_toArray, List.map_cons, List.map_nil, hB, s3, hr]
            have hcap := grownCap_ge w (n + m) cap0 t'
            have hcap2 := grownCap_le_maxLen w (n + m) cap0 t' (by unfold maxLen; omega)
            have hrow : RowIn ⟨r.tm, n + m, catCols e0 n e1 m r.tm r.cols r1.cols⟩ (olds ++ news ++ (Builtin.zeroCells zv.cells (grownCap w (n + m) cap0 t' - (n + m))).toList).toArray 0 := by
              refine cat_row hlike g6.len s1 g6.col s2 v1 v2 (fun f t c e k1 k2 he => ?_) (fun f t c e k1 k2 he => ?_)
              · grind
              · have hfl' : f < tm.length := (List.getElem?_eq_some_iff.1 k1).1
                rw [(joined_get hol s4 f e hfl').2 he]
                grind
            have hp := hm.moveRow (w' := w.drew.alloc (.cells (olds ++ news ++ (Builtin.zeroCells zv.cells (grownCap w (n + m) cap0 t' - (n + m))).toList).toArray t')) i t' ⟨r.tm, n + m, catCols e0 n e1 m r.tm r.cols r1.cols⟩ ⟨w.heap.size, 0, grownCap w (n + m) cap0 t', false⟩ ((Kept.refl _ _).drew.alloc _) rfl ⟨Or.inr (Nat.le_refl _), by simp⟩ h0' hcap hcap2 _ (heap_alloc_new w.drew _) (by
              simp only [List.size_toArray, List.length_append, hol, s4, zeroCells_length, hzs, hlen, ← Nat.add_mul, Nat.zero_add]
              grind) hrow
            grind[upd_lt,wp_value,ren,renS,renA,upd_same,cellOf]
          unfold renS at hy1
          simp only at hy1
          by_cases hn : (ρ i).nil = true
          · rw [if_pos hn] at hy1
            have hcap0 := g4' hn
            have hn0 : n = 0 := by omega
            subst hn0
            by_cases hm0 : m = 0
            · subst hm0
              have hrun : (execOp a.eval o).run P w = .ok (.value (.slice none 0 0)) w := by
                have hf := s5 w rfl
                rw [s3] at hf
                simp only [execOp, ho, resolve, invoke, builtin, Sem.run_bind, Sem.run_pure, Result.andThen_ok, List.map_toArray, List.map_cons, List.map_nil, hy1, s3]
                have hn0 : news = [] := List.eq_nil_of_length_eq_zero (by omega)
                simp [Builtin.append_, run_underlying hu, run_underlying hu2, sizeOf, typeInfo, hi, Builtin.lenOf, hsz]
                rw [hf]; rfl
              have hrow : RowIn ⟨r.tm, 0 + 0, catCols e0 0 e1 0 r.tm r.cols r1.cols⟩ #[] 0 :=
                cat_row hlike g6.len s1 g6.col s2 v1 v2 (fun f t c e _ _ he => by omega) (fun f t c e _ _ he => by omega)
              have hp := (hm.drop i).pushNil t' ⟨r.tm, 0 + 0, catCols e0 0 e1 0 r.tm r.cols r1.cols⟩ h0' rfl hrow.len hrow.col 0 0
              grind[upd_lt,wp_value,ren,renS,upd_same]
            · exact grow none 0 [] hy1 (by simp) (fun w2 _ => by rfl) (fun f t c e _ _ he => by omega) (by omega)
          · have hnf : (ρ i).nil = false := by grind
            obtain ⟨g7, g8⟩ := g5 hnf
            rw [if_neg hn] at hy1
            by_cases hex : q / 1000000 ≠ 0 ∧ (ρ i).cap ≤ e0
            · rw [if_pos hex] at hy1
              have hn0 : n = 0 := by omega
              subst hn0
              exact grow _ 0 [] hy1 (by simp) (fun w2 _ => by simp [Builtin.firstCells, loadCells, loadCellsFrom]) (fun f t c e _ _ he => by omega) (by omega)
            · rw [if_neg hex] at hy1
              have hA : renA ρ ⟨i, e0, some q⟩ = ⟨(ρ i).blk, (ρ i).off + e0 * tm.length, none⟩ := by simp_all[renA,cellOf]
              rw [hA] at hy1
              rw [hlen] at g8
              by_cases hroom : n + m ≤ (ρ i).cap - e0
              · have hf := s5 w rfl
                rw [s3] at hf
                have hmul : (e0 + n + m) * tm.length ≤ (ρ i).cap * tm.length := Nat.mul_le_mul_right _ (by omega)
                rw [Nat.add_mul, Nat.add_mul] at hmul
                have hfit : (ρ i).off + e0 * tm.length + n * tm.length + news.length ≤ arr.size := by omega
                have hr := append_room (P := P) (t := t) (t2 := t2) (ty := o.type) w hu hu2 hi (g := (ρ i).blk) (o := (ρ i).off + e0 * tm.length) (sLen := n) (sCap := (ρ i).cap - e0) (m := m) (c := c') (A := A) (cur := arr) (news := news) g7 (by grind) s6 hroom (by grind)
                rw [hsz] at hr
                have hrun : (execOp a.eval o).run P w = .ok (.value (.slice (some ⟨(ρ i).blk, (ρ i).off + e0 * tm.length, none⟩) (n + m) ((ρ i).cap - e0))) (w.setRow (ρ i).blk (setMany arr ((ρ i).off + e0 * tm.length + n * tm.length) news)) := by
                  simp only [execOp, ho, resolve, invoke, builtin, Sem.run_bind, Sem.run_pure, Result.andThen_ok, List.map_toArray, List.map_cons, List.map_nil, hy1, s3, hr]
                have hrow : RowIn ⟨r.tm, n + m, catCols e0 n e1 m r.tm r.cols r1.cols⟩ (setMany arr ((ρ i).off + e0 * tm.length + n * tm.length) news) ((ρ i).off + e0 * tm.length) := by
                  refine cat_row hlike g6.len s1 g6.col s2 v1 v2 (fun f t c e k1 k2 he => ?_) (fun f t c e k1 k2 he => ?_)
                  · have hfl' : f < tm.length := by grind
                    have hle := Nat.mul_le_mul_right tm.length (show e + 1 ≤ n from he)
                    rw [Nat.add_mul, Nat.one_mul] at hle
                    rw [setMany_get _ _ _ _ hfit, if_neg (by omega)]
                    have := g6.cell f t c (e0 + e) k1 k2 (by omega)
                    grind
                  · have hfl' : f < tm.length := (List.getElem?_eq_some_iff.1 k1).1
                    have hle := Nat.mul_le_mul_right tm.length (show e + 1 ≤ m from he)
                    rw [Nat.add_mul, Nat.one_mul] at hle
                    rw [setMany_get _ _ _ _ hfit, Nat.add_mul, if_pos (by omega)]
                    rw [← s7 f t c e k1 k2 he]
                    congr 1
                    omega
                have hp := hm.moveRow (w' := w.setRow (ρ i).blk (setMany arr ((ρ i).off + e0 * tm.length + n * tm.length) news)) i t' ⟨r.tm, n + m, catCols e0 n e1 m r.tm r.cols r1.cols⟩ ⟨(ρ i).blk, (ρ i).off + e0 * tm.length, (ρ i).cap - e0, false⟩
                  (kept_setRow _ _ _ ((g1 _).2 ⟨hnf, rfl⟩)) rfl ⟨Or.inl ((g1 _).2 ⟨hnf, rfl⟩), by
                    have := hm.lt i _ ((g1 _).2 ⟨hnf, rfl⟩)
                    simp[*]⟩ h0' hroom (by grind) _ (setRow_heap w _ _ _ _ _ g7) (by
                      have hcm : e0 * tm.length + ((ρ i).cap - e0) * tm.length = (ρ i).cap * tm.length := by rw [← Nat.add_mul]; grind
                      grind[setMany_size]) hrow
                grind[upd_lt,wp_value,ren,renS,renA,upd_same,cellOf]
              · have hmul : (e0 + n) * tm.length ≤ (ρ i).cap * tm.length := Nat.mul_le_mul_right _ (by omega)
                rw [Nat.add_mul] at hmul
                refine grow _ _ ((arr.toList.drop ((ρ i).off + e0 * tm.length)).take (n * tm.length)) hy1 (by grind) (fun w2 hw2 => ?_) (fun f t c e k1 k2 he => ?_) (by omega)
                · grind[run_firstCells_some,add_at,cell_of_row]
                · have hle := Nat.mul_le_mul_right tm.length (show e + 1 ≤ n from he)
                  have := g6.cell f t c (e0 + e) k1 k2 (by omega)
                  grind
        · cases h
      · cases h
    · cases h
  · cases h
end
end Go.Proofs.YtobdpddamdkabaaDoor.Rx
