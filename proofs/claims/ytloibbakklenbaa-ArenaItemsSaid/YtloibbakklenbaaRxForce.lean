/- Symbolic runs: what is computed is brought to its form before it is used on. Nothing of the program. -/
import Derived.Test.YtloibbakklenbaaRxRun
namespace Go.Proofs.Ytloibbakklenbaa.Rx
set_option linter.unusedVariables false
/-- numbers, as a tree -/
inductive Tr
  | leaf (i : Nat)
  | node (c : Nat) (l r : Tr)
def fT {β : Sort _} : Tr → Nat → (Nat → β) → β
  | .leaf i, n, k => match Nat.beq n i with
    | true => k i
    | false => k n
  | .node c l r, n, k => match Nat.blt n c with
    | true => fT l n k
    | false => fT r n k
theorem fT_eq {β : Sort _} (t : Tr) (n : Nat) (k : Nat → β) : fT t n k = k n := by
  induction t with
  | leaf i =>
    simp only [fT]
    split
    · rename_i h; rw [Nat.eq_of_beq_eq_true h]
    · rfl
  | node c l r hl hr =>
    simp only [fT]
    split
    · exact hl
    · exact hr
def trs : Tr := (.node 64 (.node 32 (.node 16 (.node 8 (.node 4 (.node 2 (.node 1 (.leaf 0) (.leaf 1)) (.node 3 (.leaf 2) (.leaf 3))) (.node 6 (.node 5 (.leaf 4) (.leaf 5)) (.node 7 (.leaf 6) (.leaf 7)))) (.node 12 (.node 10 (.node 9 (.leaf 8) (.leaf 9)) (.node 11 (.leaf 10) (.leaf 11))) (.node 14 (.node 13 (.leaf 12) (.leaf 13)) (.node 15 (.leaf 14) (.leaf 15))))) (.node 24 (.node 20 (.node 18 (.node 17 (.leaf 16) (.leaf 17)) (.node 19 (.leaf 18) (.leaf 19))) (.node 22 (.node 21 (.leaf 20) (.leaf 21)) (.node 23 (.leaf 22) (.leaf 23)))) (.node 28 (.node 26 (.node 25 (.leaf 24) (.leaf 25)) (.node 27 (.leaf 26) (.leaf 27))) (.node 30 (.node 29 (.leaf 28) (.leaf 29)) (.node 31 (.leaf 30) (.leaf 31)))))) (.node 48 (.node 40 (.node 36 (.node 34 (.node 33 (.leaf 32) (.leaf 33)) (.node 35 (.leaf 34) (.leaf 35))) (.node 38 (.node 37 (.leaf 36) (.leaf 37)) (.node 39 (.leaf 38) (.leaf 39)))) (.node 44 (.node 42 (.node 41 (.leaf 40) (.leaf 41)) (.node 43 (.leaf 42) (.leaf 43))) (.node 46 (.node 45 (.leaf 44) (.leaf 45)) (.node 47 (.leaf 46) (.leaf 47))))) (.node 56 (.node 52 (.node 50 (.node 49 (.leaf 48) (.leaf 49)) (.node 51 (.leaf 50) (.leaf 51))) (.node 54 (.node 53 (.leaf 52) (.leaf 53)) (.node 55 (.leaf 54) (.leaf 55)))) (.node 60 (.node 58 (.node 57 (.leaf 56) (.leaf 57)) (.node 59 (.leaf 58) (.leaf 59))) (.node 62 (.node 61 (.leaf 60) (.leaf 61)) (.node 63 (.leaf 62) (.leaf 63))))))) (.node 96 (.node 80 (.node 72 (.node 68 (.node 66 (.node 65 (.leaf 64) (.leaf 65)) (.node 67 (.leaf 66) (.leaf 67))) (.node 70 (.node 69 (.leaf 68) (.leaf 69)) (.node 71 (.leaf 70) (.leaf 71)))) (.node 76 (.node 74 (.node 73 (.leaf 72) (.leaf 73)) (.node 75 (.leaf 74) (.leaf 75))) (.node 78 (.node 77 (.leaf 76) (.leaf 77)) (.node 79 (.leaf 78) (.leaf 79))))) (.node 88 (.node 84 (.node 82 (.node 81 (.leaf 80) (.leaf 81)) (.node 83 (.leaf 82) (.leaf 83))) (.node 86 (.node 85 (.leaf 84) (.leaf 85)) (.node 87 (.leaf 86) (.leaf 87)))) (.node 92 (.node 90 (.node 89 (.leaf 88) (.leaf 89)) (.node 91 (.leaf 90) (.leaf 91))) (.node 94 (.node 93 (.leaf 92) (.leaf 93)) (.node 95 (.leaf 94) (.leaf 95)))))) (.node 112 (.node 104 (.node 100 (.node 98 (.node 97 (.leaf 96) (.leaf 97)) (.node 99 (.leaf 98) (.leaf 99))) (.node 102 (.node 101 (.leaf 100) (.leaf 101)) (.node 103 (.leaf 102) (.leaf 103)))) (.node 108 (.node 106 (.node 105 (.leaf 104) (.leaf 105)) (.node 107 (.leaf 106) (.leaf 107))) (.node 110 (.node 109 (.leaf 108) (.leaf 109)) (.node 111 (.leaf 110) (.leaf 111))))) (.node 120 (.node 116 (.node 114 (.node 113 (.leaf 112) (.leaf 113)) (.node 115 (.leaf 114) (.leaf 115))) (.node 118 (.node 117 (.leaf 116) (.leaf 117)) (.node 119 (.leaf 118) (.leaf 119)))) (.node 124 (.node 122 (.node 121 (.leaf 120) (.leaf 121)) (.node 123 (.leaf 122) (.leaf 123))) (.node 126 (.node 125 (.leaf 124) (.leaf 125)) (.node 127 (.leaf 126) (.leaf 127))))))))
def fN {β : Sort _} (n : Nat) (k : Nat → β) : β := fT trs n k
theorem fN_eq {β : Sort _} (n : Nat) (k : Nat → β) : fN n k = k n := fT_eq _ _ _
def fB {β : Sort _} (b : Bool) (k : Bool → β) : β :=
  match b with
  | true => k true
  | false => k false
theorem fB_eq {β : Sort _} (b : Bool) (k : Bool → β) : fB b k = k b := by cases b <;> rfl
/-- a spot, by its parts -/
def fQ {β : Sort _} (q : Nat) (k : Nat → β) : β :=
  fN (q % 1000) fun f => fN (q % 1000000 / 1000) fun s => fN (q / 1000000) fun t => k (f + (1000 * s + 1000000 * t))
theorem fQ_eq {β : Sort _} (q : Nat) (k : Nat → β) : fQ q k = k q := by
  unfold fQ
  rw [fN_eq, fN_eq, fN_eq]
  congr 1
  omega
def fA {β : Sort _} (a : Addr) (k : Addr → β) : β :=
  match a with
  | ⟨b, o, none⟩ => fN b fun b => k ⟨b, o, none⟩
  | ⟨b, o, some q⟩ => fN b fun b => fQ q fun q => k ⟨b, o, some q⟩
theorem fA_eq {β : Sort _} (a : Addr) (k : Addr → β) : fA a k = k a := by
  obtain ⟨b, o, s⟩ := a
  cases s with
  | none => simp only [fA, fN_eq]
  | some q => simp only [fA, fN_eq, fQ_eq]
/-- a value that is no aggregate -/
def fV0 {β : Sort _} (v : Value) (k : Value → β) : β :=
  match v with
  | .pointer (some a) => fA a fun a => k (.pointer (some a))
  | .slice (some a) n c => fA a fun a => k (.slice (some a) n c)
  | .slice none n c => k (.slice none n c)
  | .pointer none => k (.pointer none)
  | .int t n => k (.int t n)
  | .bool b => k (.bool b)
  | .string s => k (.string s)
  | v => k v
theorem fV0_eq {β : Sort _} (v : Value) (k : Value → β) : fV0 v k = k v := by
  unfold fV0
  split <;> simp only [fA_eq]
def fVs {β : Sort _} : List Value → (List Value → β) → β
  | [], k => k []
  | v :: l, k => fV0 v fun v => fVs l fun l => k (v :: l)
theorem fVs_eq {β : Sort _} (l : List Value) (k : List Value → β) : fVs l k = k l := by
  induction l generalizing k with
  | nil => rfl
  | cons v l ih => simp only [fVs, fV0_eq, ih]
def fV {β : Sort _} (v : Value) (k : Value → β) : β :=
  match v with
  | .agg ⟨l⟩ => fVs l fun l => k (.agg ⟨l⟩)
  | .tuple ⟨l⟩ => fVs l fun l => k (.tuple ⟨l⟩)
  | v => fV0 v k
theorem fV_eq {β : Sort _} (v : Value) (k : Value → β) : fV v k = k v := by
  unfold fV
  split
  · rw [fVs_eq]
  · rw [fVs_eq]
  · rw [fV0_eq]
def fVl {β : Sort _} : List Value → (List Value → β) → β
  | [], k => k []
  | v :: l, k => fV v fun v => fVl l fun l => k (v :: l)
theorem fVl_eq {β : Sort _} (l : List Value) (k : List Value → β) : fVl l k = k l := by
  induction l generalizing k with
  | nil => rfl
  | cons v l ih => simp only [fVl, fV_eq, ih]
def fTm {β : Sort _} : List (Option Value) → (List (Option Value) → β) → β
  | [], k => k []
  | none :: l, k => fTm l fun l => k (none :: l)
  | some v :: l, k => fV v fun v => fTm l fun l => k (some v :: l)
theorem fTm_eq {β : Sort _} (l : List (Option Value)) (k : List (Option Value) → β) : fTm l k = k l := by
  induction l generalizing k with
  | nil => rfl
  | cons v l ih => cases v <;> simp only [fTm, fV_eq, ih]
def fLi {β : Sort _} : List (Nat × Bool) → (List (Nat × Bool) → β) → β
  | [], k => k []
  | (t, b) :: l, k => fB b fun b => fLi l fun l => k ((t, b) :: l)
theorem fLi_eq {β : Sort _} (l : List (Nat × Bool)) (k : List (Nat × Bool) → β) : fLi l k = k l := by
  induction l generalizing k with
  | nil => rfl
  | cons v l ih => obtain ⟨t, b⟩ := v; simp only [fLi, fB_eq, ih]
def fNs {β : Sort _} : List Nat → (List Nat → β) → β
  | [], k => k []
  | n :: l, k => fN n fun n => fNs l fun l => k (n :: l)
theorem fNs_eq {β : Sort _} (l : List Nat) (k : List Nat → β) : fNs l k = k l := by
  induction l generalizing k with
  | nil => rfl
  | cons v l ih => simp only [fNs, fN_eq, ih]
def fCs {β : Sort _} : List Col → (List Col → β) → β
  | [], k => k []
  | ⟨i, b, s⟩ :: l, k => fCs l fun l => k (⟨i, b, s⟩ :: l)
theorem fCs_eq {β : Sort _} (l : List Col) (k : List Col → β) : fCs l k = k l := by
  induction l generalizing k with
  | nil => rfl
  | cons v l ih => obtain ⟨i, b, s⟩ := v; simp only [fCs, ih]
def fRow {β : Sort _} (r : Row) (k : Row → β) : β :=
  match r with
  | ⟨tm, n, cs⟩ => fVs tm fun tm => fCs cs fun cs => k ⟨tm, n, cs⟩
theorem fRow_eq {β : Sort _} (r : Row) (k : Row → β) : fRow r k = k r := by
  obtain ⟨tm, n, cs⟩ := r
  simp only [fRow, fVs_eq, fCs_eq]
section
variable {R : Type}
def fSB {β : Sort _} (b : SB R) (k : SB R → β) : β :=
  match b with
  | .inl (t, cs) => fN t fun t => fVl cs fun cs => k (.inl (t, cs))
  | .inr (.inl (t, r)) => fN t fun t => fRow r fun r => k (.inr (.inl (t, r)))
  | .inr (.inr (.inl r)) => fRow r fun r => k (.inr (.inr (.inl r)))
  | .inr (.inr (.inr x)) => k (.inr (.inr (.inr x)))
theorem fSB_eq {β : Sort _} (b : SB R) (k : SB R → β) : fSB b k = k b := by
  rcases b with ⟨t, cs⟩ | ⟨t, r⟩ | r | x <;> simp only [fSB, fVl_eq, fRow_eq, fN_eq]
def fHp {β : Sort _} : Hp R → (Hp R → β) → β
  | [], k => k []
  | none :: l, k => fHp l fun l => k (none :: l)
  | some b :: l, k => fSB b fun b => fHp l fun l => k (some b :: l)
theorem fHp_eq {β : Sort _} (l : Hp R) (k : Hp R → β) : fHp l k = k l := by
  induction l generalizing k with
  | nil => rfl
  | cons v l ih => cases v <;> simp only [fHp, fSB_eq, ih]
def fSS {β : Sort _} (σ : SS R) (k : SS R → β) : β :=
  match σ with
  | ⟨tm, li, hp⟩ => fTm tm fun tm => fLi li fun li => fHp hp fun hp => k ⟨tm, li, hp⟩
theorem fSS_eq {β : Sort _} (σ : SS R) (k : SS R → β) : fSS σ k = k σ := by
  obtain ⟨tm, li, hp⟩ := σ
  simp only [fSS, fTm_eq, fLi_eq, fHp_eq]
end
end Go.Proofs.Ytloibbakklenbaa.Rx
