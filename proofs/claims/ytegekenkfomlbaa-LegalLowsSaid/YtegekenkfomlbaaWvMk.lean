/- items, their order, and lists of them in order. -/
import Derived.Test.YtegekenkfomlbaaRxP
namespace Go.Proofs.Ytegekenkfomlbaa.Wv
open Go.Proofs.Ytegekenkfomlbaa.Rx
set_option linter.unusedVariables false
set_option linter.unusedSimpArgs false
/-- an item -/
structure It where
  k : Int
  i : Int
instance : DecidableEq It := fun a b => decidable_of_iff (a.k = b.k ∧ a.i = b.i) ⟨fun h => by cases a; cases b; cases h.1; cases h.2; rfl, fun h => by cases h; exact ⟨rfl, rfl⟩⟩
def ah (a b : It) : Prop := a.k < b.k ∨ a.k = b.k ∧ a.i < b.i
instance (a b : It) : Decidable (ah a b) := inferInstanceAs (Decidable (_ ∨ _))
def icmp (a b : It) : Int := if a.k < b.k then -1 else if a.k > b.k then 1 else if a.i < b.i then -1 else if a.i > b.i then 1 else 0
/-- the order of ints -/
def c64 (a b : Int) : Int := if a < b then -1 else if a > b then 1 else 0
theorem icmp_pos (a b : It) : icmp a b > 0 ↔ ah b a := by unfold icmp ah; repeat' split; all_goals omega
theorem icmp_one (a b : It) : icmp a b = 1 ↔ ah b a := by unfold icmp ah; repeat' split; all_goals omega
theorem icmp_neg (a b : It) : icmp a b = -1 ↔ ah a b := by unfold icmp ah; repeat' split; all_goals omega
abbrev iz : It := ⟨0, 0⟩
theorem It.ext_ {a b : It} (h : a.k = b.k) (h' : a.i = b.i) : a = b := by cases a; cases b; cases h; cases h'; rfl
theorem ah_asymm {a b : It} (h : ah a b) : ¬ ah b a := by unfold ah at *; omega
theorem ah_tri {a b : It} (h : ¬ ah a b) (h' : ¬ ah b a) : a = b := It.ext_ (by unfold ah at *; omega) (by unfold ah at *; omega)
/-- the greater one, the lesser one, of those that are there -/
def up : Option It → Option It → Option It
  | a, none => a
  | none, some b => some b
  | some a, some b => if ah a b then some b else some a
def dn : Option It → Option It → Option It
  | a, none => a
  | none, some b => some b
  | some a, some b => if ah b a then some b else some a
theorem none_up (a : Option It) : up none a = a := by cases a <;> rfl
theorem none_dn (a : Option It) : dn none a = a := by cases a <;> rfl
theorem up_assoc : ∀ a b c : Option It, up (up a b) c = up a (up b c)
  | a, b, none => by cases a <;> cases b <;> rfl
  | a, none, some c => by cases a <;> rfl
  | none, some b, some c => by rw [none_up, none_up]
  | some a, some b, some c => by
    simp only [up]
    by_cases h1 : ah a b <;> by_cases h2 : ah b c <;> simp only [h1, h2, if_true, if_false, up]
    · rw [if_pos (by unfold ah at *; omega)]
    · rw [if_neg (by unfold ah at *; omega)]
theorem dn_assoc : ∀ a b c : Option It, dn (dn a b) c = dn a (dn b c)
  | a, b, none => by cases a <;> cases b <;> rfl
  | a, none, some c => by cases a <;> rfl
  | none, some b, some c => by rw [none_dn, none_dn]
  | some a, some b, some c => by
    simp only [dn]
    by_cases h1 : ah b a <;> by_cases h2 : ah c b <;> simp only [h1, h2, if_true, if_false, dn]
    · rw [if_pos (by unfold ah at *; omega)]
    · rw [if_neg (by unfold ah at *; omega)]
def hi : List It → Option It
  | [] => none
  | x :: l => up (some x) (hi l)
def lo : List It → Option It
  | [] => none
  | x :: l => dn (some x) (lo l)
theorem hi_append : ∀ x y : List It, hi (x ++ y) = up (hi x) (hi y)
  | [], y => (none_up _).symm
  | a :: x, y => by
    show up (some a) (hi (x ++ y)) = up (up (some a) (hi x)) (hi y)
    rw [hi_append x y, up_assoc]
theorem lo_append : ∀ x y : List It, lo (x ++ y) = dn (lo x) (lo y)
  | [], y => (none_dn _).symm
  | a :: x, y => by
    show dn (some a) (lo (x ++ y)) = dn (dn (some a) (lo x)) (lo y)
    rw [lo_append x y, dn_assoc]
theorem up_some (a : It) (b : Option It) : (up (some a) b).isSome = true := by cases b <;> simp only [up] <;> (try split) <;> rfl
theorem dn_some (a : It) (b : Option It) : (dn (some a) b).isSome = true := by cases b <;> simp only [dn] <;> (try split) <;> rfl
theorem hi_none : ∀ l : List It, (hi l).isSome = true ↔ l ≠ []
  | [] => by simp [hi]
  | a :: l => by simp only [hi, up_some, true_iff]; exact List.cons_ne_nil _ _
theorem lo_none : ∀ l : List It, (lo l).isSome = true ↔ l ≠ []
  | [] => by simp [lo]
  | a :: l => by simp only [lo, dn_some, true_iff]; exact List.cons_ne_nil _ _
theorem lo_min : ∀ (l : List It) (h : It), lo l = some h → ∀ e ∈ l, ¬ ah e h
  | [], h, hh => by cases hh
  | a :: l, h, hh => by
    intro e he
    simp only [lo] at hh
    cases hl : lo l with
    | none =>
      have : l = [] := by
        rcases List.eq_nil_or_concat l with h0 | ⟨y, z, h0⟩
        · exact h0
        · have := (lo_none l).2 (by rw [h0]; simp)
          rw [hl] at this; cases this
      subst this
      rw [hl] at hh
      injection hh with hh
      subst hh
      simp only [List.mem_singleton] at he
      subst he
      unfold ah; omega
    | some b =>
      have ih := lo_min l b hl
      rw [hl] at hh
      simp only [dn] at hh
      rcases List.mem_cons.1 he with he | he
      · subst he
        split at hh <;> (injection hh with hh; subst hh) <;> unfold ah at * <;> omega
      · have := ih e he
        split at hh <;> (injection hh with hh; subst hh) <;> unfold ah at * <;> omega
theorem hi_any (x : It) : ∀ l : List It, (l.any fun e => decide (ah x e)) = (hi l).any fun e => decide (ah x e)
  | [] => rfl
  | a :: l => by
    rw [List.any_cons, hi_any x l]
    show _ = (up (some a) (hi l)).any _
    cases hi l with
    | none => simp [up]
    | some b =>
      simp only [up, Option.any_some]
      by_cases h : ah a b
      · rw [if_pos h]
        simp only [Option.any_some]
        by_cases h1 : ah x a
        · rw [decide_eq_true h1, decide_eq_true (p := ah x b) (by unfold ah at *; omega)]; rfl
        · rw [decide_eq_false h1]; rfl
      · rw [if_neg h]
        simp only [Option.any_some]
        by_cases h1 : ah x b
        · rw [decide_eq_true h1, decide_eq_true (p := ah x a) (by unfold ah at *; omega)]; rfl
        · rw [decide_eq_false h1, Bool.or_false]
/-- in order, one by one -/
def posAt (x : It) (l : List It) : Nat → Nat
  | 0 => 0
  | k + 1 => if ah x (l.getD k iz) then posAt x l k else k + 1
theorem posAt_le (x : It) (l : List It) : ∀ k, posAt x l k ≤ k
  | 0 => Nat.le_refl _
  | k + 1 => by rw [posAt]; split; exact Nat.le_succ_of_le (posAt_le x l k); exact Nat.le_refl _
def ins (x : It) (l : List It) : List It := l.take (posAt x l l.length) ++ x :: l.drop (posAt x l l.length)
def srt (l : List It) : List It := l.foldl (fun s x => ins x s) []
theorem srt_snoc (l : List It) (x : It) : srt (l ++ [x]) = ins x (srt l) := by unfold srt; rw [List.foldl_append]; rfl
theorem ins_len (x : It) (l : List It) : (ins x l).length = l.length + 1 := by
  have := posAt_le x l l.length
  unfold ins; simp; omega
theorem snoc_ind {α : Type} {P : List α → Prop} (h0 : P []) (h1 : ∀ l x, P l → P (l ++ [x])) : ∀ l, P l := by
  intro l
  have : ∀ n (l : List α), l.length = n → P l := by
    intro n
    induction n with
    | zero => intro l h; rw [List.eq_nil_of_length_eq_zero h]; exact h0
    | succ n ih =>
      intro l h
      rcases List.eq_nil_or_concat l with e | ⟨y, z, e⟩
      · rw [e] at h; cases h
      · rw [e, List.concat_eq_append] at h ⊢
        refine h1 y z (ih y ?_)
        rw [List.length_append] at h
        simpa using h
  exact this _ l rfl
theorem srt_len (l : List It) : (srt l).length = l.length := snoc_ind (P := fun l => (srt l).length = l.length) rfl (fun l x h => by rw [srt_snoc, ins_len, h]; simp) l
theorem srt_mem (l : List It) : ∀ e ∈ srt l, e ∈ l := snoc_ind (P := fun l => ∀ e ∈ srt l, e ∈ l) (fun e h => h) (fun l x h e he => by
  rw [srt_snoc] at he
  unfold ins at he
  rcases List.mem_append.1 he with he | he
  · exact List.mem_append_left _ (h e (List.mem_of_mem_take he))
  · rcases List.mem_cons.1 he with he | he
    · rw [he]; simp
    · exact List.mem_append_left _ (h e (List.mem_of_mem_drop he))) l
theorem posAt_zero {x : It} {l : List It} : ∀ {k}, posAt x l (k + 1) = 0 → ah x (l.getD 0 iz)
  | 0, h => by rw [posAt] at h; split at h; assumption; cases h
  | k + 1, h => by
    rw [posAt] at h
    split at h
    · exact posAt_zero h
    · cases h
theorem posAt_pos {x : It} {l : List It} : ∀ {k}, posAt x l k ≠ 0 → ¬ ah x (l.getD (posAt x l k - 1) iz)
  | 0, h => absurd rfl h
  | k + 1, h => by
    rw [posAt] at h ⊢
    split at h
    · rename_i h1
      rw [if_pos h1]
      exact posAt_pos h
    · rename_i h1
      rw [if_neg h1]
      simpa using h1
theorem srt_hi (l : List It) : (srt l)[l.length - 1]? = hi l := snoc_ind (P := fun l => (srt l)[l.length - 1]? = hi l) rfl (fun l x h => by
  have hn := srt_len l
  rw [srt_snoc, hi_append, List.length_append, show l.length + [x].length - 1 = l.length by simp]
  show _ = up (hi l) (some x)
  have hp := posAt_le x (srt l) (srt l).length
  unfold ins
  rw [hn] at hp ⊢
  by_cases hl : l.length = 0
  · have : l = [] := List.eq_nil_of_length_eq_zero hl
    subst this
    rfl
  · obtain ⟨n, hn1⟩ : ∃ n, l.length = n + 1 := ⟨l.length - 1, by omega⟩
    rw [hn1] at h hp hn ⊢
    rw [Nat.add_sub_cancel] at h
    have hd : (srt l).getD n iz = (hi l).getD iz := by rw [List.getD_eq_getElem?_getD, h]
    have hs : ∃ g, hi l = some g := by rw [← h, List.getElem?_eq_getElem (by omega)]; exact ⟨_, rfl⟩
    obtain ⟨g, hg⟩ := hs
    rw [hg] at hd h ⊢
    simp only [Option.getD_some] at hd
    rw [posAt, hd]
    by_cases c : ah x g
    · rw [if_pos c]
      have hp2 := posAt_le x (srt l) n
      rw [List.getElem?_append_right (by simp; omega)]
      simp only [List.length_take]
      rw [Nat.min_eq_left (by omega)]
      have : n + 1 - posAt x (srt l) n = (n - posAt x (srt l) n) + 1 := by omega
      rw [this, List.getElem?_cons_succ, List.getElem?_drop, show posAt x (srt l) n + (n - posAt x (srt l) n) = n by omega, h]
      simp only [up]
      rw [if_neg (ah_asymm c)]
    · rw [if_neg c, List.getElem?_append_right (by simp; omega)]
      simp only [List.length_take]
      rw [Nat.min_eq_left (by omega), Nat.sub_self, List.getElem?_cons_zero]
      simp only [up]
      by_cases c2 : ah g x
      · rw [if_pos c2]
      · rw [if_neg c2, ah_tri c c2]) l
theorem srt_lo (l : List It) : (srt l)[0]? = lo l := snoc_ind (P := fun l => (srt l)[0]? = lo l) rfl (fun l x h => by
  have hn := srt_len l
  rw [srt_snoc, lo_append]
  show _ = dn (lo l) (some x)
  have hp := posAt_le x (srt l) (srt l).length
  unfold ins
  rw [hn] at hp ⊢
  by_cases hl : l.length = 0
  · have : l = [] := List.eq_nil_of_length_eq_zero hl
    subst this
    rfl
  · obtain ⟨n, hn1⟩ : ∃ n, l.length = n + 1 := ⟨l.length - 1, by omega⟩
    rw [hn1] at hp hn ⊢
    have hs : ∃ g, lo l = some g := by rw [← h, List.getElem?_eq_getElem (by omega)]; exact ⟨_, rfl⟩
    obtain ⟨g, hg⟩ := hs
    have hm := lo_min l g hg
    rw [hg] at h ⊢
    have hd : (srt l).getD 0 iz = g := by rw [List.getD_eq_getElem?_getD, h]; rfl
    by_cases c : posAt x (srt l) (n + 1) = 0
    · have c2 := posAt_zero c
      rw [c, hd] at *
      simp only [List.take_zero, List.nil_append, List.getElem?_cons_zero, dn]
      rw [if_pos c2]
    · have c2 := posAt_pos c
      have hlt : posAt x (srt l) (n + 1) - 1 < (srt l).length := by omega
      have hmem := srt_mem l _ (getD_mem (d := iz) hlt)
      have c3 := hm _ hmem
      rw [List.getElem?_append_left (by simp; omega), List.getElem?_take_of_lt (by omega), h]
      simp only [dn]
      rw [if_neg]
      unfold ah at *
      omega) l
end Go.Proofs.Ytegekenkfomlbaa.Wv
