/- wave: the document's lists of items in order. -/
import Derived.Test.YtegekenkfomlbaaItFn
namespace Go.Proofs.Ytegekenkfomlbaa.Wv
open Go.Proofs.Ytegekenkfomlbaa.Rx
set_option linter.unusedVariables false
set_option linter.unusedSimpArgs false
set_option maxRecDepth 100000
set_option maxHeartbeats 4000000
/-- items as a row -/
abbrev iR (l : List It) : Row := ⟨[.int .i64 0, .int .i64 0], l.length, [⟨l.map It.k, [], []⟩, ⟨l.map It.i, [], []⟩]⟩
def unI (r : Row) : List It := match r.cols with
  | [a, b] => (List.range r.n).map fun i => ⟨a.i.getD i 0, b.i.getD i 0⟩
  | _ => []
theorem range_get {α : Type} {l : List α} {f : Nat → α} (h : ∀ i (hi : i < l.length), f i = l[i]) : (List.range l.length).map f = l := by
  refine List.ext_getElem (by simp) fun i h1 h2 => ?_
  simp only [List.getElem_map, List.getElem_range]
  exact h i h2
theorem map_getD {α β : Type} {l : List α} {i : Nat} (f : α → β) (d : β) (hi : i < l.length) : (l.map f).getD i d = f l[i] := by
  rw [List.getD_eq_getElem?_getD, List.getElem?_map, List.getElem?_eq_getElem hi]; rfl
theorem unI_iR (l : List It) : unI (iR l) = l := by
  unfold unI
  refine range_get fun i hi => ?_
  simp only [map_getD _ _ hi]
theorem cut_map {α β : Type} (f : α → β) (l : List α) (a b : Nat) : cut (l.map f) a b = (cut l a b).map f := by
  unfold cut; rw [List.map_take, List.map_drop]
theorem cm {α β : Type} (f : α → β) (l : List α) : cut (l.map f) 0 l.length = l.map f := cut_eq (by simp)
abbrev vI {R : Type} (l : List It) : Option (SB R) := some (.inr (.inr (.inl (iR l))))
abbrev oI {R : Type} (l : List It) : Option (SB R) := some (.inr (.inl (36, iR l)))
theorem cut_drop {α : Type} {x : List α} {a b : Nat} (h : x.length ≤ a + b) : cut x a b = x.drop a := by
  unfold cut
  exact List.take_of_length_le (by simp; omega)
theorem put_rowA {α : Type} {x : List α} {r : Nat} (v : α) (h : r ≤ x.length) : cut (cut ([] ++ cut x 0 r) 0 r ++ cut [v] 0 1) 0 (r + 1) = x.take r ++ [v] := by
  have h1 : cut ([] ++ cut x 0 r) 0 r = x.take r := by unfold cut; simp [List.take_take]
  rw [h1, show cut [v] 0 1 = [v] from rfl]
  exact cut_eq (by simp; omega)
theorem put_row0 {α : Type} {x : List α} {r L : Nat} {v : α} (hL : x.length = L) (h : r ≤ L) : cut (cut ([] ++ cut x 0 r) 0 r ++ cut [v] 0 1) 0 (r + 1) ++ cut x r ((L : Int) - (r : Int)).toNat = x.take r ++ v :: x.drop r := by
  rw [put_rowA v (by omega), cut_drop (by omega)]
  simp
theorem put_row1 {α : Type} {x : List α} {r L : Nat} {v : α} (hL : x.length = L) (h : r < L) : cut (cut ([] ++ cut x 0 r) 0 r ++ cut [v] 0 1) 0 (r + 1) ++ cut x ((r : Int) + 1).toNat ((L : Int) - ((r : Int) + 1)).toNat = x.take r ++ v :: x.drop (r + 1) := by
  rw [put_rowA v (by omega), cut_drop (by omega), show ((r : Int) + 1).toNat = r + 1 by omega]
  simp
theorem srt_step {l : List It} {i : Nat} (hi : i < l.length) : srt (l.take (i + 1)) = ins (l.getD i iz) (srt (l.take i)) := by
  rw [take_succ_getD iz hi, srt_snoc]
theorem insE {x : It} {S : List It} {k : Nat} (h : posAt x S S.length = k) : (ins x S).map It.k = (S.map It.k).take k ++ x.k :: (S.map It.k).drop k ∧ (ins x S).map It.i = (S.map It.i).take k ++ x.i :: (S.map It.i).drop k ∧ (k ≤ S.length → k + 1 + ((S.length : Int) - (k : Int)).toNat = (ins x S).length) := by
  subst h
  refine ⟨?_, ?_, fun h => ?_⟩
  · unfold ins; rw [List.map_append, List.map_cons, List.map_take, List.map_drop]
  · unfold ins; rw [List.map_append, List.map_cons, List.map_take, List.map_drop]
  · rw [ins_len]; omega
end Go.Proofs.Ytegekenkfomlbaa.Wv
