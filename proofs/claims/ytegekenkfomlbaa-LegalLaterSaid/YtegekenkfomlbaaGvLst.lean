/- grove: lists in order. -/
import Derived.Test.YtegekenkfomlbaaGvAvl6
namespace Go.Proofs.Ytegekenkfomlbaa.Gv
open Go.Proofs.Ytegekenkfomlbaa.Rx
set_option linter.unusedVariables false
set_option linter.unusedSimpArgs false
set_option linter.unusedSectionVars false
section
variable {E A : Type} (O : Ops E A)
def loE (e : E) (l : List E) : List E := l.takeWhile fun x => decide (0 < O.cmp e x)
def hiE (e : E) (l : List E) : List E := l.dropWhile fun x => decide (0 < O.cmp e x)
def hitE (e : E) (l : List E) : Option E :=
  match hiE O e l with
  | [] => none
  | x :: _ => if O.cmp e x = 0 then some x else none
def SrtE (l : List E) : Prop := l.Pairwise fun a b => O.cmp a b < 0
/-- one more, or another one in its place; one less -/
def putE (e : E) (l : List E) : List E :=
  match hitE O e l with
  | none => loE O e l ++ e :: hiE O e l
  | some _ => loE O e l ++ e :: (hiE O e l).tail
def dropE (e : E) (l : List E) : List E :=
  match hitE O e l with
  | none => l
  | some _ => loE O e l ++ (hiE O e l).tail
variable {O}
theorem loE_hiE (e : E) (l : List E) : loE O e l ++ hiE O e l = l := List.takeWhile_append_dropWhile
theorem loE_map (e : E) (l : List (Ref × E)) : (lo O e l).map Prod.snd = loE O e (l.map Prod.snd) := by
  unfold lo loE
  rw [List.takeWhile_map]
  rfl
theorem hiE_map (e : E) (l : List (Ref × E)) : (hi O e l).map Prod.snd = hiE O e (l.map Prod.snd) := by
  unfold hi hiE
  rw [List.dropWhile_map]
  rfl
theorem hitE_map (e : E) (l : List (Ref × E)) : (hit O e l).map Prod.snd = hitE O e (l.map Prod.snd) := by
  unfold hit hitE
  rw [← hiE_map]
  cases hi O e l with
  | nil => rfl
  | cons x tl => simp only [List.map_cons]; split <;> rfl
theorem Srt_map {l : List (Ref × E)} : SrtE O (l.map Prod.snd) ↔ Srt O l := by
  unfold SrtE Srt
  rw [List.pairwise_map]
theorem hiE_tail (e : E) (l : List (Ref × E)) : (hi O e l).tail.map Prod.snd = (hiE O e (l.map Prod.snd)).tail := by
  rw [← hiE_map, List.map_tail]
theorem cons_gt {e y : E} {l : List E} (h : 0 < O.cmp e y) : loE O e (y :: l) = y :: loE O e l ∧ hiE O e (y :: l) = hiE O e l ∧ hitE O e (y :: l) = hitE O e l ∧ putE O e (y :: l) = y :: putE O e l ∧ dropE O e (y :: l) = y :: dropE O e l := by
  have h1 : loE O e (y :: l) = y :: loE O e l := by unfold loE; rw [List.takeWhile_cons, if_pos (by simpa using h)]
  have h2 : hiE O e (y :: l) = hiE O e l := by unfold hiE; rw [List.dropWhile_cons, if_pos (by simpa using h)]
  have h3 : hitE O e (y :: l) = hitE O e l := by unfold hitE; rw [h2]
  refine ⟨h1, h2, h3, ?_, ?_⟩
  · unfold putE; rw [h1, h2, h3]; split <;> rfl
  · unfold dropE; rw [h1, h2, h3]; split <;> rfl
theorem cons_ngt {e y : E} {l : List E} (h : ¬ 0 < O.cmp e y) : loE O e (y :: l) = [] ∧ hiE O e (y :: l) = y :: l := by
  refine ⟨?_, ?_⟩
  · unfold loE; rw [List.takeWhile_cons, if_neg (by simpa using h)]
  · unfold hiE; rw [List.dropWhile_cons, if_neg (by simpa using h)]
theorem cons_eq {e y : E} {l : List E} (h : O.cmp e y = 0) : hitE O e (y :: l) = some y ∧ putE O e (y :: l) = e :: l ∧ dropE O e (y :: l) = l := by
  obtain ⟨h1, h2⟩ := cons_ngt (O := O) (e := e) (y := y) (l := l) (by omega)
  have h3 : hitE O e (y :: l) = some y := by unfold hitE; rw [h2]; exact if_pos h
  refine ⟨h3, ?_, ?_⟩
  · unfold putE; rw [h1, h2, h3]; rfl
  · unfold dropE; rw [h1, h2, h3]; rfl
theorem cons_lt {e y : E} {l : List E} (h : O.cmp e y < 0) : hitE O e (y :: l) = none ∧ putE O e (y :: l) = e :: y :: l ∧ dropE O e (y :: l) = y :: l := by
  obtain ⟨h1, h2⟩ := cons_ngt (O := O) (e := e) (y := y) (l := l) (by omega)
  have h3 : hitE O e (y :: l) = none := by unfold hitE; rw [h2]; exact if_neg (by omega)
  refine ⟨h3, ?_, ?_⟩
  · unfold putE; rw [h1, h2, h3]; rfl
  · unfold dropE; rw [h3]
theorem put_mem {e : E} : ∀ {l : List E} {x : E}, x ∈ putE O e l → x = e ∨ x ∈ l
  | [], x, h => by simp [putE, hitE, hiE, loE] at h; exact .inl h
  | y :: l, x, h => by
    rcases Int.lt_trichotomy (O.cmp e y) 0 with c | c | c
    · rw [(cons_lt c).2.1] at h
      simpa using h
    · rw [(cons_eq c).2.1] at h
      rcases List.mem_cons.1 h with h | h
      · exact .inl h
      · exact .inr (List.mem_cons_of_mem _ h)
    · rw [(cons_gt c).2.2.2.1] at h
      rcases List.mem_cons.1 h with h | h
      · exact .inr (by rw [h]; exact List.mem_cons_self)
      · rcases put_mem h with h | h
        · exact .inl h
        · exact .inr (List.mem_cons_of_mem _ h)
theorem drop_mem {e : E} : ∀ {l : List E} {x : E}, x ∈ dropE O e l → x ∈ l
  | [], x, h => by simp [dropE, hitE, hiE, loE] at h
  | y :: l, x, h => by
    rcases Int.lt_trichotomy (O.cmp e y) 0 with c | c | c
    · rw [(cons_lt c).2.2] at h; exact h
    · rw [(cons_eq c).2.2] at h; exact List.mem_cons_of_mem _ h
    · rw [(cons_gt c).2.2.2.2] at h
      rcases List.mem_cons.1 h with h | h
      · rw [h]; exact List.mem_cons_self
      · exact List.mem_cons_of_mem _ (drop_mem h)
theorem put_len {e : E} : ∀ {l : List E}, (putE O e l).length = l.length + (if (hitE O e l).isSome then 0 else 1)
  | [] => by simp [putE, hitE, hiE, loE]
  | y :: l => by
    rcases Int.lt_trichotomy (O.cmp e y) 0 with c | c | c
    · rw [(cons_lt c).2.1, (cons_lt c).1]; simp
    · rw [(cons_eq c).2.1, (cons_eq c).1]; simp
    · rw [(cons_gt c).2.2.2.1, (cons_gt c).2.2.1, List.length_cons, List.length_cons, put_len]; omega
theorem drop_len {e : E} : ∀ {l : List E}, (dropE O e l).length + (if (hitE O e l).isSome then 1 else 0) = l.length
  | [] => by simp [dropE, hitE, hiE, loE]
  | y :: l => by
    rcases Int.lt_trichotomy (O.cmp e y) 0 with c | c | c
    · rw [(cons_lt c).2.2, (cons_lt c).1]; simp
    · rw [(cons_eq c).2.2, (cons_eq c).1]; simp
    · have := drop_len (e := e) (l := l)
      rw [(cons_gt c).2.2.2.2, (cons_gt c).2.2.1, List.length_cons, List.length_cons]; omega
variable {S : List E → A} {good : List E → Prop} (Z : Laws O S good)
include Z
theorem put_srt {e : E} : ∀ {l : List E}, SrtE O l → SrtE O (putE O e l)
  | [], h => by simp [putE, hitE, hiE, loE, SrtE]
  | y :: l, h => by
    obtain ⟨h1, h2⟩ := List.pairwise_cons.1 h
    rcases Int.lt_trichotomy (O.cmp e y) 0 with c | c | c
    · rw [(cons_lt c).2.1]
      refine List.pairwise_cons.2 ⟨fun x hx => ?_, h⟩
      rcases List.mem_cons.1 hx with hx | hx
      · rw [hx]; exact c
      · exact Z.trans _ _ _ c (h1 x hx)
    · rw [(cons_eq c).2.1]
      exact List.pairwise_cons.2 ⟨fun x hx => Z.eqv _ _ _ c (h1 x hx), h2⟩
    · rw [(cons_gt c).2.2.2.1]
      refine List.pairwise_cons.2 ⟨fun x hx => ?_, put_srt h2⟩
      rcases put_mem hx with hx | hx
      · rw [hx]; exact (Z.swap _ _).2 c
      · exact h1 x hx
omit Z in
theorem drop_srt {e : E} : ∀ {l : List E}, SrtE O l → SrtE O (dropE O e l)
  | [], h => by simp [dropE, hitE, hiE, loE, SrtE]
  | y :: l, h => by
    obtain ⟨h1, h2⟩ := List.pairwise_cons.1 h
    rcases Int.lt_trichotomy (O.cmp e y) 0 with c | c | c
    · rw [(cons_lt c).2.2]; exact h
    · rw [(cons_eq c).2.2]; exact h2
    · rw [(cons_gt c).2.2.2.2]
      exact List.pairwise_cons.2 ⟨fun x hx => h1 x (drop_mem hx), drop_srt h2⟩
end
end Go.Proofs.Ytegekenkfomlbaa.Gv
