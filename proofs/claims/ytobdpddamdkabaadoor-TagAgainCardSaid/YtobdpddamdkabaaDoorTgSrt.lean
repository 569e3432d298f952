/- tag: slices.SortedFunc of the values of the map, as a contract. -/
import Derived.Test.YtobdpddamdkabaaDoorTgList
import Derived.Test.YtobdpddamdkabaaDoorTgRow
import Derived.Test.YtobdpddamdkabaaDoorRxQ
namespace Go.Proofs.YtobdpddamdkabaaDoor.Tg
open Go.RowKit Go.Proofs.YtobdpddamdkabaaDoor.State Go.Proofs.YtobdpddamdkabaaDoor.Rx
set_option linter.unusedVariables false
set_option linter.unusedSimpArgs false
theorem map_getD {α : Type} (L : List Ls) (f : Ls → α) (d : α) {e : Nat} (h : e < L.length) : (L.map f).getD e d = f L[e] := by
  rw [List.getD_eq_getElem?_getD, List.getElem?_map, List.getElem?_eq_getElem h]; rfl
theorem rowL_in (L : List Ls) (arr : Array Value) (h : arr.toList.take (L.length * 6) = flatO L) : RowIn (rowL L) arr 0 where
  len := rfl
  col f t c ht hc := by
    match f, ht, hc with
    | 0, ht, hc | 1, ht, hc | 2, ht, hc | 3, ht, hc | 4, ht, hc | 5, ht, hc =>
      injection ht with ht; injection hc with hc; subst ht hc
      exact List.length_map _
  cell f t c e ht hc he := by
    have he' : e < L.length := he
    have hx : L[e]? = some L[e] := List.getElem?_eq_getElem he'
    have hf : f < 6 := by
      have := (List.getElem?_eq_some_iff.1 ht).1
      exact this
    have h1 := flatO_get L e f _ hx hf
    rw [← h, List.getElem?_take, if_pos (by omega), Array.getElem?_toList] at h1
    have e0 : 0 + (e * (rowL L).tm.length + f) = e * 6 + f := by
      show 0 + (e * 6 + f) = _; omega
    rw [e0, h1]
    match f, ht, hc with
    | 0, ht, hc | 1, ht, hc | 2, ht, hc | 3, ht, hc | 4, ht, hc | 5, ht, hc =>
      injection ht with ht; injection hc with hc; subst ht hc
      show some _ = some _
      congr 1
      simp only [cellVal, colI, colB]
      rw [map_getD L _ _ he']
section
variable {R : Type} {D : Res R} {C : Ctx} {ρ : Env} {ft : Nat → Nat → Prop} {h : Hp R} {w w' : World}
/-- a new row, in a world that has grown -/
theorem HM.newRow (hm : HM D C ρ ft h w) (hb : Below w.heap.size w w') (B : SB R) (p : Rx.Place) (F : Nat → Prop) (hB : hold D C (upd ρ h.length p) h.length F w' B) (hs : inside (h.length + 1) B) (hF : ∀ k, F k → w.heap.size ≤ k ∧ k < w'.heap.size) :
    HM D C (upd ρ h.length p) (upd ft h.length F) (h ++ [some B]) w' := by
  refine hm.step (fun _ => False) (Kept.of_below hb (Nat.le_refl _)) (fun i hi => upd_lt _ _ _ hi) (by simp) ?_ ?_ ?_ ?_
  · intro i B' hi hB'
    have hge : h.length ≤ i := Nat.le_of_not_lt hi
    have : i = h.length := by
      grind
    grind[upd_same]
  · simp_all[List.getElem?_append_left,upd_lt]
  · intro i k hi hk
    have hge : h.length ≤ i := Nat.le_of_not_lt hi
    by_cases he : i = h.length
    · subst he
      rw [upd_same] at hk
      exact ⟨.inr (hF k hk).1, (hF k hk).2, B, by simp⟩
    · rw [upd_ne _ _ _ he] at hk
      obtain ⟨B', hB'⟩ := hm.some_ i k hk
      grind
  · intro i j k hi hj hki hkj
    have key : ∀ l, h.length ≤ l → upd ft h.length F l k → l = h.length := fun l hl hlk => by
      refine Classical.byContradiction fun he => ?_
      rw [upd_ne _ _ _ he] at hlk
      obtain ⟨B', hB'⟩ := hm.some_ l k hlk
      grind
    grind
end
/-- all operations of the map that lies boxed, in the order of time: L -/
def sortedP (L : List Ls) : Prim MF := fun args hh => match args, hh with
  | [.func (.func 61) ⟨[]⟩ ⟨[.pointer (some ⟨0, 0, none⟩)]⟩, .func (.func 44) ⟨[]⟩ ⟨[]⟩], [some (.inl (_, [.map (some 1)])), some (.inr (.inr (.inr (.inr m))))] =>
    some ⟨Lists m L, .slice (some ⟨2, 0, some 6000⟩) L.length 0, none, hh ++ [some (.inr (.inl (41, rowL L)))], [], [(0, 0)]⟩
  | _, _ => none
theorem sortedP_some {L : List Ls} {args : List Value} {hh : Hp MF} {x : Out MF} (h : sortedP L args hh = some x) : ∃ t m, args = [.func (.func 61) ⟨[]⟩ ⟨[.pointer (some ⟨0, 0, none⟩)]⟩, .func (.func 44) ⟨[]⟩ ⟨[]⟩] ∧ hh = [some (.inl (t, [.map (some 1)])), some (.inr (.inr (.inr (.inr m))))] ∧
    x = ⟨Lists m L, .slice (some ⟨2, 0, some 6000⟩) L.length 0, none, hh ++ [some (.inr (.inl (41, rowL L)))], [], [(0, 0)]⟩ := by
  unfold sortedP at h
  split at h
  · injection h with h
    exact ⟨_, _, rfl, rfl, h.symm⟩
  · cases h
theorem sorted_ok (L : List Ls) : ConOk D0 Tryd.prog 49 (con1 (sortedP L)) := by
  refine con1_ok ⟨⟨Tryd.f49, by kernel_rfl, by kernel_rfl, by kernel_rfl⟩, fun args hh x _ hx C ρ ft w hm hv hi => ?_, fun args hh x hx => ?_, fun args hh x hx b hb => ?_, fun args hh x hx hw => ?_⟩
  · obtain ⟨t, m, rfl, rfl, rfl⟩ := sortedP_some hx
    obtain ⟨p1, p2, p3⟩ := (hm.at_ 0 _ rfl).1
    obtain ⟨q1, q2⟩ := (hm.at_ 1 _ rfl).1
    have hcell : w.cell? ⟨(ρ 0).blk, 0, none⟩ = some (.map (some (ρ 1).blk)) := by
      rw [cell_of_row w _ 0 _ _ _ p3]; rfl
    have hblt : (ρ 0).blk < w.heap.size := (Array.getElem?_eq_some_iff.1 p3).1
    have hcon := sorted_calls (ρ 0).blk (ρ 1).blk m L hv w hcell hblt q2
    have ea : (([.func (.func 61) ⟨[]⟩ ⟨[.pointer (some ⟨0, 0, none⟩)]⟩, .func (.func 44) ⟨[]⟩ ⟨[]⟩] : List Value).map (ren ρ)).toArray = #[.func (.func 61) #[] #[.pointer (some ⟨(ρ 0).blk, 0, none⟩)], .func (.func 44) #[] #[]] := by
      simp only [List.map, ren, renL, renA, cellOf, p1, Nat.zero_add]
    rw [ea]
    refine hcon.mono fun e w' hq => ?_
    obtain ⟨v, rfl, hrow, hnil, hb⟩ := hq
    by_cases h0 : L = []
    · have hv0 := hnil.2 h0
      subst hv0
      refine ⟨upd ρ 2 ⟨0, 0, 0, true⟩, _, fun i hi => upd_lt _ _ _ hi, ?_, HM.newRow hm hb _ ⟨0, 0, 0, true⟩ (fun _ => False) ?_ trivial (fun k hk => hk.elim)⟩
      · simp [ren, renS, upd_same, h0]
      · subst h0
        have hr := rowL_in [] #[] rfl
        refine ⟨fun k => ⟨fun h => h.elim, fun h => ?_⟩, Nat.succ_pos 5, by rw [upd_same]; exact Nat.le_refl _, by rw [upd_same]; exact Nat.zero_le _, fun _ => by rw [upd_same], #[], fun h => ?_, by rw [upd_same]; exact hr⟩
        · rw [upd_same] at h; cases h.1
        · rw [upd_same] at h; cases h
    · rcases hrow.2 with ⟨rfl, _⟩ | ⟨g, cap, cur, rfl, hg, hh, hn, hcm, hsz, htake⟩
      · exact absurd (hnil.1 rfl) h0
      · refine ⟨upd ρ 2 ⟨g, 0, cap, false⟩, _, fun i hi => upd_lt _ _ _ hi, ?_, HM.newRow hm hb _ ⟨g, 0, cap, false⟩ (fun k => k = g) ?_ trivial (fun k hk => ?_)⟩
        · simp [ren, renS, upd_same, renA, cellOf]
        · refine ⟨fun k => ⟨fun h => ⟨by rw [upd_same], by rw [upd_same]; exact h⟩, fun h => (by have := h.2; rwa [upd_same] at this)⟩, Nat.succ_pos 5, by rw [upd_same]; exact hn, by rw [upd_same]; exact hcm, fun h => (by rw [upd_same] at h; cases h), cur, fun _ => ?_, by rw [upd_same]; exact rowL_in L cur htake⟩
          rw [upd_same]
          exact ⟨hh, by show cur.size = 0 + cap * 6; rw [hsz]; omega⟩
        · subst hk
          exact ⟨hg, (Array.getElem?_eq_some_iff.1 hh).1⟩
  all_goals obtain ⟨t, m, rfl, rfl, rfl⟩ := sortedP_some hx
  · exact Nat.le_succ _
  · cases hb
  · cases hw
end Go.Proofs.YtobdpddamdkabaaDoor.Tg
