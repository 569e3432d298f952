/- tag: slices.SortedFunc of the values of the map. -/
import Derived.Test.YtobdpddamdkabaaDoorTgSort
import Derived.Lib.Hide
namespace Go.Proofs.YtobdpddamdkabaaDoor.Tg
open Go.RowKit Go.Maps Go.Sort Go.Shelf
set_option linter.unusedVariables false
set_option linter.unusedSimpArgs false
/-- a list is just what a map holds, in the order of time -/
structure Lists (m : Mp Ls) (L : List Ls) : Prop where
  mem : ∀ x, x ∈ L ↔ m.f x.ix = some x
  srt : L.Pairwise (fun a b => a.tm < b.tm)
  ix : ∀ k x, m.f k = some x → x.ix = k
  n : m.n ≤ 1000000
  len : L.length ≤ 1000000
theorem pw_nodup {L : List Ls} (h : L.Pairwise (fun a b => a.tm < b.tm)) : L.Nodup := h.imp fun {a b} hab e => by subst e; omega
theorem Lists.perm {m : Mp Ls} {L ss : List Ls} (h : Lists m L) (hc : Came m (fun _ => false) ss) : ss.Perm L :=
  (List.perm_ext_iff_of_nodup hc.nd (pw_nodup h.srt)).2 fun x => by rw [hc.mem x, h.mem x]; simp
theorem row_form {w : World} {base n : Nat} {v : Value} {xs : List Value} (h : w.ownsRow base 41 6 v n xs) (hn : 0 < n) : ∃ g cap, v = .slice (some ⟨g, 0, none⟩) n cap := by
  rcases h.2 with ⟨_, e0⟩ | ⟨g, cap, cur, rfl, _⟩
  · omega
  · exact ⟨g, cap, rfl⟩
theorem nil_of {n : Nat} {L ss : List Ls} (h : ss.length = L.length) (h0 : ¬ 0 < ss.length) : ss = [] ∧ L = [] :=
  ⟨List.eq_nil_of_length_eq_zero (by omega), List.eq_nil_of_length_eq_zero (by omega)⟩
theorem nil_not {g cap : Nat} {L ss : List Ls} (h : ss.length = L.length) (h0 : 0 < ss.length) : ((Value.slice (some ⟨g, 0, none⟩) ss.length cap) = .slice none 0 0 ↔ L = []) :=
  ⟨fun h => (by cases h), fun e => (by rw [e] at h; have h' : ss.length = 0 := h; omega)⟩
set_option maxHeartbeats 2000000 in
theorem sorted_calls (Bm b : Nat) (m : Mp Ls) (L : List Ls) (hL : Lists m L) (w : World) (hm : w.cell? ⟨Bm, 0, none⟩ = some (.map (some b))) (hB : Bm < w.heap.size) (hown : mapH encL w b m) :
    Calls Tryd.prog 49 #[.func (.func 61) #[] #[.pointer (some ⟨Bm, 0, none⟩)], .func (.func 44) #[] #[]] w fun e w' =>
      ∃ v, e = .returned v ∧ w'.ownsRow w.heap.size 41 6 v L.length (flatO L) ∧ (v = .slice none 0 0 ↔ L = []) ∧ Below w.heap.size w w' := by
  have eg : ∀ args w, (callFunc 61 args).run Tryd.prog w = .ok (.enter 61 args) w := enters_of Tryd.func61 (by kernel_rfl) rfl
  have hseq : SeqGives Fence.wide (3 - 1 - 1) Tryd.prog 61 #[.pointer (some ⟨Bm, 0, none⟩)] encL (Came m (fun _ => false)) m.n w := fun l J W hW hJ hY h0 => by
    have hown' : mapH encL W b m := hown.keep (hW.block b hown.lt)
    exact values_in Fence.wide 1 trivial rfl (Nat.le_refl _) l Bm b m J hY W hJ ((hW.cell (p := ⟨Bm, 0, none⟩) hB).trans hm) hown' hL.ix h0
  have hcol := callsIn_wide.1 (collect_in Fence.wide 3 trivial trivial rfl (Nat.le_refl _) 61 #[.pointer (some ⟨Bm, 0, none⟩)] trivial eg _ m.n hL.n w hseq)
  go_enter Tryd.func49, Tryd.ntmps49
  go_wp2_with fail
  refine hcol.mono ?_
  rintro e w1 ⟨v, ss, rfl, hS, hrow, hnil, hb⟩
  have hp := hL.perm hS
  have hlen := hp.length_eq
  by_cases h0 : 0 < ss.length
  · obtain ⟨g, cap, rfl⟩ := row_form hrow h0
    have hn : ss.length ≤ 1000000 := hlen ▸ hL.len
    have hnn := nil_not (g := g) (cap := cap) hlen h0
    have HL := Lib.hid hlen
    clear hlen
    go_wp2_with fail
    refine (sortf_any g cap w.heap.size ss L hp hL.srt w1 hrow h0 hn).mono ?_
    intro e w2 hq
    have hrow2 := hq.2.1
    have hb2 := hq.2.2
    have he := hq.1
    clear hq
    subst he
    go_wp2_with fail
    go_ret
    exact ⟨_, rfl, (by rw [← HL.out] at hrow2 ⊢; exact hrow2), hnn, hb.trans hb2⟩
  · obtain ⟨hz, hz2⟩ := nil_of (n := 0) hlen h0
    have hv := hnil.2 hz
    subst hv hz hz2
    go_wp2_with fail
    refine (AnyF.slices_SortFunc_none Tryd.sortIt none 0 (.func (.func 44) #[] #[]) w1).mono ?_
    rintro e w2 ⟨rfl, rfl⟩
    go_wp2_with fail
    go_ret
    exact ⟨_, rfl, hrow, by simp, hb⟩
end Go.Proofs.YtobdpddamdkabaaDoor.Tg
