/- tag: all operations of a map, in the order of time. -/
import Derived.Test.YtobdpddamdkabaaDoorTgCmp
import Derived.Test.YtobdpddamdkabaaDoorTgShelf
import Derived.Shelf.SlSortCmp.NoneTotal
namespace Go.Proofs.YtobdpddamdkabaaDoor.Tg
open Go.RowKit Go.Maps Go.Sort Go.Shelf
set_option linter.unusedVariables false
set_option linter.unusedSimpArgs false
/-- operations of one list -/
abbrev Of (xs : List Ls) := { x : Ls // x ∈ xs }
def cmpT {xs : List Ls} (x y : Of xs) : Int := Lib.compareInt x.1.tm y.1.tm
def encT {xs : List Ls} (x : Of xs) : List Value := lsL x.1
section
variable {xs : List Ls}
theorem ltT (x y : Of xs) : ltOf cmpT x y = decide (x.1.tm < y.1.tm) := by
  unfold ltOf cmpT Lib.compareInt
  by_cases h1 : x.1.tm < y.1.tm
  · simp [h1]
  · by_cases h2 : y.1.tm < x.1.tm <;> simp [h1, h2]
theorem swoT : SWO (ltOf (cmpT (xs := xs))) where
  irrefl x := by rw [ltT]; simp
  trans x y z h1 h2 := by rw [ltT] at *; simp only [decide_eq_true_eq] at *; omega
  ntrans x y z h1 h2 := by rw [ltT] at *; simp only [decide_eq_false_iff_not] at *; omega
theorem totT (hd : ∀ a ∈ xs, ∀ b ∈ xs, a.tm = b.tm → a = b) (x y : Of xs) (h1 : ltOf cmpT x y = false) (h2 : ltOf cmpT y x = false) : x = y := by
  rw [ltT] at *
  simp only [decide_eq_false_iff_not] at *
  exact Subtype.ext (hd _ x.2 _ y.2 (by omega))
theorem encT_len (x : Of xs) : (encT x).length = 6 := rfl
theorem encT_one (x : Of xs) : ∀ v ∈ encT x, v.oneCell' = true := by
  intro v hv
  simp only [encT, lsL, List.mem_cons, List.not_mem_nil, or_false] at hv
  rcases hv with rfl | rfl | rfl | rfl | rfl | rfl <;> rfl
theorem cmpLaysT [Inhabited (Of xs)] (blk off size : Nat) (w : World) : CmpLays Tryd.prog 44 #[] (encT (xs := xs)) 6 cmpT blk off size w := fun m os dk _ x y => by
  exact byTime_any x.1 y.1 (sortWorldK encT 6 w blk off m dk os)
/-- sorted ones of a list: this list -/
theorem merge_is {L : List Ls} (hp : xs.Perm L) (hs : L.Pairwise (fun a b => a.tm < b.tm)) :
    ((xs.attach.toArray.toList.mergeSort fun x y => !(ltOf cmpT) y x).map (·.1)) = L := by
  have e0 : xs.attach.toArray.toList = xs.attach := by simp
  rw [e0]
  have tr : ∀ a b c : Of xs, (!(ltOf cmpT) b a) = true → (!(ltOf cmpT) c b) = true → (!(ltOf cmpT) c a) = true := fun a b c h1 h2 => by
    simp only [ltT, Bool.not_eq_true', decide_eq_false_iff_not] at *; omega
  have to : ∀ a b : Of xs, ((!(ltOf cmpT) b a) || (!(ltOf cmpT) a b)) = true := fun a b => by
    simp only [ltT, Bool.or_eq_true, Bool.not_eq_true', decide_eq_false_iff_not]; omega
  have h1 := List.pairwise_mergeSort tr to xs.attach
  have h2 : ((xs.attach.mergeSort fun x y => !(ltOf cmpT) y x).map (·.1)).Perm L := by
    refine ((List.mergeSort_perm xs.attach _).map _).trans ?_
    rw [List.attach_map_subtype_val]; exact hp
  have h3 : ((xs.attach.mergeSort fun x y => !(ltOf cmpT) y x).map (·.1)).Pairwise (fun a b => a.tm ≤ b.tm) := by
    refine List.pairwise_map.2 (h1.imp fun {a b} h => ?_)
    simp only [ltT, Bool.not_eq_true', decide_eq_false_iff_not] at h; omega
  refine List.Perm.eq_of_pairwise (le := fun a b => a.tm ≤ b.tm) (fun a b ha hb q1 q2 => ?_) h3 (hs.imp fun h => by omega) h2
  have hb' : b ∈ L := by first | exact hb | exact h2.mem_iff.1 hb
  have ha' : a ∈ L := h2.mem_iff.1 ha
  obtain ⟨i, hi, rfl⟩ := List.getElem_of_mem ha'
  obtain ⟨j, hj, rfl⟩ := List.getElem_of_mem hb'
  rcases Nat.lt_trichotomy i j with h | h | h
  · have := List.pairwise_iff_getElem.1 hs i j hi hj h; omega
  · subst h; rfl
  · have := List.pairwise_iff_getElem.1 hs j i hj hi h; omega
theorem flatO_get (l : List Ls) : ∀ (i c : Nat) (x : Ls), l[i]? = some x → c < 6 → (flatO l)[i * 6 + c]? = (lsL x)[c]? := by
  induction l with
  | nil => intro i c x h; simp at h
  | cons y l ih =>
    intro i c x h hc
    have e : flatO (y :: l) = lsL y ++ flatO l := by simp [flatO]
    rw [e]
    have hl : (lsL y).length = 6 := rfl
    cases i with
    | zero =>
      injection h with h
      subst h
      rw [Nat.zero_mul, Nat.zero_add, List.getElem?_append_left (by omega)]
    | succ i =>
      rw [List.getElem?_append_right (by omega), hl, show (i + 1) * 6 + c - 6 = i * 6 + c by omega]
      exact ih i c x h hc
theorem flatK_is [Inhabited (Of xs)] (d : Array (Of xs)) (j : Nat) (hj : j < d.size * 6) : (flatO (d.toList.map (·.1)))[j]? = some (flatK encT 6 d)[j]! := by
  have hi : j / 6 < d.size := by omega
  have hx : (d.toList.map (·.1))[j / 6]? = some d[j / 6]!.1 := by
    rw [List.getElem?_map, Array.getElem?_toList, Array.getElem?_eq_getElem hi, getElem!_pos d (j / 6) hi]; rfl
  have := flatO_get _ (j / 6) (j % 6) _ hx (by omega)
  rw [show j / 6 * 6 + j % 6 = j by omega] at this
  rw [this, get_flatK encT 6 d j hj]
  have hl : j % 6 < (encT d[j / 6]!).length := by rw [encT_len]; omega
  show (encT d[j / 6]!)[j % 6]? = _
  rw [List.getElem?_eq_getElem hl, List.getElem!_eq_getElem?_getD, List.getElem?_eq_getElem hl]; rfl
end
set_option maxRecDepth 100000 in
set_option maxHeartbeats 4000000 in
/-- slices.SortFunc by time, of a row that the call owns -/
theorem sortf_any (g cap base : Nat) (xs L : List Ls) (hp : xs.Perm L) (hs : L.Pairwise (fun a b => a.tm < b.tm)) (w : World) (h : w.ownsRow base 41 6 (.slice (some ⟨g, 0, none⟩) xs.length cap) xs.length (flatO xs)) (hl : 0 < xs.length) (hn : xs.length ≤ 1000000) :
    Calls Tryd.prog 60 #[.slice (some ⟨g, 0, none⟩) xs.length cap, .func (.func 44) #[] #[]] w fun e w' =>
      e = .returned (.tuple #[]) ∧ w'.ownsRow base 41 6 (.slice (some ⟨g, 0, none⟩) L.length cap) L.length (flatO L) ∧ Below base w w' := by
  obtain ⟨hn0, hform⟩ := h
  rcases hform with ⟨e, h0⟩ | ⟨g', cap', cur, e, hb, hh, hnc, hcm, hsz, htake⟩
  · cases e
  injection e with e e1 e2
  injection e with e
  injection e with e
  subst e e2
  have hx0 : xs[0]? = some xs[0] := List.getElem?_eq_getElem hl
  haveI : Inhabited (Of xs) := ⟨⟨xs[0], List.getElem_mem hl⟩⟩
  have hd : ∀ a ∈ xs, ∀ b ∈ xs, a.tm = b.tm → a = b := fun a ha b hb he => by
    obtain ⟨i, hi, rfl⟩ := List.getElem_of_mem (hp.mem_iff.1 ha)
    obtain ⟨j, hj, rfl⟩ := List.getElem_of_mem (hp.mem_iff.1 hb)
    rcases Nat.lt_trichotomy i j with h | h | h
    · have := List.pairwise_iff_getElem.1 hs i j hi hj h; omega
    · subst h; rfl
    · have := List.pairwise_iff_getElem.1 hs j i hj hi h; omega
  have hlt : g < w.heap.size := (Array.getElem?_eq_some_iff.1 hh).1
  have hds : xs.attach.toArray.size = xs.length := by simp
  have hdl : xs.attach.toArray.toList.map (·.1) = xs := by simp
  have hH : HoldsK encT 6 w g 0 xs.attach.toArray := by
    intro j hj
    rw [size_flatK, hds] at hj
    have hf := flatK_is xs.attach.toArray j (by rw [hds]; exact hj)
    rw [hdl] at hf
    constructor
    · rw [Nat.zero_add, cell_of_row w g j cur 41 (0, 0) hh, ← Array.getElem?_toList]
      have : cur.toList[j]? = (cur.toList.take (xs.length * 6))[j]? := by rw [List.getElem?_take, if_pos hj]
      rw [this, htake, hf]; rfl
    · unfold World.frozen?
      simp only [hh]
      rfl
  have eg : ∀ args w, (callFunc 44 args).run Tryd.prog w = .ok (.enter 44 args) w := enters_of Tryd.func44 (by kernel_rfl) rfl
  have hcon := AnyQ.slices_SortFunc_total Tryd.sortIt 6 Tryd.isAgg41 Tryd.sizeOf41 encT encT_len encT_one cmpT swoT 44 #[] g 0 cap xs.attach.toArray w eg (cmpLaysT g 0 xs.attach.toArray.size w) hH hlt (by rw [hds]; omega) (totT hd)
  rw [hds] at hcon
  have hm := merge_is hp hs
  generalize hS : (xs.attach.toArray.toList.mergeSort fun x y => !(ltOf cmpT) y x) = S at hcon hm
  have hSl : S.length = xs.length := by rw [← hS, List.length_mergeSort]; simp
  have hLl : L.length = xs.length := hp.length_eq.symm
  refine Calls.mono hcon fun e w' ⟨he, n, os, hw⟩ => ?_
  subst hw
  have hheap : (sortWorldK encT 6 w g 0 n S.toArray os).heap[g]? = some (.cells (putCells id 0 (flatK encT 6 S.toArray) cur) 41 (0, 0)) := by
    unfold sortWorldK
    rw [heap_grow_old _ _ (by rw [size_putRowK]; simp; omega)]
    simp only [putRowK, putRow, mapBlock, Array.getElem?_modify]
    rw [if_pos trivial]
    show (w.heap[g]?).map _ = _
    rw [hh]; rfl
  refine ⟨he, ⟨?_, .inr ⟨g, cap, _, by rw [hLl], hb, hheap, by omega, hcm, by simp [putCells, hsz], ?_⟩⟩, ?_⟩
  · exact flatO_len L
  · have hF := size_flatK encT 6 S.toArray
    have hSs : S.toArray.size = L.length := by simp; omega
    apply List.ext_getElem?
    intro j
    rw [List.getElem?_take]
    by_cases hj : j < L.length * 6
    · rw [if_pos hj]
      have hf := flatK_is S.toArray j (by rw [hSs]; exact hj)
      have e1 : S.toArray.toList.map (·.1) = L := by simpa using hm
      rw [e1] at hf
      rw [hf, Array.getElem?_toList]
      unfold putCells
      have hjc : j < cur.size := by rw [hsz, hLl] at *; have := Nat.mul_le_mul_right 6 hnc; omega
      rw [Array.getElem?_mapIdx, Array.getElem?_eq_getElem hjc]
      simp only [Option.map_some]
      rw [if_pos ⟨Nat.zero_le _, by rw [hF, hSs]; omega⟩]
      rfl
    · rw [if_neg hj, List.getElem?_eq_none (by rw [flatO_len]; omega)]
  · refine ⟨rfl, rfl, rfl, size_sortWorldK_c encT 6 w g 0 n _ os, fun k hk => ?_⟩
    unfold sortWorldK
    rw [heap_grow_old _ _ (by rw [size_putRowK]; simp; omega)]
    simp only [putRowK, putRow, mapBlock, Array.getElem?_modify]
    rw [if_neg (by omega)]
    rfl
end Go.Proofs.YtobdpddamdkabaaDoor.Tg
