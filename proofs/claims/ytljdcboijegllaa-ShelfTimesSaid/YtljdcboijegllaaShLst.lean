/- shelf: items in order, as lists. -/
import Derived.Test.YtljdcboijegllaaShSl
import Derived.Test.YtljdcboijegllaaGvRk
namespace Go.Proofs.Ytljdcboijegllaa.Sh
open Go.Proofs.Ytljdcboijegllaa.Rx Go.Proofs.Ytljdcboijegllaa.Wv
set_option linter.unusedVariables false
set_option linter.unusedSimpArgs false
/-- slots without times -/
def k9 : Gv.Kd Sl Sz := ⟨O9, S9, good9, (fun l => inferInstanceAs (Decidable (l.length ≤ 1000))), laws9, (fun x h => h), Nat.zero_le _, (fun x y h => by
  unfold good9 at *
  rw [List.length_append] at *
  rw [List.length_tail]
  omega)⟩
def sl (x : It) : Sl := ⟨x, false, 0⟩
abbrev sls (l : List It) : List Sl := l.map sl
/-- in order -/
def Ord (l : List It) : Prop := l.Pairwise ah
theorem ord_srt {l : List It} : Gv.SrtE O9 (sls l) ↔ Ord l := by
  unfold Gv.SrtE Ord sls
  rw [List.pairwise_map]
  constructor <;> intro h <;> refine h.imp ?_
  · intro a b h; exact (icmp_lt _ _).1 h
  · intro a b h; exact (icmp_lt _ _).2 h
/-- how many are ahead of an item -/
def rkI (x : It) : List It → Nat
  | [] => 0
  | y :: l => if ah y x then rkI x l + 1 else 0
instance (a b : It) : Decidable (ah a b) := inferInstanceAs (Decidable (_ ∨ _))
theorem rk_sl (x : It) : ∀ l : List It, Gv.rkE O9 (sl x) (sls l) = rkI x l
  | [] => rfl
  | y :: l => by
    by_cases h : ah y x
    · have h' : 0 < O9.cmp (sl x) (sl y) := (icmp_pos _ _).2 h
      show Gv.rkE O9 (sl x) (sl y :: sls l) = _
      rw [Gv.rkE_gt h', rk_sl x l, rkI, if_pos h]
    · have h' : ¬ 0 < O9.cmp (sl x) (sl y) := fun c => h ((icmp_pos _ _).1 c)
      show Gv.rkE O9 (sl x) (sl y :: sls l) = _
      rw [Gv.rkE_ngt h', rkI, if_neg h]
theorem rkI_le (x : It) (l : List It) : rkI x l ≤ l.length := by
  rw [← rk_sl]; have := Gv.rkE_le (O := O9) (sl x) (sls l); simpa using this
theorem getD_sls (l : List It) (j : Nat) : (sls l).getD j slz = sl (l.getD j iz) := by
  unfold sls
  simp only [List.getD_eq_getElem?_getD, List.getElem?_map]
  cases l[j]? <;> rfl
/-- where an item stands; behind all, if nowhere -/
def ixI (x : It) : List It → Nat
  | [] => 0
  | y :: l => if y = x then 0 else ixI x l + 1
theorem ixI_le (x : It) : ∀ l : List It, ixI x l ≤ l.length
  | [] => Nat.le_refl _
  | y :: l => by
    have := ixI_le x l
    rw [ixI]; split <;> simp <;> omega
theorem ixI_lt {x : It} : ∀ {l : List It} {j : Nat}, j < ixI x l → l.getD j iz ≠ x
  | [], j, h => by simp [ixI] at h
  | y :: l, j, h => by
    rw [ixI] at h
    split at h
    · omega
    · cases j with
      | zero => simpa using by assumption
      | succ j => rw [List.getD_cons_succ]; exact ixI_lt (by omega)
theorem ixI_at {x : It} : ∀ {l : List It}, ixI x l < l.length → l.getD (ixI x l) iz = x
  | [], h => by simp at h
  | y :: l, h => by
    rw [ixI] at h ⊢
    split at h
    · rw [if_pos (by assumption)]; simpa using by assumption
    · rw [if_neg (by assumption), List.getD_cons_succ]; exact ixI_at (by simpa using h)
theorem ixI_is {x : It} {l : List It} {i : Nat} (h : ∀ j, j < i → l.getD j iz ≠ x) (hi : i < l.length) (hx : l.getD i iz = x) : ixI x l = i := by
  rcases Nat.lt_trichotomy (ixI x l) i with c | c | c
  · exact absurd (ixI_at (x := x) (l := l) (by omega)) (h _ c)
  · exact c
  · exact absurd hx (ixI_lt c)
theorem ixI_no {x : It} {l : List It} (h : ∀ j, j < l.length → l.getD j iz ≠ x) : ixI x l = l.length := by
  have := ixI_le x l
  rcases Nat.lt_or_ge (ixI x l) l.length with c | c
  · exact absurd (ixI_at c) (h _ c)
  · omega
theorem ah_irr (a : It) : ¬ ah a a := fun h => ah_asymm h h
theorem cmp_sl (x y : It) : O9.cmp (sl x) (sl y) = 0 ↔ x = y := icmp_zero x y
/-- in order: an item that is there stands where its rank says -/
theorem rk_ix {x : It} {l : List It} (ho : Ord l) (h : ixI x l < l.length) : rkI x l = ixI x l := by
  rw [← rk_sl]
  refine Gv.srt_rk laws9 (ord_srt.2 ho) (by simpa using h) ?_
  have e : (sls l).getD (ixI x l) O9.e0 = sl x := by
    show (sls l).getD (ixI x l) slz = sl x
    rw [getD_sls, ixI_at h]
  rw [e, cmp_sl]
/-- is it there -/
def inI (x : It) (l : List It) : Bool := decide (ixI x l < l.length)
theorem hit_sl (x : It) {l : List It} (ho : Ord l) : (Gv.hitE O9 (sl x) (sls l)).isSome = inI x l := by
  rw [Gv.hit_rk, rk_sl]
  unfold inI
  have e : (sls l).getD (rkI x l) O9.e0 = sl (l.getD (rkI x l) iz) := getD_sls l _
  rw [e]
  simp only [cmp_sl, List.length_map]
  by_cases h : ixI x l < l.length
  · have hr := rk_ix ho h
    rw [hr, decide_eq_true h, decide_eq_true (ixI_at h).symm]; rfl
  · rw [decide_eq_false h]
    by_cases h2 : rkI x l < l.length
    · have : ¬ x = l.getD (rkI x l) iz := fun c => h (by
        have := ixI_lt (x := x) (l := l) (j := rkI x l)
        rcases Nat.lt_or_ge (rkI x l) (ixI x l) with c2 | c2
        · exact absurd c.symm (this c2)
        · omega)
      rw [decide_eq_false this, Bool.and_false]
    · rw [decide_eq_false h2]; rfl
theorem fnd_sl {x : It} {l : List It} (ho : Ord l) : Gv.fndE O9 (sl x) (sls l) = if inI x l = true then (sl x, true) else (slz, false) := by
  cases h : inI x l with
  | true =>
    have h' : ixI x l < l.length := of_decide_eq_true h
    have e : (sls l).getD (ixI x l) O9.e0 = sl x := by
      show (sls l).getD (ixI x l) slz = sl x
      rw [getD_sls, ixI_at h']
    rw [Gv.srt_fnd laws9 (ord_srt.2 ho) (i := ixI x l) (by simpa using h') (by rw [e, cmp_sl]), e]
    rfl
  | false =>
    have := hit_sl x ho
    rw [h] at this
    unfold Gv.fndE
    cases hc : Gv.hitE O9 (sl x) (sls l) with
    | none => rfl
    | some y => rw [hc] at this; cases this
/-- one more, one less -/
def putI (x : It) (l : List It) : List It := if inI x l = true then l else l.take (rkI x l) ++ x :: l.drop (rkI x l)
def dropI (x : It) (l : List It) : List It := if inI x l = true then l.take (ixI x l) ++ l.drop (ixI x l + 1) else l
theorem put_sl {x : It} {l : List It} (ho : Ord l) : Gv.putE O9 (sl x) (sls l) = sls (putI x l) := by
  rw [Gv.put_rk, hit_sl x ho, rk_sl]
  unfold putI
  cases h : inI x l with
  | true =>
    have h' : ixI x l < l.length := of_decide_eq_true h
    have hr := rk_ix ho h'
    simp only [if_true]
    rw [hr]
    have e : l = l.take (ixI x l) ++ x :: l.drop (ixI x l + 1) := by
      have hx := ixI_at h'
      rw [List.getD_eq_getElem?_getD, List.getElem?_eq_getElem h'] at hx
      conv => lhs; rw [← List.take_append_drop (ixI x l) l, List.drop_eq_getElem_cons h']
      rw [show l[ixI x l] = x from hx]
    conv => rhs; rw [e]
    simp [sls, List.map_take, List.map_drop]
  | false => simp [sls, List.map_take, List.map_drop]
theorem drop_sl {x : It} {l : List It} (ho : Ord l) : Gv.dropE O9 (sl x) (sls l) = sls (dropI x l) := by
  have hh := hit_sl x ho
  unfold Gv.dropE dropI
  rw [Gv.lo_rk, Gv.hi_rk, rk_sl]
  cases h : inI x l with
  | true =>
    have h' : ixI x l < l.length := of_decide_eq_true h
    have hr := rk_ix ho h'
    rw [h] at hh
    cases hc : Gv.hitE O9 (sl x) (sls l) with
    | none => rw [hc] at hh; cases hh
    | some y => simp [sls, List.tail_drop, hr, List.map_take, List.map_drop]
  | false =>
    rw [h] at hh
    cases hc : Gv.hitE O9 (sl x) (sls l) with
    | none => rfl
    | some y => rw [hc] at hh; cases hh
theorem rkI_lt {x : It} {l : List It} {j : Nat} (h : j < rkI x l) : ah (l.getD j iz) x := by
  rw [← rk_sl] at h
  have := Gv.rkE_lt (O := O9) h
  rw [show (sls l).getD j O9.e0 = sl (l.getD j iz) from getD_sls l j] at this
  exact (icmp_pos _ _).1 this
theorem rkI_ge {x : It} {l : List It} (ho : Ord l) (hn : inI x l = false) {j : Nat} (h : rkI x l ≤ j) (hj : j < l.length) : ah x (l.getD j iz) := by
  have h0 : ¬ ah (l.getD (rkI x l) iz) x := fun c => by
    have := Gv.rkE_ge (O := O9) (e := sl x) (l := sls l) (by rw [rk_sl]; simp; omega)
    rw [rk_sl, show (sls l).getD (rkI x l) O9.e0 = sl (l.getD (rkI x l) iz) from getD_sls l _] at this
    exact this ((icmp_pos _ _).2 c)
  have hne : ∀ k, k < l.length → l.getD k iz ≠ x := fun k hk c => by
    have hn' : ¬ ixI x l < l.length := of_decide_eq_false hn
    exact ixI_lt (x := x) (l := l) (j := k) (by have := ixI_le x l; omega) c
  have h1 : ah x (l.getD (rkI x l) iz) := by
    rcases Classical.em (ah x (l.getD (rkI x l) iz)) with c | c
    · exact c
    · exact absurd (ah_tri c h0).symm (hne _ (by omega))
  rcases Nat.lt_or_ge (rkI x l) j with c | c
  · have g : ∀ k (hk : k < l.length), l.getD k iz = l[k] := fun k hk => by rw [List.getD_eq_getElem?_getD, List.getElem?_eq_getElem hk]; rfl
    have := (List.pairwise_iff_getElem.1 ho) (rkI x l) j (by omega) hj c
    rw [g _ hj]
    rw [g _ (by omega)] at h1
    exact ah_trans h1 this
  · rwa [show j = rkI x l by omega]
/-- the document's sorting: one more item of a list in order -/
theorem pos_rk {x : It} {l : List It} (ho : Ord l) (hn : inI x l = false) : ∀ n, rkI x l ≤ n → n ≤ l.length → posAt x l n = rkI x l
  | 0, h, _ => by rw [posAt]; omega
  | n + 1, h, hl => by
    rw [posAt]
    rcases Nat.lt_or_ge (rkI x l) (n + 1) with c | c
    · rw [if_pos (rkI_ge ho hn (by omega) (by omega))]
      exact pos_rk ho hn n (by omega) (by omega)
    · rw [if_neg (fun h2 => ah_asymm h2 (rkI_lt (by omega)))]
      omega
theorem ins_ord {x : It} {l : List It} (ho : Ord l) (hn : inI x l = false) : Wv.ins x l = putI x l := by
  unfold Wv.ins putI
  rw [pos_rk ho hn _ (rkI_le x l) (Nat.le_refl _), if_neg (by rw [hn]; decide)]
theorem srt_ord {l : List It} : Ord l → srt l = l := snoc_ind (P := fun l => Ord l → srt l = l) (fun _ => rfl) (fun l x ih h => by
  have h1 : Ord l := (List.pairwise_append.1 h).1
  have h2 : ∀ y ∈ l, ah y x := fun y hy => (List.pairwise_append.1 h).2.2 y hy x (List.mem_singleton_self x)
  have hn : inI x l = false := by
    refine decide_eq_false fun c => ?_
    have := h2 _ (getD_mem (d := iz) c)
    rw [ixI_at c] at this
    exact ah_irr _ this
  have hr : rkI x l = l.length := by
    rcases Nat.lt_or_ge (rkI x l) l.length with c | c
    · exact absurd (rkI_ge h1 hn (Nat.le_refl _) c) (ah_asymm (h2 _ (getD_mem c)))
    · have := rkI_le x l; omega
  rw [srt_snoc, ih h1, ins_ord h1 hn]
  unfold putI
  rw [if_neg (by rw [hn]; decide), hr]
  simp) l
theorem srt_put {x : It} {l : List It} (ho : Ord l) (hn : inI x l = false) : srt (l ++ [x]) = putI x l := by
  rw [srt_snoc, srt_ord ho, ins_ord ho hn]
/-- how many are behind an item -/
def abI (x : It) : List It → Nat
  | [] => 0
  | y :: l => if ah x y then abI x l + 1 else abI x l
theorem ab_all {x : It} : ∀ {l : List It}, (∀ y ∈ l, ah x y) → abI x l = l.length
  | [], _ => rfl
  | y :: l, h => by
    rw [abI, if_pos (h y (by simp)), ab_all (fun z hz => h z (by simp [hz]))]; rfl
theorem ab_rk {x : It} : ∀ {l : List It}, Ord l → abI x l + rkI x l + (if inI x l = true then 1 else 0) = l.length
  | [], _ => rfl
  | y :: l, h => by
    obtain ⟨h1, h2⟩ := List.pairwise_cons.1 h
    have ih := ab_rk h2 (x := x)
    by_cases c1 : ah y x
    · have c2 : ¬ ah x y := ah_asymm c1
      have c3 : ¬ y = x := fun e => ah_irr x (by rw [e] at c1; exact c1)
      have e : inI x (y :: l) = inI x l := by
        unfold inI; rw [ixI, if_neg c3, List.length_cons, decide_eq_decide]; omega
      rw [abI, if_neg c2, rkI, if_pos c1, e, List.length_cons]; omega
    · by_cases c3 : y = x
      · subst c3
        have e : inI y (y :: l) = true := by unfold inI; rw [ixI, if_pos rfl]; simp
        rw [abI, if_neg c1, rkI, if_neg c1, e, ab_all h1, List.length_cons]; simp
      · have c2 : ah x y := by
          rcases Classical.em (ah x y) with c | c
          · exact c
          · exact absurd (ah_tri c1 c) c3
        have e : inI x (y :: l) = false := by
          refine decide_eq_false fun c => ?_
          rw [ixI, if_neg c3] at c
          have c' : ixI x l < l.length := by simpa using c
          have := h1 _ (getD_mem (d := iz) c')
          rw [ixI_at c'] at this
          exact c1 this
        rw [abI, if_pos c2, rkI, if_neg c1, e, ab_all (fun z hz => ah_trans c2 (h1 z hz)), List.length_cons]; simp
theorem ab_snoc (x y : It) : ∀ l : List It, abI x (l ++ [y]) = abI x l + if ah x y then 1 else 0
  | [] => by simp [abI]
  | z :: l => by
    rw [List.cons_append, abI, abI, ab_snoc x y l]
    split <;> split <;> omega
theorem ab_le {x : It} : ∀ l : List It, abI x l ≤ l.length
  | [] => Nat.le_refl _
  | y :: l => by
    have := ab_le (x := x) l
    rw [abI, List.length_cons]; split <;> omega
theorem put_ord {x : It} {l : List It} (ho : Ord l) : Ord (putI x l) := by
  rw [← ord_srt, ← put_sl ho]; exact Gv.put_srt laws9 (ord_srt.2 ho)
theorem drop_ord {x : It} {l : List It} (ho : Ord l) : Ord (dropI x l) := by
  rw [← ord_srt, ← drop_sl ho]; exact Gv.drop_srt (ord_srt.2 ho)
theorem putI_len (x : It) (l : List It) : (putI x l).length ≤ l.length + 1 := by
  unfold putI; split
  · omega
  · simp; have := rkI_le x l; omega
theorem dropI_len (x : It) (l : List It) : (dropI x l).length ≤ l.length := by
  unfold dropI; split
  · simp; omega
  · exact Nat.le_refl _
end Go.Proofs.Ytljdcboijegllaa.Sh
