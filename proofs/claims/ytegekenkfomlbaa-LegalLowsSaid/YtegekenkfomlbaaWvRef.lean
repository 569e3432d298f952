/- wave: what the document's lists of marks come to. -/
import Derived.Test.YtegekenkfomlbaaWvSrt
import Derived.Test.YtegekenkfomlbaaWvFn
namespace Go.Proofs.Ytegekenkfomlbaa.Wv
open Go.Proofs.Ytegekenkfomlbaa.Rx
set_option linter.unusedVariables false
set_option linter.unusedSimpArgs false
set_option maxRecDepth 100000
set_option maxHeartbeats 4000000
/-- marks as a row -/
abbrev mR (l : List Mk) : Row := ⟨[.int .i64 0, .bool false, .int .i64 0, .int .i64 0, .bool false, .bool false, .int .i64 0, .int .i64 0], l.length, [⟨l.map Mk.t, [], []⟩, ⟨[], l.map Mk.ins, []⟩, ⟨l.map fun m => m.it.k, [], []⟩, ⟨l.map fun m => m.it.i, [], []⟩, ⟨[], l.map Mk.here, []⟩, ⟨[], l.map Mk.tf, []⟩, ⟨l.map fun m => m.tk.k, [], []⟩, ⟨l.map fun m => m.tk.i, [], []⟩]⟩
def uM (r : Row) : List Mk := match r.cols with
  | [a, b, c, d, e, f, g, h] => (List.range r.n).map fun i => ⟨a.i.getD i 0, b.b.getD i false, ⟨c.i.getD i 0, d.i.getD i 0⟩, e.b.getD i false, f.b.getD i false, ⟨g.i.getD i 0, h.i.getD i 0⟩⟩
  | _ => []
theorem uM_mR (l : List Mk) : uM (mR l) = l := by
  unfold uM
  refine range_get fun i hi => ?_
  simp only [map_getD _ _ hi]
theorem gM {β : Type} {l : List Mk} {i : Nat} (f : Mk → β) (d : β) (h : f mz = d) : (l.map f).getD i d = f (l.getD i mz) := by
  subst h
  rw [List.getD_eq_getElem?_getD, List.getD_eq_getElem?_getD, List.getElem?_map]
  cases l[i]? <;> rfl
theorem gI {β : Type} {l : List It} {i : Nat} (f : It → β) (d : β) (h : f iz = d) : (l.map f).getD i d = f (l.getD i iz) := by
  subst h
  rw [List.getD_eq_getElem?_getD, List.getD_eq_getElem?_getD, List.getElem?_map]
  cases l[i]? <;> rfl
abbrev vM {R : Type} (l : List Mk) : Option (SB R) := some (.inr (.inr (.inl (mR l))))
abbrev oN {R : Type} (n : Nat) (x : List Int) : Option (SB R) := some (.inr (.inl (3, ⟨[.int .i64 0], n, [⟨x, [], []⟩]⟩)))
theorem hmap {β : Type} {l : List Mk} {i : Nat} (f : Mk → β) (d : β) (h : i < l.length) : (l.map f).take (i + 1) = (l.map f).take i ++ [f (l.getD i mz)] := by
  rw [take_succ_getD d (by simpa using h), map_getD f d h, List.getD_eq_getElem?_getD, List.getElem?_eq_getElem h]; rfl
theorem c_one {α : Type} (v : α) : cut [v] 0 1 = [v] := rfl
theorem e_i (i : Nat) : 0 + (i : Int).toNat = i := by omega
def cntsP {R : Type} : Prim R := fun args hh => match args, hh with
  | [.slice (some ⟨0, 0, some 8000⟩) n c], [some (.inr (.inr (.inl r)))] => some ⟨r = mR (uM r) ∧ n = (uM r).length ∧ (uM r).length ≤ 60, .slice (some ⟨1, 0, some 1000⟩) (uM r).length 0, none, [some (.inr (.inr (.inl r))), oN (uM r).length ((uM r).map cnt)], [], [(0, 0)]⟩
  | _, _ => none
theorem cnts_ok {R : Type} {D : Res R} : ConOk D Try.prog 26 (con1 cntsP) := by
  refine con1_ok (prim_at (fn := Try.f26) (root := codeOf Try.f26) (by kernel_rfl) (by kernel_rfl) (by kernel_rfl) fun args hh x hx => ?_)
  unfold cntsP at hx
  split at hx
  · rename_i n c r
    injection hx with hx
    subst hx
    refine ⟨by first | exact Nat.le_refl _ | exact Nat.zero_le _ | exact Nat.le_succ _ | exact Nat.le_add_left 1 3 | exact Nat.le_add_left 2 2 | exact Nat.le_add_left 1 2, noLit rfl, (fun hw => by first | rfl | cases hw), fun _ hv => ?_⟩
    obtain ⟨hr, rfl, hb⟩ := hv; generalize uM r = l at *; subst hr
    generalize hG : Rx.Ends (R := R) _ _ = G
    refine rx_ok (T := []) trivial mixed 200 ?_
    refine as_text (q := let zz1 := Value.int IntKind.i64; At D Try.prog (codeOf Try.f26) 1 (retK Try.prog (Array.toList (Func.results Try.f26)) G) [Sum.inl [1, 1, 0, 1, 0], Sum.inr (Sum.inl 0), Sum.inl [1, 1, 1]] (SS.mk [some (Value.slice (some (Addr.mk 0 0 (some 8000))) (List.length l) c), none, some (Value.slice (some (Addr.mk 1 0 (some 1000))) 0 0), some (Value.slice (some (Addr.mk 2 0 (some 1000))) 0 0), some (zz1 0), none, none, none, none, none, none, none, none, none, none, none, none, none, none, none, none, none, none] [] [some (Sum.inr (Sum.inr (Sum.inl (Row.mk [zz1 0, Value.bool false, zz1 0, zz1 0, Value.bool false, Value.bool false, zz1 0, zz1 0] (List.length l) [Col.mk (List.map Mk.t l) [] [], Col.mk [] (List.map Mk.ins l) [], Col.mk (List.map (fun m => It.k (Mk.it m)) l) [] [], Col.mk (List.map (fun m => It.i (Mk.it m)) l) [] [], Col.mk [] (List.map Mk.here l) [], Col.mk [] (List.map Mk.tf l) [], Col.mk (List.map (fun m => It.k (Mk.tk m)) l) [] [], Col.mk (List.map (fun m => It.i (Mk.tk m)) l) [] []])))), some (Sum.inr (Sum.inl (3, Row.mk [zz1 0] 0 [Col.mk [] [] []]))), some (Sum.inr (Sum.inl (3, Row.mk [zz1 0] 0 [Col.mk [] [] []])))])) ?_ (by kernel_rfl)
    intro zz1; subst zz1
    refine loop_atM (by kernel_rfl) (ι := Nat) (fun i => i ≤ l.length) [0, 3, 4] (fun i => [.slice (some ⟨0, 0, some 8000⟩) l.length c, .slice (some ⟨1, 0, some 1000⟩) i 0, .int .i64 i]) (fun i => [vM l, oN i ((l.map cnt).take i)]) (fun i => l.length - i) 23 (fun i hi => ⟨rfl, rfl, by simp⟩) ⟨0, Nat.zero_le _, ⟨[0, 2], rfl, ⟨rfl, ⟨_, rfl, .inl rfl⟩, trivial⟩, rfl, rfl, rfl, rfl⟩⟩ fun i hi => ?_
    refine rx_ok (T := []) trivial mixed 200 ?_
    refine as_text (q := let zz2 := Value.int IntKind.i64; let zz1 := (Value.slice (some (Addr.mk 0 0 (some 8000))) (List.length l) c); (decide ((↑i : Int) < (↑(List.length l) : Int)) = true → Vc ((0 : Int) ≤ (↑i : Int) ∧ (↑i : Int) < (↑(List.length l) : Int) ∧ 0 + List.length l ≤ List.length l) ∧ Vc (0 + Int.toNat (↑i : Int) < List.length l) ∧ (List.getD (List.map Mk.ins l) (0 + Int.toNat (↑i : Int)) false = true → Vc (0 + i ≤ i ∧ 1 ≤ 1 ∧ (i + 1) * 8 ≤ 140737488355328 ∧ i + 1 ≤ 140737488355328) ∧ Vc (fits ((↑i : Int) + (1 : Int))) ∧ Post (∃ j, j ≤ List.length l ∧ List.length l - j < List.length l - i ∧ FitsM R 1 23 [0, 3, 4] [Value.slice (some (Addr.mk 0 0 (some 8000))) (List.length l) c, Value.slice (some (Addr.mk 1 0 (some 1000))) j 0, zz2 (↑j : Int)] [vM l, oN j (List.take j (List.map cnt l))] [some zz1, some (Value.slice (some (Addr.mk 3 0 (some 1000))) (i + 1) 0), some (zz2 ((↑i : Int) + (1 : Int)))] [some (Sum.inr (Sum.inr (Sum.inl (Row.mk [zz2 0, Value.bool false, zz2 0, zz2 0, Value.bool false, Value.bool false, zz2 0, zz2 0] (List.length l) [Col.mk (List.map Mk.t l) [] [], Col.mk [] (List.map Mk.ins l) [], Col.mk (List.map (fun m => It.k (Mk.it m)) l) [] [], Col.mk (List.map (fun m => It.i (Mk.it m)) l) [] [], Col.mk [] (List.map Mk.here l) [], Col.mk [] (List.map Mk.tf l) [], Col.mk (List.map (fun m => It.k (Mk.tk m)) l) [] [], Col.mk (List.map (fun m => It.i (Mk.tk m)) l) [] []])))), none, some (Sum.inr (Sum.inl (3, Row.mk [zz2 0] 1 [Col.mk [(1 : Int)] [] []]))), some (Sum.inr (Sum.inl (3, Row.mk [zz2 0] (i + 1) [Col.mk (cut (List.take i (List.map cnt l)) 0 i ++ [(1 : Int)]) [] []])))] 23)) ∧ (List.getD (List.map Mk.ins l) (0 + Int.toNat (↑i : Int)) false = false → Vc (0 + i ≤ i ∧ 1 ≤ 1 ∧ (i + 1) * 8 ≤ 140737488355328 ∧ i + 1 ≤ 140737488355328) ∧ Vc (fits ((↑i : Int) + (1 : Int))) ∧ Post (∃ j, j ≤ List.length l ∧ List.length l - j < List.length l - i ∧ FitsM R 1 23 [0, 3, 4] [Value.slice (some (Addr.mk 0 0 (some 8000))) (List.length l) c, Value.slice (some (Addr.mk 1 0 (some 1000))) j 0, zz2 (↑j : Int)] [vM l, oN j (List.take j (List.map cnt l))] [some zz1, some (Value.slice (some (Addr.mk 3 0 (some 1000))) (i + 1) 0), some (zz2 ((↑i : Int) + (1 : Int)))] [some (Sum.inr (Sum.inr (Sum.inl (Row.mk [zz2 0, Value.bool false, zz2 0, zz2 0, Value.bool false, Value.bool false, zz2 0, zz2 0] (List.length l) [Col.mk (List.map Mk.t l) [] [], Col.mk [] (List.map Mk.ins l) [], Col.mk (List.map (fun m => It.k (Mk.it m)) l) [] [], Col.mk (List.map (fun m => It.i (Mk.it m)) l) [] [], Col.mk [] (List.map Mk.here l) [], Col.mk [] (List.map Mk.tf l) [], Col.mk (List.map (fun m => It.k (Mk.tk m)) l) [] [], Col.mk (List.map (fun m => It.i (Mk.tk m)) l) [] []])))), none, some (Sum.inr (Sum.inl (3, Row.mk [zz2 0] 1 [Col.mk [(-1 : Int)] [] []]))), some (Sum.inr (Sum.inl (3, Row.mk [zz2 0] (i + 1) [Col.mk (cut (List.take i (List.map cnt l)) 0 i ++ [(-1 : Int)]) [] []])))] 23))) ∧ (decide ((↑i : Int) < (↑(List.length l) : Int)) = false → Post (G (Value.slice (some (Addr.mk 1 0 (some 1000))) i 0) [some (Sum.inr (Sum.inr (Sum.inl (Row.mk [zz2 0, Value.bool false, zz2 0, zz2 0, Value.bool false, Value.bool false, zz2 0, zz2 0] (List.length l) [Col.mk (List.map Mk.t l) [] [], Col.mk [] (List.map Mk.ins l) [], Col.mk (List.map (fun m => It.k (Mk.it m)) l) [] [], Col.mk (List.map (fun m => It.i (Mk.it m)) l) [] [], Col.mk [] (List.map Mk.here l) [], Col.mk [] (List.map Mk.tf l) [], Col.mk (List.map (fun m => It.k (Mk.tk m)) l) [] [], Col.mk (List.map (fun m => It.i (Mk.tk m)) l) [] []])))), some (Sum.inr (Sum.inl (3, Row.mk [zz2 0] i [Col.mk (List.take i (List.map cnt l)) [] []])))]))) ?_ (by kernel_rfl)
    intro zz2 zz1; subst zz1 zz2
    have c1 : cut ((l.map cnt).take i) 0 i = (l.map cnt).take i := cut_eq (by simp; omega)
    simp only [e_i, c1, c_one, gM Mk.ins false rfl]
    have go : ∀ (v : Int) (B : Option (SB R)), i < l.length → v = cnt (l.getD i mz) → ∃ j, j ≤ l.length ∧ l.length - j < l.length - i ∧ FitsM R 1 23 [0, 3, 4] [.slice (some ⟨0, 0, some 8000⟩) l.length c, .slice (some ⟨1, 0, some 1000⟩) j 0, .int .i64 j] [vM l, oN j ((l.map cnt).take j)] [some (.slice (some ⟨0, 0, some 8000⟩) l.length c), some (.slice (some ⟨3, 0, some 1000⟩) (i + 1) 0), some (.int .i64 ((i : Int) + 1))] [vM l, B, oN 1 [v], oN (i + 1) ((l.map cnt).take i ++ [v])] 23 := by
      intro v B hi hv
      rw [hv, ← hmap cnt 0 hi]
      exact ⟨i + 1, hi, by omega, ⟨[0, 3], rfl, ⟨rfl, ⟨_, rfl, .inl rfl⟩, trivial⟩, rfl, rfl, rfl, rfl⟩⟩
    repeat' (first | apply And.intro | apply Vc.mk | apply fits.mk | intro h | apply Post.mk)
    all_goals (try simp only [decide_eq_true_eq, decide_eq_false_iff_not, Nat.zero_add, ge_iff_le, Int.not_le, Int.not_lt, Int.toNat_natCast, beq_iff_eq, beq_eq_false_iff_ne, bne_iff_ne, bne_eq_false_iff_eq, Bool.not_eq_true', Bool.not_eq_false'] at *)
    all_goals first | contradiction | omega | (apply congrArg Value.bool; assumption) | exact congrArg Value.bool (decide_eq_true (by assumption)) | exact congrArg Value.bool (decide_eq_false (Int.not_lt.mpr (by assumption))) | exact ⟨rfl, by omega⟩ | exact rfl | (simp [*, -List.getD_eq_getElem?_getD]; done) | skip
    · exact go _ _ (by omega) (by rw [cnt, if_pos (by assumption)])
    · exact go _ _ (by omega) (by rw [cnt, if_neg (by simp only [*]; decide)])
    · obtain rfl : i = l.length := by omega
      subst hG
      rw [show (l.map cnt).take l.length = l.map cnt from List.take_of_length_le (by simp)]
      exact ⟨[0, 1], rfl, rfl, ⟨rfl, ⟨_, rfl, .inl rfl⟩, trivial⟩, rfl, rfl, rfl, rfl⟩
  · cases hx
theorem mR_cut (l : List Mk) : (⟨[.int .i64 0, .bool false, .int .i64 0, .int .i64 0, .bool false, .bool false, .int .i64 0, .int .i64 0], l.length, [⟨cut (l.map Mk.t) 0 l.length, [], []⟩, ⟨[], cut (l.map Mk.ins) 0 l.length, []⟩, ⟨cut (l.map fun m => m.it.k) 0 l.length, [], []⟩, ⟨cut (l.map fun m => m.it.i) 0 l.length, [], []⟩, ⟨[], cut (l.map Mk.here) 0 l.length, []⟩, ⟨[], cut (l.map Mk.tf) 0 l.length, []⟩, ⟨cut (l.map fun m => m.tk.k) 0 l.length, [], []⟩, ⟨cut (l.map fun m => m.tk.i) 0 l.length, [], []⟩]⟩ : Row) = mR l := by simp only [cm]
theorem iR_cut (l : List It) : (⟨[.int .i64 0, .int .i64 0], l.length, [⟨cut (l.map It.k) 0 l.length, [], []⟩, ⟨cut (l.map It.i) 0 l.length, [], []⟩]⟩ : Row) = iR l := by simp only [cm]
theorem mR_ok (l : List Mk) (h : l.length ≤ 60) : mR l = mR (uM (mR l)) ∧ l.length = (uM (mR l)).length ∧ (uM (mR l)).length ≤ 60 := by rw [uM_mR]; exact ⟨rfl, rfl, h⟩
theorem iR_ok (l : List It) (h : l.length ≤ 100000) : iR l = iR (unI (iR l)) ∧ l.length = (unI (iR l)).length ∧ (unI (iR l)).length ≤ 100000 := by rw [unI_iR]; exact ⟨rfl, rfl, h⟩
def TWe {R : Type} : Tab R := [(26, liftV z0 2 (con1 cntsP))]
theorem TWe_ok {R : Type} {D : Res R} : TabOk D Try.prog (TWe : Tab R) := ⟨liftV_ok _ _ cnts_ok, trivial⟩
theorem wset {l : List Mk} {i : Nat} (v : Int) (h : i < l.length) (hv : v = wgt (l.getD i mz)) : ((l.map wgt).take i ++ (l.map cnt).drop i).set i v = (l.map wgt).take (i + 1) ++ (l.map cnt).drop (i + 1) := by
  rw [hmap wgt 0 h, hv]
  have hl : ((l.map wgt).take i).length = i := by simp; omega
  rw [List.set_append_right _ _ (by omega), hl, Nat.sub_self, List.drop_eq_getElem_cons (by simpa using h), List.set_cons_zero, List.append_assoc]
  rfl
theorem wsame {l : List Mk} {i : Nat} (h : i < l.length) (hv : wgt (l.getD i mz) = cnt (l.getD i mz)) : (l.map wgt).take i ++ (l.map cnt).drop i = (l.map wgt).take (i + 1) ++ (l.map cnt).drop (i + 1) := by
  rw [hmap wgt 0 h, hv, List.drop_eq_getElem_cons (l := l.map cnt) (by simpa using h), List.append_assoc]
  simp [List.getD_eq_getElem?_getD, h]
/-- the items of the first ones -/
theorem itms_step {b : Bool} {l : List Mk} {i : Nat} (h : i < l.length) : itms b (l.take (i + 1)) = if ((l.getD i mz).ins && ((l.getD i mz).here == b)) = true then itms b (l.take i) ++ [(l.getD i mz).it] else itms b (l.take i) := by
  rw [take_succ_getD mz h]
  unfold itms
  rw [List.filter_append, List.map_append]
  by_cases c : ((l.getD i mz).ins && ((l.getD i mz).here == b)) = true
  · rw [if_pos c, List.filter_cons, if_pos c]; rfl
  · rw [if_neg c, List.filter_cons, if_neg c]; simp
theorem itms_len (b : Bool) (l : List Mk) : (itms b l).length ≤ l.length := by unfold itms; rw [List.length_map]; exact List.length_filter_le _ _
theorem took_step {l : List Mk} {i : Nat} (h : i < l.length) : took (l.take (i + 1)) = if (!(l.getD i mz).ins && (l.getD i mz).tf) = true then took (l.take i) ++ [(l.getD i mz).tk] else took (l.take i) := by
  rw [take_succ_getD mz h]
  unfold took
  rw [List.filter_append, List.map_append]
  by_cases c : (!(l.getD i mz).ins && (l.getD i mz).tf) = true
  · rw [if_pos c, List.filter_cons, if_pos c]; rfl
  · rw [if_neg c, List.filter_cons, if_neg c]; simp
theorem took_len (l : List Mk) : (took l).length ≤ l.length := by unfold took; rw [List.length_map]; exact List.length_filter_le _ _
theorem frees_step {l : List Mk} {i : Nat} (h : i < l.length) : (frees (l.take (i + 1))).length = if (!(l.getD i mz).ins && !(l.getD i mz).tf) = true then (frees (l.take i)).length + 1 else (frees (l.take i)).length := by
  rw [take_succ_getD mz h]
  unfold frees
  rw [List.filter_append, List.length_append]
  by_cases c : (!(l.getD i mz).ins && !(l.getD i mz).tf) = true
  · rw [if_pos c, List.filter_cons, if_pos c]; rfl
  · rw [if_neg c, List.filter_cons, if_neg c]; simp
theorem dels_step {l : List Mk} {i : Nat} (h : i < l.length) : (dels (l.take (i + 1))).length = if (!(l.getD i mz).ins) = true then (dels (l.take i)).length + 1 else (dels (l.take i)).length := by
  rw [take_succ_getD mz h]
  unfold dels
  rw [List.filter_append, List.length_append]
  by_cases c : (!(l.getD i mz).ins) = true
  · rw [if_pos c, List.filter_cons, if_pos c]; rfl
  · rw [if_neg c, List.filter_cons, if_neg c]; simp
end Go.Proofs.Ytegekenkfomlbaa.Wv
