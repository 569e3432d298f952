/- wave: the document's lists of items in order. -/
import Derived.Test.YtdgglimfjfedaaaItFn
namespace Go.Proofs.Ytdgglimfjfedaaa.Wv
open Go.Proofs.Ytdgglimfjfedaaa.Rx
set_option linter.unusedVariables false
set_option linter.unusedSimpArgs false
set_option maxRecDepth 100000
set_option maxHeartbeats 4000000
def ahdP {R : Type} : Prim R := fun args hh => match args, hh with
  | [.agg ⟨[.int .i64 a, .int .i64 b]⟩, .agg ⟨[.int .i64 c, .int .i64 d]⟩], [] => some ⟨True, .bool (decide (ah ⟨a, b⟩ ⟨c, d⟩)), none, hh, [], []⟩
  | _, _ => none
theorem ahd_ok {R : Type} {D : Res R} : ConOk D Try.prog 55 (con1 ahdP) := by
  refine con1_ok (prim_at (fn := Try.f55) (root := codeOf Try.f55) (by kernel_rfl) (by kernel_rfl) (by kernel_rfl) fun args hh x hx => ?_)
  unfold ahdP at hx
  split at hx
  · rename_i a b c d
    injection hx with hx
    subst hx
    refine ⟨by first | exact Nat.le_refl _ | exact Nat.zero_le _ | exact Nat.le_succ _, noLit rfl, (fun hw => by first | rfl | cases hw), fun _ hv => ?_⟩
    generalize hG : Rx.Ends (R := R) _ _ = G
    refine rx_ok (T := []) trivial mixed 200 ?_
    refine as_text (q := let zz1 := Value.int IntKind.i64; (decide (a < c) = false → ((a == c) = true → Post (G (Value.bool (decide (b < d))) [some (Sum.inl (32, [zz1 a, zz1 b])), some (Sum.inl (32, [zz1 c, zz1 d]))])) ∧ ((a == c) = false → Post (G (Value.bool false) [some (Sum.inl (32, [zz1 a, zz1 b])), some (Sum.inl (32, [zz1 c, zz1 d]))]))) ∧ (decide (a < c) = true → Post (G (Value.bool true) [some (Sum.inl (32, [zz1 a, zz1 b])), some (Sum.inl (32, [zz1 c, zz1 d]))]))) ?_ (by kernel_rfl)
    intro zz1; subst zz1
    have fin : ∀ (z : Bool) (hp : Hp R), z = decide (ah ⟨a, b⟩ ⟨c, d⟩) → G (.bool z) hp := by
      intro z hp ht
      subst ht
      subst hG
      exact ⟨⟨[], rfl, rfl, trivial, rfl, rfl, rfl, rfl⟩⟩
    clear hG
    repeat' (first | apply And.intro | apply Vc.mk | apply fits.mk | intro h | apply Post.mk)
    all_goals (try simp only [decide_eq_true_eq, decide_eq_false_iff_not, Nat.zero_add, ge_iff_le, Int.not_le, Int.not_lt, Int.toNat_natCast, beq_iff_eq, beq_eq_false_iff_ne, bne_iff_ne, bne_eq_false_iff_eq, Bool.not_eq_true', Bool.not_eq_false'] at *)
    all_goals first | contradiction | omega | (apply congrArg Value.bool; assumption) | exact congrArg Value.bool (decide_eq_true (by assumption)) | exact congrArg Value.bool (decide_eq_false (Int.not_lt.mpr (by assumption))) | exact ⟨rfl, by omega⟩ | exact rfl | (simp [*, -List.getD_eq_getElem?_getD]; done) | skip
    · refine fin _ _ (decide_eq_decide.2 ?_)
      unfold ah; simp only; omega
    · refine fin _ _ (decide_eq_false ?_).symm
      unfold ah; simp only; omega
    · refine fin _ _ (decide_eq_true ?_).symm
      unfold ah; simp only; omega
  · cases hx
/-- items as a row -/
abbrev iR (l : List It) : Row := ⟨[.int .i64 0, .int .i64 0], l.length, [⟨l.map It.k, [], []⟩, ⟨l.map It.i, [], []⟩]⟩
def unI (r : Row) : List It := match r.cols with
  | [a, b] => (List.range r.n).map fun i => ⟨a.i.getD i 0, b.i.getD i 0⟩
  | _ => []
theorem range_get {α : Type} {l : List α} {f : Nat → α} (h : ∀ i (hi : i < l.length), f i = l[i]) : (List.range l.length).map f = l := by
  refine List.ext_getElem (by simp) fun i h1 h2 => ?_
  simp only [List.getElem_map, List.getElem_range]
  exact h i h2
theorem map_getD {α β : Type} {l : List α} {i : Nat} (f : α → β) (d : β) (hi : i < l.length) : (l.map f).getD i d = f l[i] := by
  rw [List.getD_eq_getElem?_getD, List.getElem?_map, List.getElem?_eq_getElem hi]; rfl
theorem unI_iR (l : List It) : unI (iR l) = l := by
  unfold unI
  refine range_get fun i hi => ?_
  simp only [map_getD _ _ hi]
theorem cut_map {α β : Type} (f : α → β) (l : List α) (a b : Nat) : cut (l.map f) a b = (cut l a b).map f := by
  unfold cut; rw [List.map_take, List.map_drop]
theorem cm {α β : Type} (f : α → β) (l : List α) : cut (l.map f) 0 l.length = l.map f := cut_eq (by simp)
abbrev vI {R : Type} (l : List It) : Option (SB R) := some (.inr (.inr (.inl (iR l))))
abbrev oI {R : Type} (l : List It) : Option (SB R) := some (.inr (.inl (32, iR l)))
theorem cut_drop {α : Type} {x : List α} {a b : Nat} (h : x.length ≤ a + b) : cut x a b = x.drop a := by
  unfold cut
  exact List.take_of_length_le (by simp; omega)
theorem put_rowA {α : Type} {x : List α} {r : Nat} (v : α) (h : r ≤ x.length) : cut (cut ([] ++ cut x 0 r) 0 r ++ cut [v] 0 1) 0 (r + 1) = x.take r ++ [v] := by
  have h1 : cut ([] ++ cut x 0 r) 0 r = x.take r := by unfold cut; simp [List.take_take]
  rw [h1, show cut [v] 0 1 = [v] from rfl]
  exact cut_eq (by simp; omega)
theorem put_row0 {α : Type} {x : List α} {r L : Nat} {v : α} (hL : x.length = L) (h : r ≤ L) : cut (cut ([] ++ cut x 0 r) 0 r ++ cut [v] 0 1) 0 (r + 1) ++ cut x r ((L : Int) - (r : Int)).toNat = x.take r ++ v :: x.drop r := by
  rw [put_rowA v (by omega), cut_drop (by omega)]
  simp
theorem put_row1 {α : Type} {x : List α} {r L : Nat} {v : α} (hL : x.length = L) (h : r < L) : cut (cut ([] ++ cut x 0 r) 0 r ++ cut [v] 0 1) 0 (r + 1) ++ cut x ((r : Int) + 1).toNat ((L : Int) - ((r : Int) + 1)).toNat = x.take r ++ v :: x.drop (r + 1) := by
  rw [put_rowA v (by omega), cut_drop (by omega), show ((r : Int) + 1).toNat = r + 1 by omega]
  simp
theorem srt_step {l : List It} {i : Nat} (hi : i < l.length) : srt (l.take (i + 1)) = ins (l.getD i iz) (srt (l.take i)) := by
  rw [take_succ_getD iz hi, srt_snoc]
theorem insE {x : It} {S : List It} {k : Nat} (h : posAt x S S.length = k) : (ins x S).map It.k = (S.map It.k).take k ++ x.k :: (S.map It.k).drop k ∧ (ins x S).map It.i = (S.map It.i).take k ++ x.i :: (S.map It.i).drop k ∧ (k ≤ S.length → k + 1 + ((S.length : Int) - (k : Int)).toNat = (ins x S).length) := by
  subst h
  refine ⟨?_, ?_, fun h => ?_⟩
  · unfold ins; rw [List.map_append, List.map_cons, List.map_take, List.map_drop]
  · unfold ins; rw [List.map_append, List.map_cons, List.map_take, List.map_drop]
  · rw [ins_len]; omega
def TAh {R : Type} : Tab R := [(55, liftC zN 2 (con1 ahdP))]
theorem TAh_ok {R : Type} {D : Res R} : TabOk D Try.prog (TAh : Tab R) := ⟨liftC_ok _ _ ahd_ok, trivial⟩
def srtdP {R : Type} : Prim R := fun args hh => match args, hh with
  | [.slice (some ⟨0, 0, some 2000⟩) n c], [some (.inr (.inr (.inl r)))] => some ⟨r = iR (unI r) ∧ n = (unI r).length ∧ (unI r).length ≤ 100000, .slice (some ⟨1, 0, some 2000⟩) (srt (unI r)).length 0, none, [some (.inr (.inr (.inl r))), oI (srt (unI r))], [], [(0, 0)]⟩
  | _, _ => none
theorem srtd_ok {R : Type} {D : Res R} : ConOk D Try.prog 48 (con1 srtdP) := by
  refine con1_ok (prim_at (fn := Try.f48) (root := codeOf Try.f48) (by kernel_rfl) (by kernel_rfl) (by kernel_rfl) fun args hh x hx => ?_)
  unfold srtdP at hx
  split at hx
  · rename_i n c r
    injection hx with hx
    subst hx
    refine ⟨by first | exact Nat.le_refl _ | exact Nat.zero_le _ | exact Nat.le_succ _, noLit rfl, (fun hw => by first | rfl | cases hw), fun _ hv => ?_⟩
    obtain ⟨hr, rfl, hb⟩ := hv; generalize unI r = l at *; subst hr
    generalize hG : Rx.Ends (R := R) _ _ = G
    refine rx_ok (T := TAh) TAh_ok mixed 200 ?_
    refine as_text (q := let zz1 := Value.int IntKind.i64; At D Try.prog (codeOf Try.f48) 1 (retK Try.prog (Array.toList (Func.results Try.f48)) G) [Sum.inl [1, 1, 0, 1, 0], Sum.inr (Sum.inl 0), Sum.inl [1, 1, 1]] (SS.mk [some (Value.slice (some (Addr.mk 0 0 (some 2000))) (List.length l) c), none, some (Value.slice (some (Addr.mk 1 0 (some 2000))) 0 0), some (Value.slice (some (Addr.mk 2 0 (some 2000))) 0 0), some (zz1 0), none, none, none, none, none, none, none, none, none, none, none, none, none, none, none, none, none, none, none, none, none, none, none, none, none, none, none, none, none, none, none, none, none, none, none, none, none, none, none, none, none, none, none, none] [] [some (Sum.inr (Sum.inr (Sum.inl (Row.mk [zz1 0, zz1 0] (List.length l) [Col.mk (List.map It.k l) [] [], Col.mk (List.map It.i l) [] []])))), some (Sum.inr (Sum.inl (32, Row.mk [zz1 0, zz1 0] 0 [Col.mk [] [] [], Col.mk [] [] []]))), some (Sum.inr (Sum.inl (32, Row.mk [zz1 0, zz1 0] 0 [Col.mk [] [] [], Col.mk [] [] []])))])) ?_ (by kernel_rfl)
    intro zz1; subst zz1
    refine loop_atM (by kernel_rfl) (ι := Nat × List It) (fun x => x.1 ≤ l.length ∧ x.2 = srt (l.take x.1)) [0, 3, 4] (fun x => [.slice (some ⟨0, 0, some 2000⟩) l.length c, .slice (some ⟨1, 0, some 2000⟩) x.2.length 0, .int .i64 x.1]) (fun x => [vI l, oI x.2]) (fun x => l.length - x.1) 49 (fun i hi => ⟨rfl, rfl, by simp⟩) ⟨(0, []), ⟨Nat.zero_le _, rfl⟩, ⟨[0, 2], rfl, ⟨rfl, ⟨_, rfl, .inl rfl⟩, trivial⟩, rfl, rfl, rfl, rfl⟩⟩ fun x hx => ?_
    obtain ⟨i, S⟩ := x
    obtain ⟨hi, hS⟩ := hx
    simp only at hi hS ⊢
    have hSl : S.length = i := by rw [hS, srt_len, List.length_take]; omega
    refine rx_ok (T := TAh) TAh_ok mixed 200 ?_
    refine as_text (q := let zz3 := Value.int IntKind.i64; let zz1 := (Value.slice (some (Addr.mk 0 0 (some 2000))) (List.length l) c); let zz2 := (Value.slice (some (Addr.mk 1 0 (some 2000))) (List.length S) 0); (decide ((↑i : Int) < (↑(List.length l) : Int)) = true → At D Try.prog (codeOf Try.f48) 1 (retK Try.prog (Array.toList (Func.results Try.f48)) G) [Sum.inl [1, 1, 0, 1, 0, 0, 1, 0, 0, 1, 0, 0], Sum.inr (Sum.inl 2), Sum.inl [1, 1, 0, 1, 0, 0, 1, 0, 0, 1, 1], Sum.inr (Sum.inl 1), Sum.inl [1, 1, 0, 1, 0, 0, 1, 1], Sum.inr (Sum.inr fun σ' => ∃ j, (Prod.fst j ≤ List.length l ∧ Prod.snd j = srt (List.take (Prod.fst j) l)) ∧ List.length l - Prod.fst j < List.length l - i ∧ FitsM R 1 49 [0, 3, 4] [Value.slice (some (Addr.mk 0 0 (some 2000))) (List.length l) c, Value.slice (some (Addr.mk 1 0 (some 2000))) (List.length (Prod.snd j)) 0, zz3 (↑(Prod.fst j) : Int)] [vI l, oI (Prod.snd j)] (vals (SS.tm σ') [0, 3, 4]) (SS.hp σ') (List.length (SS.tm σ'))), Sum.inr (Sum.inl 0), Sum.inl [1, 1, 1]] (SS.mk [some zz1, none, none, some zz2, some (zz3 (↑i : Int)), some (zz3 (↑(List.length S) : Int)), none, some (zz3 (↑i : Int)), some zz1, some (zz3 (↑(List.length l) : Int)), some (Value.bool true), none, none, some zz2, some (zz3 (↑(List.length S) : Int)), none, none, none, none, none, none, none, none, none, none, none, none, none, none, none, none, none, none, none, none, none, none, none, none, none, none, none, none, none, none, none, none, none, none] [(10, true)] [some (Sum.inr (Sum.inr (Sum.inl (Row.mk [zz3 0, zz3 0] (List.length l) [Col.mk (List.map It.k l) [] [], Col.mk (List.map It.i l) [] []])))), some (Sum.inr (Sum.inl (32, Row.mk [zz3 0, zz3 0] (List.length S) [Col.mk (List.map It.k S) [] [], Col.mk (List.map It.i S) [] []])))])) ∧ (decide ((↑i : Int) < (↑(List.length l) : Int)) = false → Post (G zz2 [some (Sum.inr (Sum.inr (Sum.inl (Row.mk [zz3 0, zz3 0] (List.length l) [Col.mk (List.map It.k l) [] [], Col.mk (List.map It.i l) [] []])))), some (Sum.inr (Sum.inl (32, Row.mk [zz3 0, zz3 0] (List.length S) [Col.mk (List.map It.k S) [] [], Col.mk (List.map It.i S) [] []])))]))) ?_ (by kernel_rfl)
    intro zz3 zz1 zz2; subst zz2 zz1 zz3
    refine ⟨fun h => ?_, fun h => ⟨?_⟩⟩
    · have hlt : i < l.length := by have := of_decide_eq_true h; omega
      clear h
      refine loop_atM (by kernel_rfl) (ι := Nat) (fun k => k ≤ S.length ∧ posAt (l.getD i iz) S k = posAt (l.getD i iz) S S.length) [0, 3, 4, 5] (fun k => [.slice (some ⟨0, 0, some 2000⟩) l.length c, .slice (some ⟨1, 0, some 2000⟩) S.length 0, .int .i64 i, .int .i64 k]) (fun k => [vI l, oI S]) (fun k => k) 49 (fun i hi => ⟨rfl, rfl, by simp⟩) ⟨S.length, ⟨Nat.le_refl _, rfl⟩, ⟨[0, 1], rfl, ⟨rfl, ⟨_, rfl, .inl rfl⟩, trivial⟩, rfl, rfl, rfl, rfl⟩⟩ fun k hk => ?_
      obtain ⟨hk1, hk2⟩ := hk
      refine rx_ok (T := TAh) TAh_ok mixed 200 ?_
      refine as_text (q := let zz5 := Value.int IntKind.i64; let zz1 := (↑k : Int); let zz2 := (↑(List.length S) : Int); let zz3 := (ah (It.mk (List.getD (List.map It.k l) (0 + Int.toNat (↑i : Int)) (0 : Int)) (List.getD (List.map It.i l) (0 + Int.toNat (↑i : Int)) (0 : Int))) (It.mk (List.getD (List.map It.k S) (0 + Int.toNat (zz1 - (1 : Int))) (0 : Int)) (List.getD (List.map It.i S) (0 + Int.toNat (zz1 - (1 : Int))) (0 : Int)))); let zz4 := (Value.slice (some (Addr.mk 0 0 (some 2000))) (List.length l) c); (decide (zz1 > (0 : Int)) = true → Vc (Value.bool (decide (zz1 > (0 : Int))) = Value.bool true) ∧ Vc ((0 : Int) ≤ (↑i : Int) ∧ (↑i : Int) < (↑(List.length l) : Int) ∧ 0 + List.length l ≤ List.length l) ∧ Vc (0 + Int.toNat (↑i : Int) < List.length l) ∧ Vc (fits (zz1 - (1 : Int))) ∧ Vc ((0 : Int) ≤ zz1 - (1 : Int) ∧ zz1 - (1 : Int) < zz2 ∧ 0 + List.length S ≤ List.length S) ∧ Vc (0 + Int.toNat (zz1 - (1 : Int)) < List.length S) ∧ Vc True ∧ (decide zz3 = true → Vc (fits (zz1 - (1 : Int))) ∧ Post (∃ j, (j ≤ List.length S ∧ posAt (List.getD l i iz) S j = posAt (List.getD l i iz) S (List.length S)) ∧ j < k ∧ FitsM R 1 49 [0, 3, 4, 5] [Value.slice (some (Addr.mk 0 0 (some 2000))) (List.length l) c, Value.slice (some (Addr.mk 1 0 (some 2000))) (List.length S) 0, zz5 (↑i : Int), zz5 (↑j : Int)] [vI l, oI S] [some zz4, some (Value.slice (some (Addr.mk 1 0 (some 2000))) (List.length S) 0), some (zz5 (↑i : Int)), some (zz5 (zz1 - (1 : Int)))] [some (Sum.inr (Sum.inr (Sum.inl (Row.mk [zz5 0, zz5 0] (List.length l) [Col.mk (List.map It.k l) [] [], Col.mk (List.map It.i l) [] []])))), some (Sum.inr (Sum.inl (32, Row.mk [zz5 0, zz5 0] (List.length S) [Col.mk (List.map It.k S) [] [], Col.mk (List.map It.i S) [] []])))] 49)) ∧ (decide zz3 = false → Vc ((0 : Int) ≤ zz1 ∧ zz1 ≤ zz2 ∧ 0 + List.length S ≤ List.length S) ∧ Vc (0 ≤ 0 ∧ 0 + Int.toNat zz1 ≤ List.length S ∧ (0 + Int.toNat zz1) * 16 ≤ 140737488355328 ∧ 0 + Int.toNat zz1 ≤ 140737488355328) ∧ Vc ((0 : Int) ≤ (↑i : Int) ∧ (↑i : Int) < (↑(List.length l) : Int) ∧ 0 + List.length l ≤ List.length l) ∧ Vc (0 + Int.toNat (↑i : Int) < List.length l) ∧ Vc (0 + (0 + Int.toNat zz1) ≤ 0 + Int.toNat zz1 ∧ 1 ≤ 1 ∧ (0 + Int.toNat zz1 + 1) * 16 ≤ 140737488355328 ∧ 0 + Int.toNat zz1 + 1 ≤ 140737488355328) ∧ Vc (0 = 0 ∧ (0 : Int) ≤ zz1 ∧ zz1 ≤ zz2 ∧ zz2 ≤ zz2 ∧ 0 + List.length S ≤ List.length S) ∧ Vc (0 + (0 + Int.toNat zz1 + 1) ≤ 0 + Int.toNat zz1 + 1 ∧ 0 + Int.toNat zz1 + Int.toNat (zz2 - zz1) ≤ List.length S ∧ (0 + Int.toNat zz1 + 1 + Int.toNat (zz2 - zz1)) * 16 ≤ 140737488355328 ∧ 0 + Int.toNat zz1 + 1 + Int.toNat (zz2 - zz1) ≤ 140737488355328) ∧ Vc (fits ((↑i : Int) + (1 : Int))) ∧ Post (∃ j, (Prod.fst j ≤ List.length l ∧ Prod.snd j = srt (List.take (Prod.fst j) l)) ∧ List.length l - Prod.fst j < List.length l - i ∧ FitsM R 1 49 [0, 3, 4] [Value.slice (some (Addr.mk 0 0 (some 2000))) (List.length l) c, Value.slice (some (Addr.mk 1 0 (some 2000))) (List.length (Prod.snd j)) 0, zz5 (↑(Prod.fst j) : Int)] [vI l, oI (Prod.snd j)] [some zz4, some (Value.slice (some (Addr.mk 6 0 (some 2000))) (0 + Int.toNat zz1 + 1 + Int.toNat (zz2 - zz1)) 0), some (zz5 ((↑i : Int) + (1 : Int)))] [some (Sum.inr (Sum.inr (Sum.inl (Row.mk [zz5 0, zz5 0] (List.length l) [Col.mk (List.map It.k l) [] [], Col.mk (List.map It.i l) [] []])))), some (Sum.inr (Sum.inl (32, Row.mk [zz5 0, zz5 0] (List.length S) [Col.mk (List.map It.k S) [] [], Col.mk (List.map It.i S) [] []]))), none, none, some (Sum.inr (Sum.inl (32, Row.mk [zz5 0, zz5 0] 1 [Col.mk [List.getD (List.map It.k l) (0 + Int.toNat (↑i : Int)) (0 : Int)] [] [], Col.mk [List.getD (List.map It.i l) (0 + Int.toNat (↑i : Int)) (0 : Int)] [] []]))), none, some (Sum.inr (Sum.inl (32, Row.mk [zz5 0, zz5 0] (0 + Int.toNat zz1 + 1 + Int.toNat (zz2 - zz1)) [Col.mk (cut (cut ([] ++ cut (List.map It.k S) 0 (Int.toNat zz1)) 0 (0 + Int.toNat zz1) ++ cut [List.getD (List.map It.k l) (0 + Int.toNat (↑i : Int)) (0 : Int)] 0 1) 0 (0 + Int.toNat zz1 + 1) ++ cut (List.map It.k S) (0 + Int.toNat zz1) (Int.toNat (zz2 - zz1))) [] [], Col.mk (cut (cut ([] ++ cut (List.map It.i S) 0 (Int.toNat zz1)) 0 (0 + Int.toNat zz1) ++ cut [List.getD (List.map It.i l) (0 + Int.toNat (↑i : Int)) (0 : Int)] 0 1) 0 (0 + Int.toNat zz1 + 1) ++ cut (List.map It.i S) (0 + Int.toNat zz1) (Int.toNat (zz2 - zz1))) [] []])))] 49))) ∧ (decide (zz1 > (0 : Int)) = false → Vc (Value.bool (decide (zz1 > (0 : Int))) = Value.bool false) ∧ Vc ((0 : Int) ≤ zz1 ∧ zz1 ≤ zz2 ∧ 0 + List.length S ≤ List.length S) ∧ Vc (0 ≤ 0 ∧ 0 + Int.toNat zz1 ≤ List.length S ∧ (0 + Int.toNat zz1) * 16 ≤ 140737488355328 ∧ 0 + Int.toNat zz1 ≤ 140737488355328) ∧ Vc ((0 : Int) ≤ (↑i : Int) ∧ (↑i : Int) < (↑(List.length l) : Int) ∧ 0 + List.length l ≤ List.length l) ∧ Vc (0 + Int.toNat (↑i : Int) < List.length l) ∧ Vc (0 + (0 + Int.toNat zz1) ≤ 0 + Int.toNat zz1 ∧ 1 ≤ 1 ∧ (0 + Int.toNat zz1 + 1) * 16 ≤ 140737488355328 ∧ 0 + Int.toNat zz1 + 1 ≤ 140737488355328) ∧ Vc (0 = 0 ∧ (0 : Int) ≤ zz1 ∧ zz1 ≤ zz2 ∧ zz2 ≤ zz2 ∧ 0 + List.length S ≤ List.length S) ∧ Vc (0 + (0 + Int.toNat zz1 + 1) ≤ 0 + Int.toNat zz1 + 1 ∧ 0 + Int.toNat zz1 + Int.toNat (zz2 - zz1) ≤ List.length S ∧ (0 + Int.toNat zz1 + 1 + Int.toNat (zz2 - zz1)) * 16 ≤ 140737488355328 ∧ 0 + Int.toNat zz1 + 1 + Int.toNat (zz2 - zz1) ≤ 140737488355328) ∧ Vc (fits ((↑i : Int) + (1 : Int))) ∧ Post (∃ j, (Prod.fst j ≤ List.length l ∧ Prod.snd j = srt (List.take (Prod.fst j) l)) ∧ List.length l - Prod.fst j < List.length l - i ∧ FitsM R 1 49 [0, 3, 4] [Value.slice (some (Addr.mk 0 0 (some 2000))) (List.length l) c, Value.slice (some (Addr.mk 1 0 (some 2000))) (List.length (Prod.snd j)) 0, zz5 (↑(Prod.fst j) : Int)] [vI l, oI (Prod.snd j)] [some zz4, some (Value.slice (some (Addr.mk 6 0 (some 2000))) (0 + Int.toNat zz1 + 1 + Int.toNat (zz2 - zz1)) 0), some (zz5 ((↑i : Int) + (1 : Int)))] [some (Sum.inr (Sum.inr (Sum.inl (Row.mk [zz5 0, zz5 0] (List.length l) [Col.mk (List.map It.k l) [] [], Col.mk (List.map It.i l) [] []])))), some (Sum.inr (Sum.inl (32, Row.mk [zz5 0, zz5 0] (List.length S) [Col.mk (List.map It.k S) [] [], Col.mk (List.map It.i S) [] []]))), none, none, some (Sum.inr (Sum.inl (32, Row.mk [zz5 0, zz5 0] 1 [Col.mk [List.getD (List.map It.k l) (0 + Int.toNat (↑i : Int)) (0 : Int)] [] [], Col.mk [List.getD (List.map It.i l) (0 + Int.toNat (↑i : Int)) (0 : Int)] [] []]))), none, some (Sum.inr (Sum.inl (32, Row.mk [zz5 0, zz5 0] (0 + Int.toNat zz1 + 1 + Int.toNat (zz2 - zz1)) [Col.mk (cut (cut ([] ++ cut (List.map It.k S) 0 (Int.toNat zz1)) 0 (0 + Int.toNat zz1) ++ cut [List.getD (List.map It.k l) (0 + Int.toNat (↑i : Int)) (0 : Int)] 0 1) 0 (0 + Int.toNat zz1 + 1) ++ cut (List.map It.k S) (0 + Int.toNat zz1) (Int.toNat (zz2 - zz1))) [] [], Col.mk (cut (cut ([] ++ cut (List.map It.i S) 0 (Int.toNat zz1)) 0 (0 + Int.toNat zz1) ++ cut [List.getD (List.map It.i l) (0 + Int.toNat (↑i : Int)) (0 : Int)] 0 1) 0 (0 + Int.toNat zz1 + 1) ++ cut (List.map It.i S) (0 + Int.toNat zz1) (Int.toNat (zz2 - zz1))) [] []])))] 49))) ?_ (by kernel_rfl)
      intro zz5 zz1 zz2 zz3 zz4; subst zz4 zz3 zz2 zz1 zz5
      have e0 : 0 + (i : Int).toNat = i := by omega
      have gl : ∀ f : It → Int, f iz = 0 → (l.map f).getD i 0 = f (l.getD i iz) := fun f hf => by rw [map_getD f 0 hlt, List.getD_eq_getElem?_getD, List.getElem?_eq_getElem hlt]; rfl
      simp only [e0, gl It.k rfl, gl It.i rfl]
      have gS : ∀ f : It → Int, f iz = 0 → ((k : Int) - 1).toNat < S.length → (S.map f).getD ((k : Int) - 1).toNat 0 = f (S.getD ((k : Int) - 1).toNat iz) := fun f hf hj => by rw [map_getD f 0 hj, List.getD_eq_getElem?_getD, List.getElem?_eq_getElem hj]; rfl
      repeat' (first | apply And.intro | apply Vc.mk | apply fits.mk | intro h | apply Post.mk)
      all_goals (try simp only [decide_eq_true_eq, decide_eq_false_iff_not, Nat.zero_add, ge_iff_le, Int.not_le, Int.not_lt, Int.toNat_natCast, beq_iff_eq, beq_eq_false_iff_ne, bne_iff_ne, bne_eq_false_iff_eq, Bool.not_eq_true', Bool.not_eq_false'] at *)
      all_goals first | contradiction | omega | (apply congrArg Value.bool; assumption) | exact congrArg Value.bool (decide_eq_true (by assumption)) | exact congrArg Value.bool (decide_eq_false (Int.not_lt.mpr (by assumption))) | exact ⟨rfl, by omega⟩ | exact rfl | (simp [*, -List.getD_eq_getElem?_getD]; done) | skip
      · have h1 : (k : Int) > 0 := by assumption
        rw [gS It.k rfl (by omega), gS It.i rfl (by omega)] at h
        obtain ⟨n, rfl⟩ : ∃ n, k = n + 1 := ⟨k - 1, by omega⟩
        have e1 : ((n + 1 : Nat) : Int) - 1 = n := by omega
        rw [e1, Int.toNat_natCast] at h
        rw [e1]
        exact ⟨n, ⟨by omega, by rw [← hk2, posAt, if_pos h]⟩, Nat.lt_succ_self _, ⟨[0, 1], rfl, ⟨rfl, ⟨_, rfl, .inl rfl⟩, trivial⟩, rfl, rfl, rfl, rfl⟩⟩
      · have h1 : (k : Int) > 0 := by assumption
        rw [gS It.k rfl (by omega), gS It.i rfl (by omega)] at h
        obtain ⟨n, rfl⟩ : ∃ n, k = n + 1 := ⟨k - 1, by omega⟩
        have e1 : ((n + 1 : Nat) : Int) - 1 = n := by omega
        rw [e1, Int.toNat_natCast] at h
        have hp : posAt (l.getD i iz) S S.length = n + 1 := by rw [← hk2, posAt, if_neg h]
        have hI := insE hp
        simp only [put_row0 (x := S.map It.k) (r := n + 1) (L := S.length) (List.length_map ..) hk1, put_row0 (x := S.map It.i) (r := n + 1) (L := S.length) (List.length_map ..) hk1, ← hI.1, ← hI.2.1, hI.2.2 hk1]
        exact ⟨(i + 1, ins (l.getD i iz) S), ⟨hlt, by rw [hS, srt_step hlt]⟩, by omega, ⟨[0, 6], rfl, ⟨rfl, ⟨_, rfl, .inl rfl⟩, trivial⟩, rfl, rfl, rfl, rfl⟩⟩
      · obtain rfl : k = 0 := by omega
        have hp : posAt (l.getD i iz) S S.length = 0 := by rw [← hk2]; rfl
        have hI := insE hp
        simp only [put_row0 (x := S.map It.k) (r := 0) (L := S.length) (List.length_map ..) hk1, put_row0 (x := S.map It.i) (r := 0) (L := S.length) (List.length_map ..) hk1, ← hI.1, ← hI.2.1, hI.2.2 hk1]
        exact ⟨(i + 1, ins (l.getD i iz) S), ⟨hlt, by rw [hS, srt_step hlt]⟩, by omega, ⟨[0, 6], rfl, ⟨rfl, ⟨_, rfl, .inl rfl⟩, trivial⟩, rfl, rfl, rfl, rfl⟩⟩
    · obtain rfl : i = l.length := by have := of_decide_eq_false h; omega
      subst hG
      rw [hS, List.take_length]
      exact ⟨[0, 1], rfl, rfl, ⟨rfl, ⟨_, rfl, .inl rfl⟩, trivial⟩, rfl, rfl, rfl, rfl⟩
  · cases hx
end Go.Proofs.Ytdgglimfjfedaaa.Wv
