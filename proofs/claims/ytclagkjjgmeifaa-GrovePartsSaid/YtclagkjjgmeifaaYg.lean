/- Yg: G7Laws, G7Ref, G7Cols, G7Alike -/
import Derived.Test.YtclagkjjgmeifaaYd
import Derived.Test.YtclagkjjgmeifaaYe
import Derived.Test.YtclagkjjgmeifaaYc
import Derived.Test.YtclagkjjgmeifaaYf
/- grove: keys and numbers: what lists of them come to. -/
namespace Go.Proofs.Ytclagkjjgmeifaa.G7
open Go.Proofs.Ytclagkjjgmeifaa.Rx
set_option linter.unusedVariables false
set_option linter.unusedSimpArgs false
set_option maxRecDepth 100000
/-- numbers that aren't too many, nor too great -/
structure Mild (x : List Int) : Prop where
  len : x.length ≤ 1000
  b : ∀ v ∈ x, -1000000 ≤ v ∧ v ≤ 1000000
theorem Mild.left {y z : List Int} (h : Mild (y ++ z)) : Mild y := ⟨by have := h.len; rw [List.length_append] at this; omega, fun v hv => h.b v (List.mem_append_left _ hv)⟩
theorem Mild.right {y z : List Int} (h : Mild (y ++ z)) : Mild z := ⟨by have := h.len; rw [List.length_append] at this; omega, fun v hv => h.b v (List.mem_append_right _ hv)⟩
theorem Mild.psum {x : List Int} (hx : Mild x) : ∀ k, k ≤ x.length → -(k : Int) * 1000000 ≤ Ti.psum x k ∧ Ti.psum x k ≤ (k : Int) * 1000000
  | 0, _ => by simp [Ti.psum]
  | k + 1, h => by
    have h1 := Mild.psum hx k (by omega)
    have h2 := hx.b _ (getD_mem (d := 0) (show k < x.length by omega))
    rw [Ti.psum_succ (by omega)]
    omega
theorem Mild.psum9 {x : List Int} (hx : Mild x) (k : Nat) (hk : k ≤ x.length) : -1000000000 ≤ Ti.psum x k ∧ Ti.psum x k ≤ 1000000000 := by
  have := hx.psum k hk
  have := hx.len
  omega
theorem Mild.lowTo {x : List Int} (hx : Mild x) : ∀ k, k ≤ x.length → -1000000000 ≤ Ti.lowTo x k ∧ Ti.lowTo x k ≤ 1000000000
  | 0, _ => by simp [Ti.lowTo]
  | 1, h => hx.psum9 1 h
  | k + 2, h => by
    have h1 := Mild.lowTo hx (k + 1) (by omega)
    have h2 := hx.psum9 (k + 2) h
    simp only [Ti.lowTo]
    omega
theorem mild_plus {y z : List Int} (h : Mild (y ++ z)) : (Ti.tideOf y).plus (Ti.tideOf z) = Ti.tideOf (y ++ z) := by
  by_cases hy : y.length = 0
  · have : y = [] := List.eq_nil_of_length_eq_zero hy
    subst this
    rw [Ti.Td.plus, if_pos (show (Ti.tideOf []).n = 0 from rfl)]; rfl
  by_cases hz : z.length = 0
  · have : z = [] := List.eq_nil_of_length_eq_zero hz
    subst this
    rw [Ti.Td.plus, if_neg (by simp only [Ti.tideOf]; omega), if_pos (show (Ti.tideOf []).n = 0 from rfl), List.append_nil]
  have a1 := h.left.psum9 y.length (Nat.le_refl _)
  have a2 := h.right.psum9 z.length (Nat.le_refl _)
  have a3 := h.right.lowTo z.length (Nat.le_refl _)
  have a4 := h.len
  have e1 := Ti.psum_append (y := y) (z := z) z.length
  have e2 := Ti.lowTo_append (y := y) (z := z) hy z.length (by omega) (Nat.le_refl _)
  rw [List.length_append] at a4
  rw [Ti.Td.plus, if_neg (by simp only [Ti.tideOf]; omega), if_neg (by simp only [Ti.tideOf]; omega)]
  simp only [Ti.tideOf, Ti.low, List.length_append] at *
  rw [Ti.w64_of (by omega), Ti.w64_of (by omega), Ti.w64_of (by omega), e1, e2]
  simp
def S7 (l : List El) : Ti.Td := Ti.tideOf (l.map El.w)
def good7 (l : List El) : Prop := Mild (l.map El.w)
theorem laws7 : Gv.Laws O7 S7 good7 where
  nil := rfl
  one e := by simp [S7, O7, Ti.tideOf, Ti.psum, Ti.low, Ti.lowTo]
  plus x y h _ _ := by
    unfold S7 good7 at *
    rw [List.map_append] at *
    exact mild_plus h
  left x y h := by unfold good7 at *; rw [List.map_append] at h; exact h.left
  right x y h := by unfold good7 at *; rw [List.map_append] at h; exact h.right
  len x h := by have := h.len; rw [List.length_map] at this; omega
  swap a b := by simp only [O7]; split <;> split <;> (try split) <;> (try split) <;> omega
  trans a b c := by simp only [O7]; intro h1 h2; repeat' split at h1 <;> first | omega | skip
                    all_goals (repeat' split at h2) <;> first | omega | skip
                    all_goals (repeat' split) <;> first | omega | skip
  eqv a b c := by simp only [O7]; intro h1 h2; repeat' split at h1 <;> first | omega | skip
                  all_goals (repeat' split at h2) <;> first | omega | skip
                  all_goals (repeat' split) <;> first | omega | skip
  eqv' a b c := by simp only [O7]; intro h1 h2; repeat' split at h1 <;> first | omega | skip
                   all_goals (repeat' split at h2) <;> first | omega | skip
                   all_goals (repeat' split) <;> first | omega | skip
theorem cmp_pos (e x : El) : (0 < O7.cmp e x) ↔ x.k < e.k := by simp only [O7]; split <;> (try split) <;> omega
theorem cmp_zero (e x : El) : O7.cmp e x = 0 ↔ e.k = x.k := by simp only [O7]; split <;> (try split) <;> omega
theorem cmp_neg (e x : El) : O7.cmp e x < 0 ↔ e.k < x.k := by simp only [O7]; split <;> (try split) <;> omega
abbrev T1 := Gv.Tr El
abbrev St7 (n : Nat) (m : Pl) (a b : T1) : Prop := Gv.St O7 S7 good7 n m a b
end Go.Proofs.Ytclagkjjgmeifaa.G7


/- grove: the document's lists in order. -/
namespace Go.Proofs.Ytclagkjjgmeifaa.D7
open Go.Proofs.Ytclagkjjgmeifaa.Rx Go.Proofs.Ytclagkjjgmeifaa.G7
set_option linter.unusedVariables false
set_option linter.unusedSimpArgs false
set_option maxRecDepth 100000
set_option maxHeartbeats 4000000
def rkC (ks : List Int) (key : Int) : Nat := (ks.takeWhile fun x => decide (x < key)).length
theorem rkC_le (ks : List Int) (key : Int) : rkC ks key ≤ ks.length := (List.takeWhile_sublist _).length_le
theorem rkC_cons (a : Int) (l : List Int) (key : Int) : rkC (a :: l) key = if a < key then rkC l key + 1 else 0 := by
  unfold rkC
  rw [List.takeWhile_cons]
  by_cases h : a < key
  · rw [if_pos (decide_eq_true h), if_pos h]; rfl
  · rw [if_neg (by simpa using h), if_neg h]; rfl
theorem rkC_lt : ∀ (ks : List Int) (key : Int) (k : Nat), k < rkC ks key → ks.getD k 0 < key
  | [], _, k, h => by simp [rkC] at h
  | a :: l, key, k, h => by
    rw [rkC_cons] at h
    split at h
    · cases k with
      | zero => simpa using ‹a < key›
      | succ k => simp only [List.getD_cons_succ]; exact rkC_lt l key k (by omega)
    · omega
theorem rkC_ge : ∀ (ks : List Int) (key : Int), rkC ks key < ks.length → ¬ ks.getD (rkC ks key) 0 < key
  | [], _, h => by simp at h
  | a :: l, key, h => by
    rw [rkC_cons] at h ⊢
    split
    · simp only [List.getD_cons_succ]
      rename_i h1
      rw [if_pos h1] at h
      exact rkC_ge l key (by simpa using h)
    · simpa using ‹¬ a < key›
def vE {R : Type} (xk xw : List Int) : Option (SB R) := some (.inr (.inr (.inl ⟨[.int .i64 0, .int .i64 0], xk.length, [⟨xk, [], []⟩, ⟨xw, [], []⟩]⟩)))
def rankP {R : Type} : Prim R := fun args hh => match args, hh with
  | [.slice (some ⟨0, 0, some 2000⟩) n c, .int .i64 key], [some (.inr (.inr (.inl ⟨[.int .i64 0, .int .i64 0], n', [⟨xk, [], []⟩, ⟨xw, [], []⟩]⟩)))] => some ⟨n = xk.length ∧ n' = xk.length ∧ xk.length ≤ 1000000, .int .i64 (rkC xk key), none, hh, [], []⟩
  | _, _ => none
theorem rank_ok {R : Type} {D : Res R} : ConOk D Try.prog 19 (con1 rankP) := by
  refine con1_ok (prim_at (fn := Try.f19) (root := codeOf Try.f19) (by kernel_rfl) (by kernel_rfl) (by kernel_rfl) fun args hh x hx => ?_)
  unfold rankP at hx
  split at hx
  · rename_i n c key n' xk xw
    injection hx with hx
    subst hx
    refine ⟨by first | exact Nat.le_refl _ | exact Nat.zero_le _ | exact Nat.le_succ _, noLit rfl, (fun hw => by first | rfl | cases hw), fun _ hv => ?_⟩
    obtain ⟨rfl, rfl, hb⟩ := hv
    generalize hG : Rx.Ends (R := R) _ _ = G
    refine rx_okQ (T := []) trivial mixed 200 (q := let zz1 := Value.int IntKind.i64; At D Try.prog (codeOf Try.f19) 1 (retK Try.prog (Array.toList (Func.results Try.f19)) G) [Sum.inl [1, 1, 0, 0], Sum.inr (Sum.inl 0), Sum.inl [1, 1, 1]] (SS.mk [some (Value.slice (some (Addr.mk 0 0 (some 2000))) (List.length xk) c), some (zz1 key), none, none, some (zz1 0), some (zz1 0), none, none, none, none, none, none, none, none, none, none, none, none, none, none, none, none] [] [some (Sum.inr (Sum.inr (Sum.inl (Row.mk [zz1 0, zz1 0] (List.length xk) [Col.mk xk [] [], Col.mk xw [] []]))))])) ?_ (by kernel_rfl)
    intro zz1; subst zz1
    refine loop_atM (by kernel_rfl) (ι := Nat) (fun k => k ≤ rkC xk key) [0, 1, 5] (fun k => [.slice (some ⟨0, 0, some 2000⟩) xk.length c, .int .i64 key, .int .i64 k]) (fun k => [vE xk xw]) (fun k => rkC xk key - k) 22 (fun i hi => ⟨rfl, rfl, Nat.le_refl _⟩) ⟨0, Nat.zero_le _, ⟨[0], rfl, ⟨rfl, trivial⟩, rfl, rfl, rfl, rfl⟩⟩ fun i hi => ?_
    refine rx_okQ (T := []) trivial mixed 200 (q := let zz2 := Value.int IntKind.i64; let zz1 := (G (zz2 (↑i : Int)) [some (Sum.inr (Sum.inr (Sum.inl (Row.mk [zz2 0, zz2 0] (List.length xk) [Col.mk xk [] [], Col.mk xw [] []]))))]); (decide ((↑i : Int) < (↑(List.length xk) : Int)) = true → Vc ((0 : Int) ≤ (↑i : Int) ∧ (↑i : Int) < (↑(List.length xk) : Int) ∧ 0 + List.length xk ≤ List.length xk) ∧ Vc (0 + Int.toNat (↑i : Int) < List.length xk) ∧ (decide (List.getD xk (0 + Int.toNat (↑i : Int)) (0 : Int) < key) = true → Vc (fits ((↑i : Int) + (1 : Int))) ∧ Post (∃ j, j ≤ rkC xk key ∧ rkC xk key - j < rkC xk key - i ∧ FitsM R 1 22 [0, 1, 5] [Value.slice (some (Addr.mk 0 0 (some 2000))) (List.length xk) c, zz2 key, zz2 (↑j : Int)] [vE xk xw] [some (Value.slice (some (Addr.mk 0 0 (some 2000))) (List.length xk) c), some (zz2 key), some (zz2 ((↑i : Int) + (1 : Int)))] [some (Sum.inr (Sum.inr (Sum.inl (Row.mk [zz2 0, zz2 0] (List.length xk) [Col.mk xk [] [], Col.mk xw [] []]))))] 22)) ∧ (decide (List.getD xk (0 + Int.toNat (↑i : Int)) (0 : Int) < key) = false → Post zz1)) ∧ (decide ((↑i : Int) < (↑(List.length xk) : Int)) = false → Post zz1)) ?_ (by kernel_rfl)
    intro zz2 zz1; subst zz1 zz2
    have h1 := rkC_le xk key
    have h2 := rkC_lt xk key i
    have h3 := rkC_ge xk key
    repeat' (first | apply And.intro | apply Vc.mk | apply fits.mk | intro h | apply Post.mk)
    all_goals (try simp only [decide_eq_true_eq, decide_eq_false_iff_not, Nat.zero_add, ge_iff_le, Int.not_le, Int.not_lt, Int.toNat_natCast, beq_iff_eq, beq_eq_false_iff_ne, bne_iff_ne, bne_eq_false_iff_eq, Bool.not_eq_true', Bool.not_eq_false'] at *)
    all_goals first | contradiction | omega | (apply congrArg Value.bool; assumption) | exact congrArg Value.bool (decide_eq_true (by assumption)) | exact congrArg Value.bool (decide_eq_false (Int.not_lt.mpr (by assumption))) | exact ⟨rfl, by omega⟩ | exact rfl | (simp [*, -List.getD_eq_getElem?_getD]; done) | skip
    all_goals first
      | (subst hG; obtain rfl : i = rkC xk key := by omega
         exact ⟨[0], rfl, rfl, ⟨rfl, trivial⟩, rfl, rfl, rfl, rfl⟩)
      | (have hlt : i < rkC xk key := by
           rcases Nat.lt_or_ge i (rkC xk key) with h | h
           · exact h
           · obtain rfl : i = rkC xk key := by omega
             omega
         exact ⟨i + 1, hlt, by omega, ⟨[0], rfl, ⟨rfl, trivial⟩, rfl, rfl, rfl, rfl⟩⟩)
  · cases hx
theorem ext_getD {α : Type} {x y : List α} (d : α) (h : x.length = y.length) (h2 : ∀ i, i < x.length → x.getD i d = y.getD i d) : x = y := by
  refine List.ext_getElem h fun i h1 h3 => ?_
  have := h2 i h1
  simpa [List.getD_eq_getElem?_getD, h1, h3] using this
def sameC (xk xw yk yw : List Int) : Bool := decide (xk = yk ∧ xw = yw)
def sameP {R : Type} : Prim R := fun args hh => match args, hh with
  | [.slice (some ⟨0, 0, some 2000⟩) n c, .slice (some ⟨1, 0, some 2000⟩) m c'], [some (.inr (.inr (.inl ⟨[.int .i64 0, .int .i64 0], n', [⟨xk, [], []⟩, ⟨xw, [], []⟩]⟩))), some (.inr (.inr (.inl ⟨[.int .i64 0, .int .i64 0], m', [⟨yk, [], []⟩, ⟨yw, [], []⟩]⟩)))] => some ⟨n = xk.length ∧ n' = xk.length ∧ xw.length = xk.length ∧ m = yk.length ∧ m' = yk.length ∧ yw.length = yk.length ∧ xk.length ≤ 1000000, .bool (sameC xk xw yk yw), none, hh, [], []⟩
  | _, _ => none
theorem same_ok {R : Type} {D : Res R} : ConOk D Try.prog 47 (con1 sameP) := by
  refine con1_ok (prim_at (fn := Try.f47) (root := codeOf Try.f47) (by kernel_rfl) (by kernel_rfl) (by kernel_rfl) fun args hh x hx => ?_)
  unfold sameP at hx
  split at hx
  · rename_i n c m c' n' xk xw m' yk yw
    injection hx with hx
    subst hx
    refine ⟨by first | exact Nat.le_refl _ | exact Nat.zero_le _ | exact Nat.le_succ _, noLit rfl, (fun hw => by first | rfl | cases hw), fun _ hv => ?_⟩
    obtain ⟨rfl, rfl, hxw, rfl, rfl, hyw, hb⟩ := hv
    generalize hG : Rx.Ends (R := R) _ _ = G
    refine rx_okQ (T := []) trivial mixed 200 (q := let zz3 := Value.int IntKind.i64; let zz1 := (Value.slice (some (Addr.mk 0 0 (some 2000))) (List.length xk) c); let zz2 := (Value.slice (some (Addr.mk 1 0 (some 2000))) (List.length yk) c'); (((↑(List.length xk) : Int) != (↑(List.length yk) : Int)) = true → Post (G (Value.bool false) [some (Sum.inr (Sum.inr (Sum.inl (Row.mk [zz3 0, zz3 0] (List.length xk) [Col.mk xk [] [], Col.mk xw [] []])))), some (Sum.inr (Sum.inr (Sum.inl (Row.mk [zz3 0, zz3 0] (List.length yk) [Col.mk yk [] [], Col.mk yw [] []]))))])) ∧ (((↑(List.length xk) : Int) != (↑(List.length yk) : Int)) = false → At D Try.prog (codeOf Try.f47) 2 (retK Try.prog (Array.toList (Func.results Try.f47)) G) [Sum.inl [1, 1, 0, 1, 0], Sum.inr (Sum.inl 0), Sum.inl [1, 1, 1]] (SS.mk [some zz1, some zz2, none, none, some (Value.bool false), some (zz3 0), some zz1, some (zz3 (↑(List.length xk) : Int)), some zz2, some (zz3 (↑(List.length yk) : Int)), some (Value.bool false), none, none, none, none, none, none, none, none, none, none, none, none, none, none, none] [(10, false), (4, false)] [some (Sum.inr (Sum.inr (Sum.inl (Row.mk [zz3 0, zz3 0] (List.length xk) [Col.mk xk [] [], Col.mk xw [] []])))), some (Sum.inr (Sum.inr (Sum.inl (Row.mk [zz3 0, zz3 0] (List.length yk) [Col.mk yk [] [], Col.mk yw [] []]))))]))) ?_ (by kernel_rfl)
    intro zz3 zz1 zz2; subst zz2 zz1 zz3
    refine ⟨fun h => ?_, fun h => ?_⟩
    · have h0 : ¬ xk.length = yk.length := by simp at h; omega
      subst hG
      have e : sameC xk xw yk yw = false := decide_eq_false fun h => h0 (by rw [h.1])
      rw [e]
      exact ⟨⟨[0, 1], rfl, rfl, ⟨rfl, rfl, trivial⟩, rfl, rfl, rfl, rfl⟩⟩
    · have h0 : xk.length = yk.length := by simp at h; omega
      refine loop_atM (by kernel_rfl) (ι := Nat) (fun i => i ≤ xk.length ∧ ∀ j, j < i → xk.getD j 0 = yk.getD j 0 ∧ xw.getD j 0 = yw.getD j 0) [0, 1, 5] (fun i => [.slice (some ⟨0, 0, some 2000⟩) xk.length c, .slice (some ⟨1, 0, some 2000⟩) yk.length c', .int .i64 i]) (fun i => [vE xk xw, vE yk yw]) (fun i => xk.length - i) 26 (fun i hi => ⟨rfl, rfl, Nat.le_refl _⟩) ⟨0, ⟨Nat.zero_le _, fun j hj => by omega⟩, ⟨[0, 1], rfl, ⟨rfl, rfl, trivial⟩, rfl, rfl, rfl, rfl⟩⟩ fun i hi => ?_
      refine rx_okQ (T := []) trivial mixed 200 (q := let zz3 := Value.int IntKind.i64; let zz1 := (List.getD xw (0 + Int.toNat (↑i : Int)) (0 : Int) == List.getD yw (0 + Int.toNat (↑i : Int)) (0 : Int) && true); let zz2 := (if true = true then !(List.getD xk (0 + Int.toNat (↑i : Int)) (0 : Int) == List.getD yk (0 + Int.toNat (↑i : Int)) (0 : Int) && zz1) else List.getD xk (0 + Int.toNat (↑i : Int)) (0 : Int) == List.getD yk (0 + Int.toNat (↑i : Int)) (0 : Int) && zz1); (decide ((↑i : Int) < (↑(List.length xk) : Int)) = true → Vc ((0 : Int) ≤ (↑i : Int) ∧ (↑i : Int) < (↑(List.length xk) : Int) ∧ 0 + List.length xk ≤ List.length xk) ∧ Vc (0 + Int.toNat (↑i : Int) < List.length xk) ∧ Vc ((0 : Int) ≤ (↑i : Int) ∧ (↑i : Int) < (↑(List.length yk) : Int) ∧ 0 + List.length yk ≤ List.length yk) ∧ Vc (0 + Int.toNat (↑i : Int) < List.length yk) ∧ (zz2 = true → Post (G (Value.bool false) [some (Sum.inr (Sum.inr (Sum.inl (Row.mk [zz3 0, zz3 0] (List.length xk) [Col.mk xk [] [], Col.mk xw [] []])))), some (Sum.inr (Sum.inr (Sum.inl (Row.mk [zz3 0, zz3 0] (List.length yk) [Col.mk yk [] [], Col.mk yw [] []]))))])) ∧ (zz2 = false → Vc (fits ((↑i : Int) + (1 : Int))) ∧ Post (∃ j, (j ≤ List.length xk ∧ ∀ (j_1 : Nat), j_1 < j → List.getD xk j_1 (0 : Int) = List.getD yk j_1 (0 : Int) ∧ List.getD xw j_1 (0 : Int) = List.getD yw j_1 (0 : Int)) ∧ List.length xk - j < List.length xk - i ∧ FitsM R 2 26 [0, 1, 5] [Value.slice (some (Addr.mk 0 0 (some 2000))) (List.length xk) c, Value.slice (some (Addr.mk 1 0 (some 2000))) (List.length yk) c', zz3 (↑j : Int)] [vE xk xw, vE yk yw] [some (Value.slice (some (Addr.mk 0 0 (some 2000))) (List.length xk) c), some (Value.slice (some (Addr.mk 1 0 (some 2000))) (List.length yk) c'), some (zz3 ((↑i : Int) + (1 : Int)))] [some (Sum.inr (Sum.inr (Sum.inl (Row.mk [zz3 0, zz3 0] (List.length xk) [Col.mk xk [] [], Col.mk xw [] []])))), some (Sum.inr (Sum.inr (Sum.inl (Row.mk [zz3 0, zz3 0] (List.length yk) [Col.mk yk [] [], Col.mk yw [] []]))))] 26))) ∧ (decide ((↑i : Int) < (↑(List.length xk) : Int)) = false → Post (G (Value.bool true) [some (Sum.inr (Sum.inr (Sum.inl (Row.mk [zz3 0, zz3 0] (List.length xk) [Col.mk xk [] [], Col.mk xw [] []])))), some (Sum.inr (Sum.inr (Sum.inl (Row.mk [zz3 0, zz3 0] (List.length yk) [Col.mk yk [] [], Col.mk yw [] []]))))]))) ?_ (by kernel_rfl)
      intro zz3 zz1 zz2; subst zz2 zz1 zz3
      obtain ⟨hi1, hi2⟩ := hi
      have no : i < xk.length → ¬ (xk.getD i 0 = yk.getD i 0 ∧ xw.getD i 0 = yw.getD i 0) → sameC xk xw yk yw = false := fun h1 h2 => decide_eq_false fun h => h2 ⟨by rw [h.1], by rw [h.2]⟩
      repeat' (first | apply And.intro | apply Vc.mk | apply fits.mk | intro h | apply Post.mk)
      all_goals (try simp only [decide_eq_true_eq, decide_eq_false_iff_not, Nat.zero_add, ge_iff_le, Int.not_le, Int.not_lt, Int.toNat_natCast, beq_iff_eq, beq_eq_false_iff_ne, bne_iff_ne, bne_eq_false_iff_eq, Bool.not_eq_true', Bool.not_eq_false'] at *)
      all_goals first | contradiction | omega | (apply congrArg Value.bool; assumption) | exact congrArg Value.bool (decide_eq_true (by assumption)) | exact congrArg Value.bool (decide_eq_false (Int.not_lt.mpr (by assumption))) | exact ⟨rfl, by omega⟩ | exact rfl | (simp [*, -List.getD_eq_getElem?_getD]; done) | skip
      all_goals first
        | (have hc := h
           simp [-List.getD_eq_getElem?_getD] at hc
           subst hG
           rw [no (by omega) (by omega)]
           exact ⟨[0, 1], rfl, rfl, ⟨rfl, rfl, trivial⟩, rfl, rfl, rfl, rfl⟩)
        | (have hc := h
           simp [-List.getD_eq_getElem?_getD] at hc
           refine ⟨i + 1, ⟨by omega, fun j hj => ?_⟩, by omega, ⟨[0, 1], rfl, ⟨rfl, rfl, trivial⟩, rfl, rfl, rfl, rfl⟩⟩
           rcases Nat.lt_or_ge j i with h | h
           · exact hi2 j h
           · rw [show j = i by omega]; exact hc)
        | (obtain rfl : i = xk.length := by omega
           have e : sameC xk xw yk yw = true := decide_eq_true ⟨ext_getD 0 h0 fun j hj => (hi2 j hj).1, ext_getD 0 (by omega) fun j hj => (hi2 j (by omega)).2⟩
           subst hG
           rw [e]
           exact ⟨[0, 1], rfl, rfl, ⟨rfl, rfl, trivial⟩, rfl, rfl, rfl, rfl⟩)
  · cases hx
def wsP {R : Type} : Prim R := fun args hh => match args, hh with
  | [.slice (some ⟨0, 0, some 2000⟩) n c, .int .i64 f_, .int .i64 u], [some (.inr (.inr (.inl ⟨[.int .i64 0, .int .i64 0], n', [⟨xk, [], []⟩, ⟨xw, [], []⟩]⟩)))] => some ⟨n = xk.length ∧ n' = xk.length ∧ xw.length = xk.length ∧ xk.length ≤ 100000, .slice (some ⟨1, 0, some 1000⟩) (Gv.sub xw f_.toNat u.toNat).length 0, none, [some (.inr (.inr (.inl ⟨[.int .i64 0, .int .i64 0], n', [⟨xk, [], []⟩, ⟨xw, [], []⟩]⟩))), some (.inr (.inl (3, ⟨[.int .i64 0], (Gv.sub xw f_.toNat u.toNat).length, [⟨Gv.sub xw f_.toNat u.toNat, [], []⟩]⟩)))], [], [(0, 0)]⟩
  | _, _ => none
theorem ws_ok {R : Type} {D : Res R} : ConOk D Try.prog 23 (con1 wsP) := by
  refine con1_ok (prim_at (fn := Try.f23) (root := codeOf Try.f23) (by kernel_rfl) (by kernel_rfl) (by kernel_rfl) fun args hh x hx => ?_)
  unfold wsP at hx
  split at hx
  · rename_i n c f_ u n' xk xw
    injection hx with hx
    subst hx
    refine ⟨by first | exact Nat.le_refl _ | exact Nat.zero_le _ | exact Nat.le_succ _, noLit rfl, (fun hw => by first | rfl | cases hw), fun _ hv => ?_⟩
    obtain ⟨rfl, rfl, hxw, hb⟩ := hv
    generalize hG : Rx.Ends (R := R) _ _ = G
    refine rx_okQ (T := []) trivial mixed 200 (q := let zz2 := Value.int IntKind.i64; let zz1 := (zz2 (if (0 : Int) > f_ then (0 : Int) else f_)); At D Try.prog (codeOf Try.f23) 1 (retK Try.prog (Array.toList (Func.results Try.f23)) G) [Sum.inl [1, 1, 0, 1, 0], Sum.inr (Sum.inl 0), Sum.inl [1, 1, 1]] (SS.mk [some (Value.slice (some (Addr.mk 0 0 (some 2000))) (List.length xk) c), some (zz2 f_), some (zz2 u), none, none, none, some (Value.slice (some (Addr.mk 1 0 (some 1000))) 0 0), some (Value.slice (some (Addr.mk 2 0 (some 1000))) 0 0), some zz1, some (zz2 f_), some zz1, none, none, none, none, none, none, none, none, none, none, none, none, none, none, none, none, none, none, none, none] [] [some (Sum.inr (Sum.inr (Sum.inl (Row.mk [zz2 0, zz2 0] (List.length xk) [Col.mk xk [] [], Col.mk xw [] []])))), some (Sum.inr (Sum.inl (3, Row.mk [zz2 0] 0 [Col.mk [] [] []]))), some (Sum.inr (Sum.inl (3, Row.mk [zz2 0] 0 [Col.mk [] [] []])))])) ?_ (by kernel_rfl)
    intro zz2 zz1; subst zz1 zz2
    have e0 : ∀ p : Int, (if 0 > p then 0 else p) = max p 0 := fun p => by split <;> omega
    rw [e0]
    refine loop_atM (by kernel_rfl) (ι := Nat) (fun j => j ≤ (Gv.sub xw f_.toNat u.toNat).length) [0, 1, 2, 7, 8] (fun j => [.slice (some ⟨0, 0, some 2000⟩) xk.length c, .int .i64 f_, .int .i64 u, .slice (some ⟨1, 0, some 1000⟩) j 0, .int .i64 (max f_ 0 + j)]) (fun j => [vE xk xw, some (.inr (.inl (3, ⟨[.int .i64 0], j, [⟨(Gv.sub xw f_.toNat u.toNat).take j, [], []⟩]⟩)))]) (fun j => (Gv.sub xw f_.toNat u.toNat).length - j) 31 (fun i hi => ⟨rfl, rfl, by simp⟩) ⟨0, Nat.zero_le _, ⟨[0, 2], by simp only [Int.natCast_zero, Int.add_zero]; rfl, ⟨rfl, ⟨_, rfl, .inl rfl⟩, trivial⟩, rfl, rfl, rfl, rfl⟩⟩ fun i hi => ?_
    refine rx_okQ (T := []) trivial mixed 200 (q := let zz2 := Value.int IntKind.i64; let zz1 := (Gv.sub xw (Int.toNat f_) (Int.toNat u)); (decide (max f_ (0 : Int) + (↑i : Int) < (↑(List.length xk) : Int)) = true → (decide (max f_ (0 : Int) + (↑i : Int) < u) = true → Vc ((0 : Int) ≤ max f_ (0 : Int) + (↑i : Int) ∧ max f_ (0 : Int) + (↑i : Int) < (↑(List.length xk) : Int) ∧ 0 + List.length xk ≤ List.length xk) ∧ Vc (0 + Int.toNat (max f_ (0 : Int) + (↑i : Int)) < List.length xk) ∧ Vc (0 + i ≤ i ∧ 1 ≤ 1 ∧ (i + 1) * 8 ≤ 140737488355328 ∧ i + 1 ≤ 140737488355328) ∧ Vc (fits (max f_ (0 : Int) + (↑i : Int) + (1 : Int))) ∧ Post (∃ j, j ≤ List.length zz1 ∧ List.length zz1 - j < List.length zz1 - i ∧ FitsM R 1 31 [0, 1, 2, 7, 8] [Value.slice (some (Addr.mk 0 0 (some 2000))) (List.length xk) c, zz2 f_, zz2 u, Value.slice (some (Addr.mk 1 0 (some 1000))) j 0, zz2 (max f_ (0 : Int) + (↑j : Int))] [vE xk xw, some (Sum.inr (Sum.inl ((3 : TypeId), Row.mk [zz2 0] j [Col.mk (List.take j zz1) [] []])))] [some (Value.slice (some (Addr.mk 0 0 (some 2000))) (List.length xk) c), some (zz2 f_), some (zz2 u), some (Value.slice (some (Addr.mk 3 0 (some 1000))) (i + 1) 0), some (zz2 (max f_ (0 : Int) + (↑i : Int) + (1 : Int)))] [some (Sum.inr (Sum.inr (Sum.inl (Row.mk [zz2 0, zz2 0] (List.length xk) [Col.mk xk [] [], Col.mk xw [] []])))), none, some (Sum.inr (Sum.inl (3, Row.mk [zz2 0] 1 [Col.mk [List.getD xw (0 + Int.toNat (max f_ (0 : Int) + (↑i : Int))) (0 : Int)] [] []]))), some (Sum.inr (Sum.inl (3, Row.mk [zz2 0] (i + 1) [Col.mk (cut (List.take i zz1) 0 i ++ cut [List.getD xw (0 + Int.toNat (max f_ (0 : Int) + (↑i : Int))) (0 : Int)] 0 1) [] []])))] 31)) ∧ (decide (max f_ (0 : Int) + (↑i : Int) < u) = false → Post (G (Value.slice (some (Addr.mk 1 0 (some 1000))) i 0) [some (Sum.inr (Sum.inr (Sum.inl (Row.mk [zz2 0, zz2 0] (List.length xk) [Col.mk xk [] [], Col.mk xw [] []])))), some (Sum.inr (Sum.inl (3, Row.mk [zz2 0] i [Col.mk (List.take i zz1) [] []])))]))) ∧ (decide (max f_ (0 : Int) + (↑i : Int) < (↑(List.length xk) : Int)) = false → Post (G (Value.slice (some (Addr.mk 1 0 (some 1000))) i 0) [some (Sum.inr (Sum.inr (Sum.inl (Row.mk [zz2 0, zz2 0] (List.length xk) [Col.mk xk [] [], Col.mk xw [] []])))), some (Sum.inr (Sum.inl (3, Row.mk [zz2 0] i [Col.mk (List.take i zz1) [] []])))]))) ?_ (by kernel_rfl)
    intro zz2 zz1; subst zz1 zz2
    have hl : (Gv.sub xw f_.toNat u.toNat).length = min (u.toNat - f_.toNat) (xw.length - f_.toNat) := by unfold Gv.sub; simp
    have hg : ∀ j, j < (Gv.sub xw f_.toNat u.toNat).length → (Gv.sub xw f_.toNat u.toNat).take j ++ [xw.getD (max f_ 0 + (j : Int)).toNat 0] = (Gv.sub xw f_.toNat u.toNat).take (j + 1) := fun j hj => by
      rw [take_succ_getD 0 hj]
      have : (max f_ 0 + (j : Int)).toNat = f_.toNat + j := by omega
      rw [this]
      unfold Gv.sub
      have hj2 : j < u.toNat - f_.toNat := by omega
      simp [List.getD_eq_getElem?_getD, List.getElem?_take, hj2]
    repeat' (first | apply And.intro | apply Vc.mk | apply fits.mk | intro h | apply Post.mk)
    all_goals (try simp only [decide_eq_true_eq, decide_eq_false_iff_not, Nat.zero_add, ge_iff_le, Int.not_le, Int.not_lt, Int.toNat_natCast, beq_iff_eq, beq_eq_false_iff_ne, bne_iff_ne, bne_eq_false_iff_eq, Bool.not_eq_true', Bool.not_eq_false'] at *)
    all_goals first | contradiction | omega | (apply congrArg Value.bool; assumption) | exact congrArg Value.bool (decide_eq_true (by assumption)) | exact congrArg Value.bool (decide_eq_false (Int.not_lt.mpr (by assumption))) | exact ⟨rfl, by omega⟩ | exact rfl | (simp [*, -List.getD_eq_getElem?_getD]; done) | skip
    all_goals first
      | (have hi4 : i < (Gv.sub xw f_.toNat u.toNat).length := by omega
         have c1 : cut ((Gv.sub xw f_.toNat u.toNat).take i) 0 i = (Gv.sub xw f_.toNat u.toNat).take i := cut_eq (by simp; omega)
         have c2 : ∀ v : Int, cut [v] 0 1 = [v] := fun v => rfl
         simp only [c1, c2, hg i hi4]
         exact ⟨i + 1, hi4, by omega, ⟨[0, 3], by rw [Int.add_assoc]; rfl, ⟨rfl, ⟨_, rfl, .inl rfl⟩, trivial⟩, rfl, rfl, rfl, rfl⟩⟩)
      | (obtain rfl : i = (Gv.sub xw f_.toNat u.toNat).length := by omega
         subst hG
         rw [List.take_length]
         exact ⟨[0, 1], rfl, rfl, ⟨rfl, ⟨_, rfl, .inl rfl⟩, trivial⟩, rfl, rfl, rfl, rfl⟩)
  · cases hx
def sumP {R : Type} : Prim R := fun args hh => match args, hh with
  | [.slice (some ⟨0, 0, some 1000⟩) n c, .int .i64 k], [some (.inr (.inr (.inl ⟨[.int .i64 0], n', [⟨x, [], []⟩]⟩)))] => some ⟨n = x.length ∧ n' = x.length ∧ Mild x ∧ 0 ≤ k ∧ k ≤ x.length, .int .i64 (Ti.psum x k.toNat), none, hh, [], []⟩
  | _, _ => none
theorem sum_ok {R : Type} {D : Res R} : ConOk D Try.prog 25 (con1 sumP) := by
  refine con1_ok (prim_at (fn := Try.f25) (root := codeOf Try.f25) (by kernel_rfl) (by kernel_rfl) (by kernel_rfl) fun args hh x hx => ?_)
  unfold sumP at hx
  split at hx
  · rename_i n c k n' x
    injection hx with hx
    subst hx
    refine ⟨by first | exact Nat.le_refl _ | exact Nat.zero_le _ | exact Nat.le_succ _, noLit rfl, (fun hw => by first | rfl | cases hw), fun _ hv => ?_⟩
    obtain ⟨rfl, rfl, hx, hk0, hk⟩ := hv
    generalize hG : Rx.Ends (R := R) _ _ = G
    refine rx_okQ (T := []) trivial mixed 200 (q := let zz1 := Value.int IntKind.i64; At D Try.prog (codeOf Try.f25) 1 (retK Try.prog (Array.toList (Func.results Try.f25)) G) [Sum.inl [1, 1, 0, 1, 0], Sum.inr (Sum.inl 0), Sum.inl [1, 1, 1]] (SS.mk [some (Value.slice (some (Addr.mk 0 0 (some 1000))) (List.length x) c), some (zz1 k), none, none, some (zz1 0), some (zz1 0), some (zz1 0), none, none, none, none, none, none, none, none, none, none, none, none] [] [some (Sum.inr (Sum.inr (Sum.inl (Row.mk [zz1 0] (List.length x) [Col.mk x [] []]))))])) ?_ (by kernel_rfl)
    intro zz1; subst zz1
    refine loop_atM (by kernel_rfl) (ι := Nat) (fun i => i ≤ k.toNat) [0, 1, 5, 6] (fun i => [.slice (some ⟨0, 0, some 1000⟩) x.length c, .int .i64 k, .int .i64 (Ti.psum x i), .int .i64 i]) (fun i => [Ti.vI x]) (fun i => k.toNat - i) 19 (fun i hi => ⟨rfl, rfl, Nat.le_refl _⟩) ⟨0, Nat.zero_le _, ⟨[0], rfl, ⟨rfl, trivial⟩, rfl, rfl, rfl, rfl⟩⟩ fun i hi => ?_
    refine rx_okQ (T := []) trivial mixed 200 (q := let zz2 := Value.int IntKind.i64; let zz1 := (Ti.psum x i + List.getD x (0 + Int.toNat (↑i : Int)) (0 : Int)); (decide ((↑i : Int) < k) = true → Vc ((0 : Int) ≤ (↑i : Int) ∧ (↑i : Int) < (↑(List.length x) : Int) ∧ 0 + List.length x ≤ List.length x) ∧ Vc (0 + Int.toNat (↑i : Int) < List.length x) ∧ Vc (fits zz1) ∧ Vc (fits ((↑i : Int) + (1 : Int))) ∧ Post (∃ j, j ≤ Int.toNat k ∧ Int.toNat k - j < Int.toNat k - i ∧ FitsM R 1 19 [0, 1, 5, 6] [Value.slice (some (Addr.mk 0 0 (some 1000))) (List.length x) c, zz2 k, zz2 (Ti.psum x j), zz2 (↑j : Int)] [Ti.vI x] [some (Value.slice (some (Addr.mk 0 0 (some 1000))) (List.length x) c), some (zz2 k), some (zz2 zz1), some (zz2 ((↑i : Int) + (1 : Int)))] [some (Sum.inr (Sum.inr (Sum.inl (Row.mk [zz2 0] (List.length x) [Col.mk x [] []]))))] 19)) ∧ (decide ((↑i : Int) < k) = false → Post (G (zz2 (Ti.psum x i)) [some (Sum.inr (Sum.inr (Sum.inl (Row.mk [zz2 0] (List.length x) [Col.mk x [] []]))))]))) ?_ (by kernel_rfl)
    intro zz2 zz1; subst zz1 zz2
    refine ⟨fun h => ?_, fun h => ?_⟩
    · have hlt : (i : Int) < k := of_decide_eq_true h
      have e0 : 0 + (i : Int).toNat = i := by omega
      have b1 := hx.psum9 i (by omega)
      have b2 := hx.b _ (getD_mem (d := 0) (show i < x.length by omega))
      have b4 := hx.len
      rw [e0]
      refine ⟨⟨by omega, by omega, by omega⟩, ⟨by omega⟩, ⟨⟨by omega, by omega⟩⟩, ⟨⟨by omega, by omega⟩⟩, ⟨i + 1, by omega, by omega, ⟨[0], ?_, ⟨rfl, trivial⟩, rfl, rfl, rfl, rfl⟩⟩⟩
      rw [← Ti.psum_succ (by omega)]
      rfl
    · have hlt : ¬ (i : Int) < k := of_decide_eq_false h
      obtain rfl : k = (i : Int) := by omega
      subst hG
      exact ⟨⟨⟨[0], rfl, rfl, ⟨rfl, trivial⟩, rfl, rfl, rfl, rfl⟩⟩⟩
  · cases hx
def hitC (xk : List Int) (key : Int) : Bool := decide (rkC xk key < xk.length) && decide (xk.getD (rkC xk key) 0 = key)
def putC (x : List Int) (r : Nat) (hit : Bool) (v : Int) : List Int := x.take r ++ v :: x.drop (if hit then r + 1 else r)
theorem cut_drop {x : List Int} {a b : Nat} (h : x.length ≤ a + b) : cut x a b = x.drop a := by
  unfold cut
  exact List.take_of_length_le (by simp; omega)
theorem put_rowA {x : List Int} {r : Nat} (v : Int) (h : r ≤ x.length) : cut (cut ([] ++ cut x 0 r) 0 r ++ cut [v] 0 1) 0 (r + 1) = x.take r ++ [v] := by
  have h1 : cut ([] ++ cut x 0 r) 0 r = x.take r := by unfold cut; simp [List.take_take]
  rw [h1, show cut [v] 0 1 = [v] from rfl]
  exact cut_eq (by simp; omega)
theorem put_row1 {x : List Int} {r L : Nat} {v : Int} (hL : x.length = L) (h : r < L) : cut (cut ([] ++ cut x 0 r) 0 r ++ cut [v] 0 1) 0 (r + 1) ++ cut x ((r : Int) + 1).toNat ((L : Int) - ((r : Int) + 1)).toNat = putC x r true v := by
  rw [put_rowA v (by omega), cut_drop (by omega), show ((r : Int) + 1).toNat = r + 1 by omega]
  unfold putC
  simp
theorem put_row0 {x : List Int} {r L : Nat} {v : Int} (hL : x.length = L) (h : r ≤ L) : cut (cut ([] ++ cut x 0 r) 0 r ++ cut [v] 0 1) 0 (r + 1) ++ cut x r ((L : Int) - (r : Int)).toNat = putC x r false v := by
  rw [put_rowA v (by omega), cut_drop (by omega)]
  unfold putC
  simp
theorem put_len1 {x : List Int} {r L : Nat} {v : Int} (hL : x.length = L) (h : r < L) : r + 1 + ((L : Int) - ((r : Int) + 1)).toNat = (putC x r true v).length := by
  unfold putC
  simp
  omega
theorem put_len0 {x : List Int} {r L : Nat} {v : Int} (hL : x.length = L) (h : r ≤ L) : r + 1 + ((L : Int) - (r : Int)).toNat = (putC x r false v).length := by
  unfold putC
  simp
  omega
def TR7 {R : Type} : Tab R := [(19, liftV Ti.z0 2 (con1 rankP))]
theorem TR7_ok {R : Type} {D : Res R} : TabOk D Try.prog TR7 := ⟨liftV_ok _ _ rank_ok, trivial⟩
def putVP {R : Type} : Prim R := fun args hh => match args, hh with
  | [.slice (some ⟨0, 0, some 2000⟩) n c, .agg ⟨[.int .i64 k0, .int .i64 k1]⟩, .int .i64 most], [some (.inr (.inr (.inl ⟨[.int .i64 0, .int .i64 0], n', [⟨xk, [], []⟩, ⟨xw, [], []⟩]⟩)))] => some ⟨n = xk.length ∧ n' = xk.length ∧ xw.length = xk.length ∧ xk.length ≤ 100000 ∧ (hitC xk k0 = true ∨ (xk.length : Int) < most), .tuple ⟨[.slice (some ⟨1, 0, some 2000⟩) (putC xk (rkC xk k0) (hitC xk k0) k0).length 0, .bool true]⟩, none, [some (.inr (.inr (.inl ⟨[.int .i64 0, .int .i64 0], n', [⟨xk, [], []⟩, ⟨xw, [], []⟩]⟩))), some (.inr (.inl (38, ⟨[.int .i64 0, .int .i64 0], (putC xk (rkC xk k0) (hitC xk k0) k0).length, [⟨putC xk (rkC xk k0) (hitC xk k0) k0, [], []⟩, ⟨putC xw (rkC xk k0) (hitC xk k0) k1, [], []⟩]⟩)))], [], [(0, 0)]⟩
  | _, _ => none
theorem putV_ok {R : Type} {D : Res R} : ConOk D Try.prog 14 (con1 putVP) := by
  refine con1_ok (prim_at (fn := Try.f14) (root := codeOf Try.f14) (by kernel_rfl) (by kernel_rfl) (by kernel_rfl) fun args hh x hx => ?_)
  unfold putVP at hx
  split at hx
  · rename_i n c k0 k1 most n' xk xw
    injection hx with hx
    subst hx
    refine ⟨by first | exact Nat.le_refl _ | exact Nat.zero_le _ | exact Nat.le_succ _, noLit rfl, (fun hw => by first | rfl | cases hw), fun _ hv => ?_⟩
    obtain ⟨rfl, rfl, hxw, hb, hr⟩ := hv
    generalize hG : Rx.Ends (R := R) _ _ = G
    refine rx_okQ (T := TR7) TR7_ok mixed 200 (q := let zz6 := Value.int IntKind.i64; let zz1 := (cut xk 0 (List.length xk)); let zz2 := (↑(rkC zz1 k0) : Int); let zz3 := (↑(List.length xk) : Int); let zz4 := (cut ([] ++ cut xk 0 (Int.toNat zz2)) 0 (0 + Int.toNat zz2) ++ cut [k0] 0 1); let zz5 := (cut ([] ++ cut xw 0 (Int.toNat zz2)) 0 (0 + Int.toNat zz2) ++ cut [k1] 0 1); Vc ((0 + List.length xk ≤ List.length xk ∧ True) ∧ List.length xk = List.length zz1 ∧ List.length xk = List.length zz1 ∧ List.length zz1 ≤ 1000000) ∧ Vc ((0 : Int) ≤ zz2 ∧ zz2 ≤ zz3 ∧ 0 + List.length xk ≤ List.length xk) ∧ Vc (0 ≤ 0 ∧ 0 + Int.toNat zz2 ≤ List.length xk ∧ (0 + Int.toNat zz2) * 16 ≤ 140737488355328 ∧ 0 + Int.toNat zz2 ≤ 140737488355328) ∧ (decide (zz2 < zz3) = true → Vc (Value.bool (decide (zz2 < zz3)) = Value.bool true) ∧ Vc ((0 : Int) ≤ zz2 ∧ zz2 < zz3 ∧ 0 + List.length xk ≤ List.length xk) ∧ Vc (0 + Int.toNat zz2 < List.length xk) ∧ ((List.getD xk (0 + Int.toNat zz2) (0 : Int) == k0) = true → Vc (0 + (0 + Int.toNat zz2) ≤ 0 + Int.toNat zz2 ∧ 1 ≤ 1 ∧ (0 + Int.toNat zz2 + 1) * 16 ≤ 140737488355328 ∧ 0 + Int.toNat zz2 + 1 ≤ 140737488355328) ∧ Vc (fits (zz2 + (1 : Int))) ∧ Vc (0 = 0 ∧ (0 : Int) ≤ zz2 + (1 : Int) ∧ zz2 + (1 : Int) ≤ zz3 ∧ zz3 ≤ zz3 ∧ 0 + List.length xk ≤ List.length xk) ∧ Vc (0 + (0 + Int.toNat zz2 + 1) ≤ 0 + Int.toNat zz2 + 1 ∧ 0 + Int.toNat (zz2 + (1 : Int)) + Int.toNat (zz3 - (zz2 + (1 : Int))) ≤ List.length xk ∧ (0 + Int.toNat zz2 + 1 + Int.toNat (zz3 - (zz2 + (1 : Int)))) * 16 ≤ 140737488355328 ∧ 0 + Int.toNat zz2 + 1 + Int.toNat (zz3 - (zz2 + (1 : Int))) ≤ 140737488355328) ∧ Post (G (Value.tuple (Array.mk [Value.slice (some (Addr.mk 7 0 (some 2000))) (0 + Int.toNat zz2 + 1 + Int.toNat (zz3 - (zz2 + (1 : Int)))) 0, Value.bool true])) [some (Sum.inr (Sum.inr (Sum.inl (Row.mk [zz6 0, zz6 0] (List.length xk) [Col.mk xk [] [], Col.mk xw [] []])))), some (Sum.inl (38, [zz6 k0, zz6 k1])), some (Sum.inr (Sum.inl (38, Row.mk [zz6 0, zz6 0] 0 [Col.mk [] [] [], Col.mk [] [] []]))), none, none, some (Sum.inr (Sum.inl (38, Row.mk [zz6 0, zz6 0] 1 [Col.mk [k0] [] [], Col.mk [k1] [] []]))), none, some (Sum.inr (Sum.inl (38, Row.mk [zz6 0, zz6 0] (0 + Int.toNat zz2 + 1 + Int.toNat (zz3 - (zz2 + (1 : Int)))) [Col.mk (cut zz4 0 (0 + Int.toNat zz2 + 1) ++ cut xk (0 + Int.toNat (zz2 + (1 : Int))) (Int.toNat (zz3 - (zz2 + (1 : Int))))) [] [], Col.mk (cut zz5 0 (0 + Int.toNat zz2 + 1) ++ cut xw (0 + Int.toNat (zz2 + (1 : Int))) (Int.toNat (zz3 - (zz2 + (1 : Int))))) [] []])))])) ∧ ((List.getD xk (0 + Int.toNat zz2) (0 : Int) == k0) = false → (decide (zz3 ≥ most) = true → Post (G (Value.tuple (Array.mk [Value.slice (some (Addr.mk 0 0 (some 2000))) (List.length xk) c, Value.bool false])) [some (Sum.inr (Sum.inr (Sum.inl (Row.mk [zz6 0, zz6 0] (List.length xk) [Col.mk xk [] [], Col.mk xw [] []])))), some (Sum.inl (38, [zz6 k0, zz6 k1])), some (Sum.inr (Sum.inl (38, Row.mk [zz6 0, zz6 0] 0 [Col.mk [] [] [], Col.mk [] [] []]))), none, some (Sum.inr (Sum.inl (38, Row.mk [zz6 0, zz6 0] (0 + Int.toNat zz2) [Col.mk ([] ++ cut xk 0 (Int.toNat zz2)) [] [], Col.mk ([] ++ cut xw 0 (Int.toNat zz2)) [] []])))])) ∧ (decide (zz3 ≥ most) = false → Vc (0 + (0 + Int.toNat zz2) ≤ 0 + Int.toNat zz2 ∧ 1 ≤ 1 ∧ (0 + Int.toNat zz2 + 1) * 16 ≤ 140737488355328 ∧ 0 + Int.toNat zz2 + 1 ≤ 140737488355328) ∧ Vc (0 = 0 ∧ (0 : Int) ≤ zz2 ∧ zz2 ≤ zz3 ∧ zz3 ≤ zz3 ∧ 0 + List.length xk ≤ List.length xk) ∧ Vc (0 + (0 + Int.toNat zz2 + 1) ≤ 0 + Int.toNat zz2 + 1 ∧ 0 + Int.toNat zz2 + Int.toNat (zz3 - zz2) ≤ List.length xk ∧ (0 + Int.toNat zz2 + 1 + Int.toNat (zz3 - zz2)) * 16 ≤ 140737488355328 ∧ 0 + Int.toNat zz2 + 1 + Int.toNat (zz3 - zz2) ≤ 140737488355328) ∧ Post (G (Value.tuple (Array.mk [Value.slice (some (Addr.mk 7 0 (some 2000))) (0 + Int.toNat zz2 + 1 + Int.toNat (zz3 - zz2)) 0, Value.bool true])) [some (Sum.inr (Sum.inr (Sum.inl (Row.mk [zz6 0, zz6 0] (List.length xk) [Col.mk xk [] [], Col.mk xw [] []])))), some (Sum.inl (38, [zz6 k0, zz6 k1])), some (Sum.inr (Sum.inl (38, Row.mk [zz6 0, zz6 0] 0 [Col.mk [] [] [], Col.mk [] [] []]))), none, none, some (Sum.inr (Sum.inl (38, Row.mk [zz6 0, zz6 0] 1 [Col.mk [k0] [] [], Col.mk [k1] [] []]))), none, some (Sum.inr (Sum.inl (38, Row.mk [zz6 0, zz6 0] (0 + Int.toNat zz2 + 1 + Int.toNat (zz3 - zz2)) [Col.mk (cut zz4 0 (0 + Int.toNat zz2 + 1) ++ cut xk (0 + Int.toNat zz2) (Int.toNat (zz3 - zz2))) [] [], Col.mk (cut zz5 0 (0 + Int.toNat zz2 + 1) ++ cut xw (0 + Int.toNat zz2) (Int.toNat (zz3 - zz2))) [] []])))])))) ∧ (decide (zz2 < zz3) = false → Vc (Value.bool (decide (zz2 < zz3)) = Value.bool false) ∧ (decide (zz3 ≥ most) = true → Post (G (Value.tuple (Array.mk [Value.slice (some (Addr.mk 0 0 (some 2000))) (List.length xk) c, Value.bool false])) [some (Sum.inr (Sum.inr (Sum.inl (Row.mk [zz6 0, zz6 0] (List.length xk) [Col.mk xk [] [], Col.mk xw [] []])))), some (Sum.inl (38, [zz6 k0, zz6 k1])), some (Sum.inr (Sum.inl (38, Row.mk [zz6 0, zz6 0] 0 [Col.mk [] [] [], Col.mk [] [] []]))), none, some (Sum.inr (Sum.inl (38, Row.mk [zz6 0, zz6 0] (0 + Int.toNat zz2) [Col.mk ([] ++ cut xk 0 (Int.toNat zz2)) [] [], Col.mk ([] ++ cut xw 0 (Int.toNat zz2)) [] []])))])) ∧ (decide (zz3 ≥ most) = false → Vc (0 + (0 + Int.toNat zz2) ≤ 0 + Int.toNat zz2 ∧ 1 ≤ 1 ∧ (0 + Int.toNat zz2 + 1) * 16 ≤ 140737488355328 ∧ 0 + Int.toNat zz2 + 1 ≤ 140737488355328) ∧ Vc (0 = 0 ∧ (0 : Int) ≤ zz2 ∧ zz2 ≤ zz3 ∧ zz3 ≤ zz3 ∧ 0 + List.length xk ≤ List.length xk) ∧ Vc (0 + (0 + Int.toNat zz2 + 1) ≤ 0 + Int.toNat zz2 + 1 ∧ 0 + Int.toNat zz2 + Int.toNat (zz3 - zz2) ≤ List.length xk ∧ (0 + Int.toNat zz2 + 1 + Int.toNat (zz3 - zz2)) * 16 ≤ 140737488355328 ∧ 0 + Int.toNat zz2 + 1 + Int.toNat (zz3 - zz2) ≤ 140737488355328) ∧ Post (G (Value.tuple (Array.mk [Value.slice (some (Addr.mk 7 0 (some 2000))) (0 + Int.toNat zz2 + 1 + Int.toNat (zz3 - zz2)) 0, Value.bool true])) [some (Sum.inr (Sum.inr (Sum.inl (Row.mk [zz6 0, zz6 0] (List.length xk) [Col.mk xk [] [], Col.mk xw [] []])))), some (Sum.inl (38, [zz6 k0, zz6 k1])), some (Sum.inr (Sum.inl (38, Row.mk [zz6 0, zz6 0] 0 [Col.mk [] [] [], Col.mk [] [] []]))), none, none, some (Sum.inr (Sum.inl (38, Row.mk [zz6 0, zz6 0] 1 [Col.mk [k0] [] [], Col.mk [k1] [] []]))), none, some (Sum.inr (Sum.inl (38, Row.mk [zz6 0, zz6 0] (0 + Int.toNat zz2 + 1 + Int.toNat (zz3 - zz2)) [Col.mk (cut zz4 0 (0 + Int.toNat zz2 + 1) ++ cut xk (0 + Int.toNat zz2) (Int.toNat (zz3 - zz2))) [] [], Col.mk (cut zz5 0 (0 + Int.toNat zz2 + 1) ++ cut xw (0 + Int.toNat zz2) (Int.toNat (zz3 - zz2))) [] []])))])))) ?_ (by kernel_rfl)
    intro zz6 zz1 zz2 zz3 zz4 zz5; subst zz5 zz4 zz3 zz2 zz1 zz6
    have c1 : cut xk 0 xk.length = xk := cut_all _
    have c2 : cut xw 0 xk.length = xw := cut_eq hxw
    simp only [c1, c2, Nat.zero_add]
    have hrk := rkC_le xk k0
    have done : ∀ (b : Bool) (N : Nat) (a a' : List Int) (B1 B2 B3 B4 B5 B6 : Option (SB R)) (rest : Hp R), hitC xk k0 = b → N = (putC xk (rkC xk k0) b k0).length → a = putC xk (rkC xk k0) b k0 → a' = putC xw (rkC xk k0) b k1 →
        G (.tuple ⟨[.slice (some ⟨7, 0, some 2000⟩) N 0, .bool true]⟩) ([vE xk xw, B1, B2, B3, B4, B5, B6, some (.inr (.inl (38, ⟨[.int .i64 0, .int .i64 0], N, [⟨a, [], []⟩, ⟨a', [], []⟩]⟩)))] ++ rest) := by
      intro b N a a' B1 B2 B3 B4 B5 B6 rest hb hN ha ha'
      subst hG
      rw [hb, hN, ha, ha']
      exact ⟨[0, 7], rfl, rfl, ⟨rfl, ⟨_, rfl, .inl rfl⟩, trivial⟩, rfl, rfl, rfl, rfl⟩
    clear hG
    repeat' (first | apply And.intro | apply Vc.mk | apply fits.mk | intro h | apply Post.mk)
    all_goals (try simp only [decide_eq_true_eq, decide_eq_false_iff_not, Nat.zero_add, ge_iff_le, Int.not_le, Int.not_lt, Int.toNat_natCast, beq_iff_eq, beq_eq_false_iff_ne, bne_iff_ne, bne_eq_false_iff_eq, Bool.not_eq_true', Bool.not_eq_false'] at *)
    all_goals first | contradiction | omega | (apply congrArg Value.bool; assumption) | exact congrArg Value.bool (decide_eq_true (by assumption)) | exact congrArg Value.bool (decide_eq_false (Int.not_lt.mpr (by assumption))) | exact ⟨rfl, by omega⟩ | exact rfl | (simp [*, -List.getD_eq_getElem?_getD]; done) | skip
    · have hh : hitC xk k0 = true := by unfold hitC; rw [decide_eq_true (by omega), decide_eq_true (by assumption)]; rfl
      exact done _ _ _ _ _ _ _ _ _ _ [] hh (put_len1 rfl (by omega)) (put_row1 rfl (by omega)) (put_row1 hxw (by omega))
    all_goals (have hh : hitC xk k0 = false := by unfold hitC; first | (rw [decide_eq_false (p := rkC xk k0 < xk.length) (by omega)]; rfl) | (rw [decide_eq_false (p := xk.getD _ 0 = _) (by assumption), Bool.and_false]))
    all_goals (have hr2 : (xk.length : Int) < most := by rcases hr with h | h; exact absurd h (by rw [hh]; decide); exact h)
    all_goals first
      | (exfalso; omega)
      | exact done _ _ _ _ _ _ _ _ _ _ [] hh (put_len0 rfl hrk) (put_row0 rfl hrk) (put_row0 hxw hrk)
      | skip
  · cases hx
/-- the document's row, of one's own -/
def rE {R : Type} (xk xw : List Int) : Option (SB R) := some (.inr (.inl (38, ⟨[.int .i64 0, .int .i64 0], xk.length, [⟨xk, [], []⟩, ⟨xw, [], []⟩]⟩)))
def putW {R : Type} (args : List Value) (hh : Hp R) : Option Bool := match args, hh with
  | [.slice _ _ _, .agg ⟨[.int .i64 k0, .int .i64 k1]⟩, .int .i64 most], [some (.inr (.inl (38, ⟨[.int .i64 0, .int .i64 0], n', [⟨xk, [], []⟩, ⟨xw, [], []⟩]⟩)))] => some (hitC xk k0 || decide ((n' : Int) < most))
  | _, _ => none
def putY {R : Type} : Prim R := fun args hh => match args, hh with
  | [.slice (some ⟨0, 0, some 2000⟩) n c, .agg ⟨[.int .i64 k0, .int .i64 k1]⟩, .int .i64 most], [some (.inr (.inl (38, ⟨[.int .i64 0, .int .i64 0], n', [⟨xk, [], []⟩, ⟨xw, [], []⟩]⟩)))] => some ⟨n = xk.length ∧ n' = xk.length ∧ xw.length = xk.length ∧ xk.length ≤ 100000,
    .tuple ⟨[.slice (some ⟨1, 0, some 2000⟩) (putC xk (rkC xk k0) (hitC xk k0) k0).length 0, .bool true]⟩, none, [some (.inr (.inl (38, ⟨[.int .i64 0, .int .i64 0], n', [⟨xk, [], []⟩, ⟨xw, [], []⟩]⟩))), some (.inr (.inl (38, ⟨[.int .i64 0, .int .i64 0], (putC xk (rkC xk k0) (hitC xk k0) k0).length, [⟨putC xk (rkC xk k0) (hitC xk k0) k0, [], []⟩, ⟨putC xw (rkC xk k0) (hitC xk k0) k1, [], []⟩]⟩)))], [], [(0, 0)]⟩
  | _, _ => none
def putN {R : Type} : Prim R := fun args hh => match args, hh with
  | [.slice (some ⟨0, 0, some 2000⟩) n c, .agg ⟨[.int .i64 k0, .int .i64 k1]⟩, .int .i64 most], [some (.inr (.inl (38, ⟨[.int .i64 0, .int .i64 0], n', [⟨xk, [], []⟩, ⟨xw, [], []⟩]⟩)))] => some ⟨n = xk.length ∧ n' = xk.length ∧ xw.length = xk.length ∧ xk.length ≤ 100000,
    .tuple ⟨[.slice (some ⟨0, 0, some 2000⟩) n c, .bool false]⟩, none, hh, [], []⟩
  | _, _ => none
def putsC {R : Type} : Con R := ⟨putW, putY, putN⟩
theorem puts_ok {R : Type} {D : Res R} : ConOk D Try.prog 14 putsC := by
  intro b
  refine prim_at (fn := Try.f14) (root := codeOf Try.f14) (by kernel_rfl) (by kernel_rfl) (by kernel_rfl) fun args hh x hx => ?_
  cases b with
  | true =>
    unfold putsC Con.go putY at hx
    simp only at hx
    split at hx
    · rename_i n c k0 k1 most n' xk xw
      injection hx with hx
      subst hx
      refine ⟨Nat.le_add_left 1 1, noLit rfl, (fun hw => by cases hw), fun hon hv => ?_⟩
      have hr : hitC xk k0 = true ∨ (n' : Int) < most := by
        simp only [way, putsC, putW] at hon
        simpa using hon
      clear hon
      generalize hG : Rx.Ends (R := R) _ _ = G
      refine rx_okQ (T := TR7) TR7_ok mixed 200 (q := let zz5 := Value.int IntKind.i64; let zz1 := (↑(rkC (cut xk 0 n) k0) : Int); let zz2 := (↑n : Int); let zz3 := (cut ([] ++ cut xk 0 (Int.toNat zz1)) 0 (0 + Int.toNat zz1) ++ cut [k0] 0 1); let zz4 := (cut ([] ++ cut xw 0 (Int.toNat zz1)) 0 (0 + Int.toNat zz1) ++ cut [k1] 0 1); Vc ((0 + n ≤ n' ∧ True) ∧ n = List.length (cut xk 0 n) ∧ n = List.length (cut xk 0 n) ∧ List.length (cut xk 0 n) ≤ 1000000) ∧ Vc ((0 : Int) ≤ zz1 ∧ zz1 ≤ zz2 ∧ 0 + n ≤ n') ∧ Vc (0 ≤ 0 ∧ 0 + Int.toNat zz1 ≤ n' ∧ (0 + Int.toNat zz1) * 16 ≤ 140737488355328 ∧ 0 + Int.toNat zz1 ≤ 140737488355328) ∧ (decide (zz1 < zz2) = true → Vc (Value.bool (decide (zz1 < zz2)) = Value.bool true) ∧ Vc ((0 : Int) ≤ zz1 ∧ zz1 < zz2 ∧ 0 + n ≤ n') ∧ Vc (0 + Int.toNat zz1 < n') ∧ ((List.getD xk (0 + Int.toNat zz1) (0 : Int) == k0) = true → Vc (0 + (0 + Int.toNat zz1) ≤ 0 + Int.toNat zz1 ∧ 1 ≤ 1 ∧ (0 + Int.toNat zz1 + 1) * 16 ≤ 140737488355328 ∧ 0 + Int.toNat zz1 + 1 ≤ 140737488355328) ∧ Vc (fits (zz1 + (1 : Int))) ∧ Vc (0 = 0 ∧ (0 : Int) ≤ zz1 + (1 : Int) ∧ zz1 + (1 : Int) ≤ zz2 ∧ zz2 ≤ zz2 ∧ 0 + n ≤ n') ∧ Vc (0 + (0 + Int.toNat zz1 + 1) ≤ 0 + Int.toNat zz1 + 1 ∧ 0 + Int.toNat (zz1 + (1 : Int)) + Int.toNat (zz2 - (zz1 + (1 : Int))) ≤ n' ∧ (0 + Int.toNat zz1 + 1 + Int.toNat (zz2 - (zz1 + (1 : Int)))) * 16 ≤ 140737488355328 ∧ 0 + Int.toNat zz1 + 1 + Int.toNat (zz2 - (zz1 + (1 : Int))) ≤ 140737488355328) ∧ Post (G (Value.tuple (Array.mk [Value.slice (some (Addr.mk 7 0 (some 2000))) (0 + Int.toNat zz1 + 1 + Int.toNat (zz2 - (zz1 + (1 : Int)))) 0, Value.bool true])) [some (Sum.inr (Sum.inl (38, Row.mk [zz5 0, zz5 0] n' [Col.mk xk [] [], Col.mk xw [] []]))), some (Sum.inl (38, [zz5 k0, zz5 k1])), some (Sum.inr (Sum.inl (38, Row.mk [zz5 0, zz5 0] 0 [Col.mk [] [] [], Col.mk [] [] []]))), none, none, some (Sum.inr (Sum.inl (38, Row.mk [zz5 0, zz5 0] 1 [Col.mk [k0] [] [], Col.mk [k1] [] []]))), none, some (Sum.inr (Sum.inl (38, Row.mk [zz5 0, zz5 0] (0 + Int.toNat zz1 + 1 + Int.toNat (zz2 - (zz1 + (1 : Int)))) [Col.mk (cut zz3 0 (0 + Int.toNat zz1 + 1) ++ cut xk (0 + Int.toNat (zz1 + (1 : Int))) (Int.toNat (zz2 - (zz1 + (1 : Int))))) [] [], Col.mk (cut zz4 0 (0 + Int.toNat zz1 + 1) ++ cut xw (0 + Int.toNat (zz1 + (1 : Int))) (Int.toNat (zz2 - (zz1 + (1 : Int))))) [] []])))])) ∧ ((List.getD xk (0 + Int.toNat zz1) (0 : Int) == k0) = false → (decide (zz2 ≥ most) = true → Post (G (Value.tuple (Array.mk [Value.slice (some (Addr.mk 0 0 (some 2000))) n c, Value.bool false])) [some (Sum.inr (Sum.inl (38, Row.mk [zz5 0, zz5 0] n' [Col.mk xk [] [], Col.mk xw [] []]))), some (Sum.inl (38, [zz5 k0, zz5 k1])), some (Sum.inr (Sum.inl (38, Row.mk [zz5 0, zz5 0] 0 [Col.mk [] [] [], Col.mk [] [] []]))), none, some (Sum.inr (Sum.inl (38, Row.mk [zz5 0, zz5 0] (0 + Int.toNat zz1) [Col.mk ([] ++ cut xk 0 (Int.toNat zz1)) [] [], Col.mk ([] ++ cut xw 0 (Int.toNat zz1)) [] []])))])) ∧ (decide (zz2 ≥ most) = false → Vc (0 + (0 + Int.toNat zz1) ≤ 0 + Int.toNat zz1 ∧ 1 ≤ 1 ∧ (0 + Int.toNat zz1 + 1) * 16 ≤ 140737488355328 ∧ 0 + Int.toNat zz1 + 1 ≤ 140737488355328) ∧ Vc (0 = 0 ∧ (0 : Int) ≤ zz1 ∧ zz1 ≤ zz2 ∧ zz2 ≤ zz2 ∧ 0 + n ≤ n') ∧ Vc (0 + (0 + Int.toNat zz1 + 1) ≤ 0 + Int.toNat zz1 + 1 ∧ 0 + Int.toNat zz1 + Int.toNat (zz2 - zz1) ≤ n' ∧ (0 + Int.toNat zz1 + 1 + Int.toNat (zz2 - zz1)) * 16 ≤ 140737488355328 ∧ 0 + Int.toNat zz1 + 1 + Int.toNat (zz2 - zz1) ≤ 140737488355328) ∧ Post (G (Value.tuple (Array.mk [Value.slice (some (Addr.mk 7 0 (some 2000))) (0 + Int.toNat zz1 + 1 + Int.toNat (zz2 - zz1)) 0, Value.bool true])) [some (Sum.inr (Sum.inl (38, Row.mk [zz5 0, zz5 0] n' [Col.mk xk [] [], Col.mk xw [] []]))), some (Sum.inl (38, [zz5 k0, zz5 k1])), some (Sum.inr (Sum.inl (38, Row.mk [zz5 0, zz5 0] 0 [Col.mk [] [] [], Col.mk [] [] []]))), none, none, some (Sum.inr (Sum.inl (38, Row.mk [zz5 0, zz5 0] 1 [Col.mk [k0] [] [], Col.mk [k1] [] []]))), none, some (Sum.inr (Sum.inl (38, Row.mk [zz5 0, zz5 0] (0 + Int.toNat zz1 + 1 + Int.toNat (zz2 - zz1)) [Col.mk (cut zz3 0 (0 + Int.toNat zz1 + 1) ++ cut xk (0 + Int.toNat zz1) (Int.toNat (zz2 - zz1))) [] [], Col.mk (cut zz4 0 (0 + Int.toNat zz1 + 1) ++ cut xw (0 + Int.toNat zz1) (Int.toNat (zz2 - zz1))) [] []])))])))) ∧ (decide (zz1 < zz2) = false → Vc (Value.bool (decide (zz1 < zz2)) = Value.bool false) ∧ (decide (zz2 ≥ most) = true → Post (G (Value.tuple (Array.mk [Value.slice (some (Addr.mk 0 0 (some 2000))) n c, Value.bool false])) [some (Sum.inr (Sum.inl (38, Row.mk [zz5 0, zz5 0] n' [Col.mk xk [] [], Col.mk xw [] []]))), some (Sum.inl (38, [zz5 k0, zz5 k1])), some (Sum.inr (Sum.inl (38, Row.mk [zz5 0, zz5 0] 0 [Col.mk [] [] [], Col.mk [] [] []]))), none, some (Sum.inr (Sum.inl (38, Row.mk [zz5 0, zz5 0] (0 + Int.toNat zz1) [Col.mk ([] ++ cut xk 0 (Int.toNat zz1)) [] [], Col.mk ([] ++ cut xw 0 (Int.toNat zz1)) [] []])))])) ∧ (decide (zz2 ≥ most) = false → Vc (0 + (0 + Int.toNat zz1) ≤ 0 + Int.toNat zz1 ∧ 1 ≤ 1 ∧ (0 + Int.toNat zz1 + 1) * 16 ≤ 140737488355328 ∧ 0 + Int.toNat zz1 + 1 ≤ 140737488355328) ∧ Vc (0 = 0 ∧ (0 : Int) ≤ zz1 ∧ zz1 ≤ zz2 ∧ zz2 ≤ zz2 ∧ 0 + n ≤ n') ∧ Vc (0 + (0 + Int.toNat zz1 + 1) ≤ 0 + Int.toNat zz1 + 1 ∧ 0 + Int.toNat zz1 + Int.toNat (zz2 - zz1) ≤ n' ∧ (0 + Int.toNat zz1 + 1 + Int.toNat (zz2 - zz1)) * 16 ≤ 140737488355328 ∧ 0 + Int.toNat zz1 + 1 + Int.toNat (zz2 - zz1) ≤ 140737488355328) ∧ Post (G (Value.tuple (Array.mk [Value.slice (some (Addr.mk 7 0 (some 2000))) (0 + Int.toNat zz1 + 1 + Int.toNat (zz2 - zz1)) 0, Value.bool true])) [some (Sum.inr (Sum.inl (38, Row.mk [zz5 0, zz5 0] n' [Col.mk xk [] [], Col.mk xw [] []]))), some (Sum.inl (38, [zz5 k0, zz5 k1])), some (Sum.inr (Sum.inl (38, Row.mk [zz5 0, zz5 0] 0 [Col.mk [] [] [], Col.mk [] [] []]))), none, none, some (Sum.inr (Sum.inl (38, Row.mk [zz5 0, zz5 0] 1 [Col.mk [k0] [] [], Col.mk [k1] [] []]))), none, some (Sum.inr (Sum.inl (38, Row.mk [zz5 0, zz5 0] (0 + Int.toNat zz1 + 1 + Int.toNat (zz2 - zz1)) [Col.mk (cut zz3 0 (0 + Int.toNat zz1 + 1) ++ cut xk (0 + Int.toNat zz1) (Int.toNat (zz2 - zz1))) [] [], Col.mk (cut zz4 0 (0 + Int.toNat zz1 + 1) ++ cut xw (0 + Int.toNat zz1) (Int.toNat (zz2 - zz1))) [] []])))])))) ?_ (by kernel_rfl)
      intro zz5 zz1 zz2 zz3 zz4; subst zz4 zz3 zz2 zz1 zz5
      obtain ⟨rfl, rfl, hxw, hb⟩ := hv
      have c1 : cut xk 0 xk.length = xk := cut_all _
      have c2 : cut xw 0 xk.length = xw := cut_eq hxw
      simp only [c1, c2, Nat.zero_add]
      have hrk := rkC_le xk k0
      have done : ∀ (b : Bool) (N : Nat) (a a' : List Int) (B1 B2 B3 B4 B5 B6 : Option (SB R)) (rest : Hp R), hitC xk k0 = b → N = (putC xk (rkC xk k0) b k0).length → a = putC xk (rkC xk k0) b k0 → a' = putC xw (rkC xk k0) b k1 →
          G (.tuple ⟨[.slice (some ⟨7, 0, some 2000⟩) N 0, .bool true]⟩) ([rE xk xw, B1, B2, B3, B4, B5, B6, some (.inr (.inl (38, ⟨[.int .i64 0, .int .i64 0], N, [⟨a, [], []⟩, ⟨a', [], []⟩]⟩)))] ++ rest) := by
        intro b N a a' B1 B2 B3 B4 B5 B6 rest hb hN ha ha'
        subst hG
        rw [hb, hN, ha, ha']
        exact ⟨[0, 7], rfl, rfl, ⟨⟨_, rfl, .inl rfl⟩, ⟨_, rfl, .inl rfl⟩, trivial⟩, rfl, rfl, rfl, rfl⟩
      clear hG
      repeat' (first | apply And.intro | apply Vc.mk | apply fits.mk | intro h | apply Post.mk)
      all_goals (try simp only [decide_eq_true_eq, decide_eq_false_iff_not, Nat.zero_add, ge_iff_le, Int.not_le, Int.not_lt, Int.toNat_natCast, beq_iff_eq, beq_eq_false_iff_ne, bne_iff_ne, bne_eq_false_iff_eq, Bool.not_eq_true', Bool.not_eq_false'] at *)
      all_goals first | contradiction | omega | (apply congrArg Value.bool; assumption) | exact congrArg Value.bool (decide_eq_true (by assumption)) | exact congrArg Value.bool (decide_eq_false (Int.not_lt.mpr (by assumption))) | exact ⟨rfl, by omega⟩ | exact rfl | (simp [*, -List.getD_eq_getElem?_getD]; done) | skip
      · have hh : hitC xk k0 = true := by unfold hitC; rw [decide_eq_true (by omega), decide_eq_true (by assumption)]; rfl
        exact done _ _ _ _ _ _ _ _ _ _ [] hh (put_len1 rfl (by omega)) (put_row1 rfl (by omega)) (put_row1 hxw (by omega))
      all_goals (have hh : hitC xk k0 = false := by unfold hitC; first | (rw [decide_eq_false (p := rkC xk k0 < xk.length) (by omega)]; rfl) | (rw [decide_eq_false (p := xk.getD _ 0 = _) (by assumption), Bool.and_false]))
      all_goals (have hr2 : (xk.length : Int) < most := by rcases hr with h | h; exact absurd h (by rw [hh]; decide); exact h)
      all_goals first
        | (exfalso; omega)
        | exact done _ _ _ _ _ _ _ _ _ _ [] hh (put_len0 rfl hrk) (put_row0 rfl hrk) (put_row0 hxw hrk)
    · cases hx
  | false =>
    unfold putsC Con.go putN at hx
    simp only at hx
    split at hx
    · rename_i n c k0 k1 most n' xk xw
      injection hx with hx
      subst hx
      refine ⟨Nat.le_refl _, noLit rfl, (fun _ => rfl), fun hon hv => ?_⟩
      have hr : hitC xk k0 = false ∧ ¬ (n' : Int) < most := by
        simp only [way, putsC, putW] at hon
        simpa using hon
      clear hon
      generalize hG : Rx.Ends (R := R) _ _ = G
      refine rx_okQ (T := TR7) TR7_ok mixed 200 (q := let zz5 := Value.int IntKind.i64; let zz1 := (↑(rkC (cut xk 0 n) k0) : Int); let zz2 := (↑n : Int); let zz3 := (cut ([] ++ cut xk 0 (Int.toNat zz1)) 0 (0 + Int.toNat zz1) ++ cut [k0] 0 1); let zz4 := (cut ([] ++ cut xw 0 (Int.toNat zz1)) 0 (0 + Int.toNat zz1) ++ cut [k1] 0 1); Vc ((0 + n ≤ n' ∧ True) ∧ n = List.length (cut xk 0 n) ∧ n = List.length (cut xk 0 n) ∧ List.length (cut xk 0 n) ≤ 1000000) ∧ Vc ((0 : Int) ≤ zz1 ∧ zz1 ≤ zz2 ∧ 0 + n ≤ n') ∧ Vc (0 ≤ 0 ∧ 0 + Int.toNat zz1 ≤ n' ∧ (0 + Int.toNat zz1) * 16 ≤ 140737488355328 ∧ 0 + Int.toNat zz1 ≤ 140737488355328) ∧ (decide (zz1 < zz2) = true → Vc (Value.bool (decide (zz1 < zz2)) = Value.bool true) ∧ Vc ((0 : Int) ≤ zz1 ∧ zz1 < zz2 ∧ 0 + n ≤ n') ∧ Vc (0 + Int.toNat zz1 < n') ∧ ((List.getD xk (0 + Int.toNat zz1) (0 : Int) == k0) = true → Vc (0 + (0 + Int.toNat zz1) ≤ 0 + Int.toNat zz1 ∧ 1 ≤ 1 ∧ (0 + Int.toNat zz1 + 1) * 16 ≤ 140737488355328 ∧ 0 + Int.toNat zz1 + 1 ≤ 140737488355328) ∧ Vc (fits (zz1 + (1 : Int))) ∧ Vc (0 = 0 ∧ (0 : Int) ≤ zz1 + (1 : Int) ∧ zz1 + (1 : Int) ≤ zz2 ∧ zz2 ≤ zz2 ∧ 0 + n ≤ n') ∧ Vc (0 + (0 + Int.toNat zz1 + 1) ≤ 0 + Int.toNat zz1 + 1 ∧ 0 + Int.toNat (zz1 + (1 : Int)) + Int.toNat (zz2 - (zz1 + (1 : Int))) ≤ n' ∧ (0 + Int.toNat zz1 + 1 + Int.toNat (zz2 - (zz1 + (1 : Int)))) * 16 ≤ 140737488355328 ∧ 0 + Int.toNat zz1 + 1 + Int.toNat (zz2 - (zz1 + (1 : Int))) ≤ 140737488355328) ∧ Post (G (Value.tuple (Array.mk [Value.slice (some (Addr.mk 7 0 (some 2000))) (0 + Int.toNat zz1 + 1 + Int.toNat (zz2 - (zz1 + (1 : Int)))) 0, Value.bool true])) [some (Sum.inr (Sum.inl (38, Row.mk [zz5 0, zz5 0] n' [Col.mk xk [] [], Col.mk xw [] []]))), some (Sum.inl (38, [zz5 k0, zz5 k1])), some (Sum.inr (Sum.inl (38, Row.mk [zz5 0, zz5 0] 0 [Col.mk [] [] [], Col.mk [] [] []]))), none, none, some (Sum.inr (Sum.inl (38, Row.mk [zz5 0, zz5 0] 1 [Col.mk [k0] [] [], Col.mk [k1] [] []]))), none, some (Sum.inr (Sum.inl (38, Row.mk [zz5 0, zz5 0] (0 + Int.toNat zz1 + 1 + Int.toNat (zz2 - (zz1 + (1 : Int)))) [Col.mk (cut zz3 0 (0 + Int.toNat zz1 + 1) ++ cut xk (0 + Int.toNat (zz1 + (1 : Int))) (Int.toNat (zz2 - (zz1 + (1 : Int))))) [] [], Col.mk (cut zz4 0 (0 + Int.toNat zz1 + 1) ++ cut xw (0 + Int.toNat (zz1 + (1 : Int))) (Int.toNat (zz2 - (zz1 + (1 : Int))))) [] []])))])) ∧ ((List.getD xk (0 + Int.toNat zz1) (0 : Int) == k0) = false → (decide (zz2 ≥ most) = true → Post (G (Value.tuple (Array.mk [Value.slice (some (Addr.mk 0 0 (some 2000))) n c, Value.bool false])) [some (Sum.inr (Sum.inl (38, Row.mk [zz5 0, zz5 0] n' [Col.mk xk [] [], Col.mk xw [] []]))), some (Sum.inl (38, [zz5 k0, zz5 k1])), some (Sum.inr (Sum.inl (38, Row.mk [zz5 0, zz5 0] 0 [Col.mk [] [] [], Col.mk [] [] []]))), none, some (Sum.inr (Sum.inl (38, Row.mk [zz5 0, zz5 0] (0 + Int.toNat zz1) [Col.mk ([] ++ cut xk 0 (Int.toNat zz1)) [] [], Col.mk ([] ++ cut xw 0 (Int.toNat zz1)) [] []])))])) ∧ (decide (zz2 ≥ most) = false → Vc (0 + (0 + Int.toNat zz1) ≤ 0 + Int.toNat zz1 ∧ 1 ≤ 1 ∧ (0 + Int.toNat zz1 + 1) * 16 ≤ 140737488355328 ∧ 0 + Int.toNat zz1 + 1 ≤ 140737488355328) ∧ Vc (0 = 0 ∧ (0 : Int) ≤ zz1 ∧ zz1 ≤ zz2 ∧ zz2 ≤ zz2 ∧ 0 + n ≤ n') ∧ Vc (0 + (0 + Int.toNat zz1 + 1) ≤ 0 + Int.toNat zz1 + 1 ∧ 0 + Int.toNat zz1 + Int.toNat (zz2 - zz1) ≤ n' ∧ (0 + Int.toNat zz1 + 1 + Int.toNat (zz2 - zz1)) * 16 ≤ 140737488355328 ∧ 0 + Int.toNat zz1 + 1 + Int.toNat (zz2 - zz1) ≤ 140737488355328) ∧ Post (G (Value.tuple (Array.mk [Value.slice (some (Addr.mk 7 0 (some 2000))) (0 + Int.toNat zz1 + 1 + Int.toNat (zz2 - zz1)) 0, Value.bool true])) [some (Sum.inr (Sum.inl (38, Row.mk [zz5 0, zz5 0] n' [Col.mk xk [] [], Col.mk xw [] []]))), some (Sum.inl (38, [zz5 k0, zz5 k1])), some (Sum.inr (Sum.inl (38, Row.mk [zz5 0, zz5 0] 0 [Col.mk [] [] [], Col.mk [] [] []]))), none, none, some (Sum.inr (Sum.inl (38, Row.mk [zz5 0, zz5 0] 1 [Col.mk [k0] [] [], Col.mk [k1] [] []]))), none, some (Sum.inr (Sum.inl (38, Row.mk [zz5 0, zz5 0] (0 + Int.toNat zz1 + 1 + Int.toNat (zz2 - zz1)) [Col.mk (cut zz3 0 (0 + Int.toNat zz1 + 1) ++ cut xk (0 + Int.toNat zz1) (Int.toNat (zz2 - zz1))) [] [], Col.mk (cut zz4 0 (0 + Int.toNat zz1 + 1) ++ cut xw (0 + Int.toNat zz1) (Int.toNat (zz2 - zz1))) [] []])))])))) ∧ (decide (zz1 < zz2) = false → Vc (Value.bool (decide (zz1 < zz2)) = Value.bool false) ∧ (decide (zz2 ≥ most) = true → Post (G (Value.tuple (Array.mk [Value.slice (some (Addr.mk 0 0 (some 2000))) n c, Value.bool false])) [some (Sum.inr (Sum.inl (38, Row.mk [zz5 0, zz5 0] n' [Col.mk xk [] [], Col.mk xw [] []]))), some (Sum.inl (38, [zz5 k0, zz5 k1])), some (Sum.inr (Sum.inl (38, Row.mk [zz5 0, zz5 0] 0 [Col.mk [] [] [], Col.mk [] [] []]))), none, some (Sum.inr (Sum.inl (38, Row.mk [zz5 0, zz5 0] (0 + Int.toNat zz1) [Col.mk ([] ++ cut xk 0 (Int.toNat zz1)) [] [], Col.mk ([] ++ cut xw 0 (Int.toNat zz1)) [] []])))])) ∧ (decide (zz2 ≥ most) = false → Vc (0 + (0 + Int.toNat zz1) ≤ 0 + Int.toNat zz1 ∧ 1 ≤ 1 ∧ (0 + Int.toNat zz1 + 1) * 16 ≤ 140737488355328 ∧ 0 + Int.toNat zz1 + 1 ≤ 140737488355328) ∧ Vc (0 = 0 ∧ (0 : Int) ≤ zz1 ∧ zz1 ≤ zz2 ∧ zz2 ≤ zz2 ∧ 0 + n ≤ n') ∧ Vc (0 + (0 + Int.toNat zz1 + 1) ≤ 0 + Int.toNat zz1 + 1 ∧ 0 + Int.toNat zz1 + Int.toNat (zz2 - zz1) ≤ n' ∧ (0 + Int.toNat zz1 + 1 + Int.toNat (zz2 - zz1)) * 16 ≤ 140737488355328 ∧ 0 + Int.toNat zz1 + 1 + Int.toNat (zz2 - zz1) ≤ 140737488355328) ∧ Post (G (Value.tuple (Array.mk [Value.slice (some (Addr.mk 7 0 (some 2000))) (0 + Int.toNat zz1 + 1 + Int.toNat (zz2 - zz1)) 0, Value.bool true])) [some (Sum.inr (Sum.inl (38, Row.mk [zz5 0, zz5 0] n' [Col.mk xk [] [], Col.mk xw [] []]))), some (Sum.inl (38, [zz5 k0, zz5 k1])), some (Sum.inr (Sum.inl (38, Row.mk [zz5 0, zz5 0] 0 [Col.mk [] [] [], Col.mk [] [] []]))), none, none, some (Sum.inr (Sum.inl (38, Row.mk [zz5 0, zz5 0] 1 [Col.mk [k0] [] [], Col.mk [k1] [] []]))), none, some (Sum.inr (Sum.inl (38, Row.mk [zz5 0, zz5 0] (0 + Int.toNat zz1 + 1 + Int.toNat (zz2 - zz1)) [Col.mk (cut zz3 0 (0 + Int.toNat zz1 + 1) ++ cut xk (0 + Int.toNat zz1) (Int.toNat (zz2 - zz1))) [] [], Col.mk (cut zz4 0 (0 + Int.toNat zz1 + 1) ++ cut xw (0 + Int.toNat zz1) (Int.toNat (zz2 - zz1))) [] []])))])))) ?_ (by kernel_rfl)
      intro zz5 zz1 zz2 zz3 zz4; subst zz4 zz3 zz2 zz1 zz5
      obtain ⟨rfl, rfl, hxw, hb⟩ := hv
      have c1 : cut xk 0 xk.length = xk := cut_all _
      have c2 : cut xw 0 xk.length = xw := cut_eq hxw
      simp only [c1, c2, Nat.zero_add]
      have hrk := rkC_le xk k0
      repeat' (first | apply And.intro | apply Vc.mk | apply fits.mk | intro h | apply Post.mk)
      all_goals (try simp only [decide_eq_true_eq, decide_eq_false_iff_not, Nat.zero_add, ge_iff_le, Int.not_le, Int.not_lt, Int.toNat_natCast, beq_iff_eq, beq_eq_false_iff_ne, bne_iff_ne, bne_eq_false_iff_eq, Bool.not_eq_true', Bool.not_eq_false'] at *)
      all_goals first | contradiction | omega | (apply congrArg Value.bool; assumption) | exact congrArg Value.bool (decide_eq_true (by assumption)) | exact congrArg Value.bool (decide_eq_false (Int.not_lt.mpr (by assumption))) | exact ⟨rfl, by omega⟩ | exact rfl | (simp [*, -List.getD_eq_getElem?_getD]; done) | skip
      all_goals first
        | (exfalso
           have hh : hitC xk k0 = true := by unfold hitC; rw [decide_eq_true (by omega), decide_eq_true (by assumption)]; rfl
           rw [hr.1] at hh
           cases hh)
        | (exfalso; omega)
        | (subst hG
           exact ⟨[0], rfl, rfl, ⟨⟨_, rfl, .inl rfl⟩, trivial⟩, rfl, rfl, rfl, rfl⟩)
    · cases hx
def dropC1 (x : List Int) (r : Nat) : List Int := x.take r ++ x.drop (r + 1)
theorem drop_row {x : List Int} {r L : Nat} (hL : x.length = L) (h : r < L) : cut ([] ++ cut x 0 r) 0 r ++ cut x ((r : Int) + 1).toNat ((L : Int) - ((r : Int) + 1)).toNat = dropC1 x r := by
  have h1 : cut ([] ++ cut x 0 r) 0 r = x.take r := by unfold cut; simp [List.take_take]
  rw [h1, cut_drop (by omega), show ((r : Int) + 1).toNat = r + 1 by omega]
  rfl
theorem drop_len {x : List Int} {r L : Nat} (hL : x.length = L) (h : r < L) : r + ((L : Int) - ((r : Int) + 1)).toNat = (dropC1 x r).length := by
  unfold dropC1
  simp
  omega
def dropW {R : Type} (args : List Value) (hh : Hp R) : Option Bool := match args, hh with
  | [.slice _ _ _, .int .i64 k0], [some (.inr (.inl (38, ⟨[.int .i64 0, .int .i64 0], n', [⟨xk, [], []⟩, ⟨xw, [], []⟩]⟩)))] => some (hitC xk k0)
  | _, _ => none
def dropY {R : Type} : Prim R := fun args hh => match args, hh with
  | [.slice (some ⟨0, 0, some 2000⟩) n c, .int .i64 k0], [some (.inr (.inl (38, ⟨[.int .i64 0, .int .i64 0], n', [⟨xk, [], []⟩, ⟨xw, [], []⟩]⟩)))] => some ⟨n = xk.length ∧ n' = xk.length ∧ xw.length = xk.length ∧ xk.length ≤ 100000,
    .tuple ⟨[.slice (some ⟨1, 0, some 2000⟩) (dropC1 xk (rkC xk k0)).length 0, .agg ⟨[.int .i64 k0, .int .i64 (xw.getD (rkC xk k0) 0)]⟩, .bool true]⟩, none, [some (.inr (.inl (38, ⟨[.int .i64 0, .int .i64 0], n', [⟨xk, [], []⟩, ⟨xw, [], []⟩]⟩))), some (.inr (.inl (38, ⟨[.int .i64 0, .int .i64 0], (dropC1 xk (rkC xk k0)).length, [⟨dropC1 xk (rkC xk k0), [], []⟩, ⟨dropC1 xw (rkC xk k0), [], []⟩]⟩)))], [], [(0, 0)]⟩
  | _, _ => none
def dropN {R : Type} : Prim R := fun args hh => match args, hh with
  | [.slice (some ⟨0, 0, some 2000⟩) n c, .int .i64 k0], [some (.inr (.inl (38, ⟨[.int .i64 0, .int .i64 0], n', [⟨xk, [], []⟩, ⟨xw, [], []⟩]⟩)))] => some ⟨n = xk.length ∧ n' = xk.length ∧ xw.length = xk.length ∧ xk.length ≤ 100000,
    .tuple ⟨[.slice (some ⟨0, 0, some 2000⟩) n c, .agg ⟨[.int .i64 0, .int .i64 0]⟩, .bool false]⟩, none, hh, [], []⟩
  | _, _ => none
def dropsC {R : Type} : Con R := ⟨dropW, dropY, dropN⟩
theorem drops_ok {R : Type} {D : Res R} : ConOk D Try.prog 16 dropsC := by
  intro b
  refine prim_at (fn := Try.f16) (root := codeOf Try.f16) (by kernel_rfl) (by kernel_rfl) (by kernel_rfl) fun args hh x hx => ?_
  cases b with
  | true =>
    unfold dropsC Con.go dropY at hx
    simp only at hx
    split at hx
    · rename_i n c k0 n' xk xw
      injection hx with hx
      subst hx
      refine ⟨Nat.le_add_left 1 1, noLit rfl, (fun hw => by cases hw), fun hon hv => ?_⟩
      have hr : hitC xk k0 = true := by
        simp only [way, dropsC, dropW] at hon
        simpa using hon
      clear hon
      generalize hG : Rx.Ends (R := R) _ _ = G
      refine rx_okQ (T := TR7) TR7_ok mixed 200 (q := let zz2 := Value.int IntKind.i64; let zz1 := (↑(rkC (cut xk 0 n) k0) : Int); Vc ((0 + n ≤ n' ∧ True) ∧ n = List.length (cut xk 0 n) ∧ n = List.length (cut xk 0 n) ∧ List.length (cut xk 0 n) ≤ 1000000) ∧ ((zz1 == (↑n : Int)) = false → Vc ((0 : Int) ≤ zz1 ∧ zz1 < (↑n : Int) ∧ 0 + n ≤ n') ∧ Vc (0 + Int.toNat zz1 < n') ∧ ((List.getD xk (0 + Int.toNat zz1) (0 : Int) != k0) = true → Post (G (Value.tuple (Array.mk [Value.slice (some (Addr.mk 0 0 (some 2000))) n c, Value.agg (Array.mk [zz2 0, zz2 0]), Value.bool false])) [some (Sum.inr (Sum.inl (38, Row.mk [zz2 0, zz2 0] n' [Col.mk xk [] [], Col.mk xw [] []]))), some (Sum.inr (Sum.inl (38, Row.mk [zz2 0, zz2 0] 0 [Col.mk [] [] [], Col.mk [] [] []]))), some (Sum.inl (38, [zz2 0, zz2 0]))])) ∧ ((List.getD xk (0 + Int.toNat zz1) (0 : Int) != k0) = false → Vc ((0 : Int) ≤ zz1 ∧ zz1 ≤ (↑n : Int) ∧ 0 + n ≤ n') ∧ Vc (0 ≤ 0 ∧ 0 + Int.toNat zz1 ≤ n' ∧ (0 + Int.toNat zz1) * 16 ≤ 140737488355328 ∧ 0 + Int.toNat zz1 ≤ 140737488355328) ∧ Vc (fits (zz1 + (1 : Int))) ∧ Vc (0 = 0 ∧ (0 : Int) ≤ zz1 + (1 : Int) ∧ zz1 + (1 : Int) ≤ (↑n : Int) ∧ (↑n : Int) ≤ (↑n : Int) ∧ 0 + n ≤ n') ∧ Vc (0 + (0 + Int.toNat zz1) ≤ 0 + Int.toNat zz1 ∧ 0 + Int.toNat (zz1 + (1 : Int)) + Int.toNat ((↑n : Int) - (zz1 + (1 : Int))) ≤ n' ∧ (0 + Int.toNat zz1 + Int.toNat ((↑n : Int) - (zz1 + (1 : Int)))) * 16 ≤ 140737488355328 ∧ 0 + Int.toNat zz1 + Int.toNat ((↑n : Int) - (zz1 + (1 : Int))) ≤ 140737488355328) ∧ Vc ((0 : Int) ≤ zz1 ∧ zz1 < (↑n : Int) ∧ 0 + n ≤ n') ∧ Vc (0 + Int.toNat zz1 < n') ∧ Post (G (Value.tuple (Array.mk [Value.slice (some (Addr.mk 5 0 (some 2000))) (0 + Int.toNat zz1 + Int.toNat ((↑n : Int) - (zz1 + (1 : Int)))) 0, Value.agg (Array.mk [zz2 (List.getD xk (0 + Int.toNat zz1) (0 : Int)), zz2 (List.getD xw (0 + Int.toNat zz1) (0 : Int))]), Value.bool true])) [some (Sum.inr (Sum.inl (38, Row.mk [zz2 0, zz2 0] n' [Col.mk xk [] [], Col.mk xw [] []]))), some (Sum.inr (Sum.inl (38, Row.mk [zz2 0, zz2 0] 0 [Col.mk [] [] [], Col.mk [] [] []]))), some (Sum.inl (38, [zz2 (List.getD xk (0 + Int.toNat zz1) (0 : Int)), zz2 (List.getD xw (0 + Int.toNat zz1) (0 : Int))])), none, none, some (Sum.inr (Sum.inl (38, Row.mk [zz2 0, zz2 0] (0 + Int.toNat zz1 + Int.toNat ((↑n : Int) - (zz1 + (1 : Int)))) [Col.mk (cut ([] ++ cut xk 0 (Int.toNat zz1)) 0 (0 + Int.toNat zz1) ++ cut xk (0 + Int.toNat (zz1 + (1 : Int))) (Int.toNat ((↑n : Int) - (zz1 + (1 : Int))))) [] [], Col.mk (cut ([] ++ cut xw 0 (Int.toNat zz1)) 0 (0 + Int.toNat zz1) ++ cut xw (0 + Int.toNat (zz1 + (1 : Int))) (Int.toNat ((↑n : Int) - (zz1 + (1 : Int))))) [] []])))]))) ∧ ((zz1 == (↑n : Int)) = true → Post (G (Value.tuple (Array.mk [Value.slice (some (Addr.mk 0 0 (some 2000))) n c, Value.agg (Array.mk [zz2 0, zz2 0]), Value.bool false])) [some (Sum.inr (Sum.inl (38, Row.mk [zz2 0, zz2 0] n' [Col.mk xk [] [], Col.mk xw [] []]))), some (Sum.inr (Sum.inl (38, Row.mk [zz2 0, zz2 0] 0 [Col.mk [] [] [], Col.mk [] [] []]))), some (Sum.inl (38, [zz2 0, zz2 0]))]))) ?_ (by kernel_rfl)
      intro zz2 zz1; subst zz1 zz2
      obtain ⟨rfl, rfl, hxw, hb⟩ := hv
      have c1 : cut xk 0 xk.length = xk := cut_all _
      have c2 : cut xw 0 xk.length = xw := cut_eq hxw
      simp only [c1, c2, Nat.zero_add]
      have hrk := rkC_le xk k0
      have done : ∀ (N : Nat) (a a' : List Int) (v : Int) (B1 B2 B3 B4 : Option (SB R)) (rest : Hp R), N = (dropC1 xk (rkC xk k0)).length → a = dropC1 xk (rkC xk k0) → a' = dropC1 xw (rkC xk k0) → v = k0 →
          G (.tuple ⟨[.slice (some ⟨5, 0, some 2000⟩) N 0, .agg ⟨[.int .i64 v, .int .i64 (xw.getD (rkC xk k0) 0)]⟩, .bool true]⟩) ([rE xk xw, B1, B2, B3, B4, some (.inr (.inl (38, ⟨[.int .i64 0, .int .i64 0], N, [⟨a, [], []⟩, ⟨a', [], []⟩]⟩)))] ++ rest) := by
        intro N a a' v B1 B2 B3 B4 rest hN ha ha' hv
        subst hG
        rw [hN, ha, ha', hv]
        exact ⟨[0, 5], rfl, rfl, ⟨⟨_, rfl, .inl rfl⟩, ⟨_, rfl, .inl rfl⟩, trivial⟩, rfl, rfl, rfl, rfl⟩
      clear hG
      unfold hitC at hr
      simp only [Bool.and_eq_true, decide_eq_true_eq] at hr
      obtain ⟨hr1, hr2⟩ := hr
      repeat' (first | apply And.intro | apply Vc.mk | apply fits.mk | intro h | apply Post.mk)
      all_goals (try simp only [decide_eq_true_eq, decide_eq_false_iff_not, Nat.zero_add, ge_iff_le, Int.not_le, Int.not_lt, Int.toNat_natCast, beq_iff_eq, beq_eq_false_iff_ne, bne_iff_ne, bne_eq_false_iff_eq, Bool.not_eq_true', Bool.not_eq_false'] at *)
      all_goals first | contradiction | omega | (apply congrArg Value.bool; assumption) | exact congrArg Value.bool (decide_eq_true (by assumption)) | exact congrArg Value.bool (decide_eq_false (Int.not_lt.mpr (by assumption))) | exact ⟨rfl, by omega⟩ | exact rfl | (simp [*, -List.getD_eq_getElem?_getD]; done) | skip
      all_goals first
        | (exfalso; omega)
        | exact done _ _ _ _ _ _ _ _ [] (drop_len rfl hr1) (drop_row rfl hr1) (drop_row hxw hr1) (by assumption)
        | (exfalso; contradiction)
    · cases hx
  | false =>
    unfold dropsC Con.go dropN at hx
    simp only at hx
    split at hx
    · rename_i n c k0 n' xk xw
      injection hx with hx
      subst hx
      refine ⟨Nat.le_refl _, noLit rfl, (fun _ => rfl), fun hon hv => ?_⟩
      have hr : hitC xk k0 = false := by
        simp only [way, dropsC, dropW] at hon
        simpa using hon
      clear hon
      generalize hG : Rx.Ends (R := R) _ _ = G
      refine rx_okQ (T := TR7) TR7_ok mixed 200 (q := let zz2 := Value.int IntKind.i64; let zz1 := (↑(rkC (cut xk 0 n) k0) : Int); Vc ((0 + n ≤ n' ∧ True) ∧ n = List.length (cut xk 0 n) ∧ n = List.length (cut xk 0 n) ∧ List.length (cut xk 0 n) ≤ 1000000) ∧ ((zz1 == (↑n : Int)) = false → Vc ((0 : Int) ≤ zz1 ∧ zz1 < (↑n : Int) ∧ 0 + n ≤ n') ∧ Vc (0 + Int.toNat zz1 < n') ∧ ((List.getD xk (0 + Int.toNat zz1) (0 : Int) != k0) = true → Post (G (Value.tuple (Array.mk [Value.slice (some (Addr.mk 0 0 (some 2000))) n c, Value.agg (Array.mk [zz2 0, zz2 0]), Value.bool false])) [some (Sum.inr (Sum.inl (38, Row.mk [zz2 0, zz2 0] n' [Col.mk xk [] [], Col.mk xw [] []]))), some (Sum.inr (Sum.inl (38, Row.mk [zz2 0, zz2 0] 0 [Col.mk [] [] [], Col.mk [] [] []]))), some (Sum.inl (38, [zz2 0, zz2 0]))])) ∧ ((List.getD xk (0 + Int.toNat zz1) (0 : Int) != k0) = false → Vc ((0 : Int) ≤ zz1 ∧ zz1 ≤ (↑n : Int) ∧ 0 + n ≤ n') ∧ Vc (0 ≤ 0 ∧ 0 + Int.toNat zz1 ≤ n' ∧ (0 + Int.toNat zz1) * 16 ≤ 140737488355328 ∧ 0 + Int.toNat zz1 ≤ 140737488355328) ∧ Vc (fits (zz1 + (1 : Int))) ∧ Vc (0 = 0 ∧ (0 : Int) ≤ zz1 + (1 : Int) ∧ zz1 + (1 : Int) ≤ (↑n : Int) ∧ (↑n : Int) ≤ (↑n : Int) ∧ 0 + n ≤ n') ∧ Vc (0 + (0 + Int.toNat zz1) ≤ 0 + Int.toNat zz1 ∧ 0 + Int.toNat (zz1 + (1 : Int)) + Int.toNat ((↑n : Int) - (zz1 + (1 : Int))) ≤ n' ∧ (0 + Int.toNat zz1 + Int.toNat ((↑n : Int) - (zz1 + (1 : Int)))) * 16 ≤ 140737488355328 ∧ 0 + Int.toNat zz1 + Int.toNat ((↑n : Int) - (zz1 + (1 : Int))) ≤ 140737488355328) ∧ Vc ((0 : Int) ≤ zz1 ∧ zz1 < (↑n : Int) ∧ 0 + n ≤ n') ∧ Vc (0 + Int.toNat zz1 < n') ∧ Post (G (Value.tuple (Array.mk [Value.slice (some (Addr.mk 5 0 (some 2000))) (0 + Int.toNat zz1 + Int.toNat ((↑n : Int) - (zz1 + (1 : Int)))) 0, Value.agg (Array.mk [zz2 (List.getD xk (0 + Int.toNat zz1) (0 : Int)), zz2 (List.getD xw (0 + Int.toNat zz1) (0 : Int))]), Value.bool true])) [some (Sum.inr (Sum.inl (38, Row.mk [zz2 0, zz2 0] n' [Col.mk xk [] [], Col.mk xw [] []]))), some (Sum.inr (Sum.inl (38, Row.mk [zz2 0, zz2 0] 0 [Col.mk [] [] [], Col.mk [] [] []]))), some (Sum.inl (38, [zz2 (List.getD xk (0 + Int.toNat zz1) (0 : Int)), zz2 (List.getD xw (0 + Int.toNat zz1) (0 : Int))])), none, none, some (Sum.inr (Sum.inl (38, Row.mk [zz2 0, zz2 0] (0 + Int.toNat zz1 + Int.toNat ((↑n : Int) - (zz1 + (1 : Int)))) [Col.mk (cut ([] ++ cut xk 0 (Int.toNat zz1)) 0 (0 + Int.toNat zz1) ++ cut xk (0 + Int.toNat (zz1 + (1 : Int))) (Int.toNat ((↑n : Int) - (zz1 + (1 : Int))))) [] [], Col.mk (cut ([] ++ cut xw 0 (Int.toNat zz1)) 0 (0 + Int.toNat zz1) ++ cut xw (0 + Int.toNat (zz1 + (1 : Int))) (Int.toNat ((↑n : Int) - (zz1 + (1 : Int))))) [] []])))]))) ∧ ((zz1 == (↑n : Int)) = true → Post (G (Value.tuple (Array.mk [Value.slice (some (Addr.mk 0 0 (some 2000))) n c, Value.agg (Array.mk [zz2 0, zz2 0]), Value.bool false])) [some (Sum.inr (Sum.inl (38, Row.mk [zz2 0, zz2 0] n' [Col.mk xk [] [], Col.mk xw [] []]))), some (Sum.inr (Sum.inl (38, Row.mk [zz2 0, zz2 0] 0 [Col.mk [] [] [], Col.mk [] [] []]))), some (Sum.inl (38, [zz2 0, zz2 0]))]))) ?_ (by kernel_rfl)
      intro zz2 zz1; subst zz1 zz2
      obtain ⟨rfl, rfl, hxw, hb⟩ := hv
      have c1 : cut xk 0 xk.length = xk := cut_all _
      have c2 : cut xw 0 xk.length = xw := cut_eq hxw
      simp only [c1, c2, Nat.zero_add]
      have hrk := rkC_le xk k0
      have hr : ¬ (rkC xk k0 < xk.length ∧ xk.getD (rkC xk k0) 0 = k0) := by
        intro h
        unfold hitC at hr
        rw [decide_eq_true h.1, decide_eq_true h.2] at hr
        cases hr
      repeat' (first | apply And.intro | apply Vc.mk | apply fits.mk | intro h | apply Post.mk)
      all_goals (try simp only [decide_eq_true_eq, decide_eq_false_iff_not, Nat.zero_add, ge_iff_le, Int.not_le, Int.not_lt, Int.toNat_natCast, beq_iff_eq, beq_eq_false_iff_ne, bne_iff_ne, bne_eq_false_iff_eq, Bool.not_eq_true', Bool.not_eq_false'] at *)
      all_goals first | contradiction | omega | (apply congrArg Value.bool; assumption) | exact congrArg Value.bool (decide_eq_true (by assumption)) | exact congrArg Value.bool (decide_eq_false (Int.not_lt.mpr (by assumption))) | exact ⟨rfl, by omega⟩ | exact rfl | (simp [*, -List.getD_eq_getElem?_getD]; done) | skip
      all_goals first
        | (exfalso; omega)
        | (subst hG
           exact ⟨[0], rfl, rfl, ⟨⟨_, rfl, .inl rfl⟩, trivial⟩, rfl, rfl, rfl, rfl⟩)
    · cases hx
end Go.Proofs.Ytclagkjjgmeifaa.D7


/- grove: the document's lists, as lists of keys and numbers. -/
namespace Go.Proofs.Ytclagkjjgmeifaa.G7
open Go.Proofs.Ytclagkjjgmeifaa.Rx Go.Proofs.Ytclagkjjgmeifaa.D7
set_option linter.unusedVariables false
set_option linter.unusedSimpArgs false
abbrev ks (l : List El) : List Int := l.map El.k
abbrev wsL (l : List El) : List Int := l.map El.w
/-- how many are ahead -/
abbrev rk (l : List El) (key : Int) : Nat := rkC (ks l) key
theorem loE7 (e : El) : ∀ l : List El, Gv.loE O7 e l = l.take (rk l e.k) ∧ Gv.hiE O7 e l = l.drop (rk l e.k)
  | [] => ⟨rfl, rfl⟩
  | x :: l => by
    obtain ⟨h1, h2⟩ := loE7 e l
    unfold rk ks at *
    rw [List.map_cons, rkC_cons]
    by_cases h : x.k < e.k
    · obtain ⟨c1, c2, _⟩ := Gv.cons_gt (O := O7) (l := l) ((cmp_pos e x).2 h)
      rw [if_pos h, c1, c2, h1, h2]
      exact ⟨rfl, rfl⟩
    · obtain ⟨c1, c2⟩ := Gv.cons_ngt (O := O7) (e := e) (y := x) (l := l) (fun h' => h ((cmp_pos e x).1 h'))
      rw [if_neg h, c1, c2]
      exact ⟨rfl, rfl⟩
theorem hitE7 (e : El) (l : List El) : Gv.hitE O7 e l = (if hitC (ks l) e.k then l[rk l e.k]? else none) := by
  unfold Gv.hitE
  rw [(loE7 e l).2]
  by_cases h : rk l e.k < l.length
  · rw [List.drop_eq_getElem_cons h]
    simp only [cmp_zero]
    have hk : (ks l).getD (rk l e.k) 0 = l[rk l e.k].k := by
      unfold ks
      rw [List.getD_eq_getElem?_getD, List.getElem?_map, List.getElem?_eq_getElem h]; rfl
    unfold hitC
    have hl : rkC (ks l) e.k < (ks l).length := by simpa using h
    rw [decide_eq_true hl, Bool.true_and, List.getElem?_eq_getElem h]
    show (if e.k = l[rk l e.k].k then some l[rk l e.k] else none) = if decide ((ks l).getD (rk l e.k) 0 = e.k) = true then _ else _
    rw [hk]
    by_cases c : e.k = l[rk l e.k].k
    · rw [if_pos c, if_pos (decide_eq_true c.symm)]
    · rw [if_neg c, if_neg (by simpa using fun h => c h.symm)]
  · rw [List.drop_eq_nil_of_le (by omega)]
    have hl : ¬ rkC (ks l) e.k < (ks l).length := by simpa using h
    unfold hitC
    rw [decide_eq_false hl]
    simp
theorem hitE7_some (e : El) (l : List El) : (Gv.hitE O7 e l).isSome = hitC (ks l) e.k := by
  rw [hitE7]
  cases h : hitC (ks l) e.k with
  | false => rfl
  | true =>
    have : rk l e.k < l.length := by
      unfold hitC at h
      simp only [Bool.and_eq_true, decide_eq_true_eq] at h
      simpa using h.1
    simp [this]
theorem hit_lt {l : List El} {key : Int} (h : hitC (ks l) key = true) : rk l key < l.length ∧ (ks l).getD (rk l key) 0 = key := by
  unfold hitC at h
  simp only [Bool.and_eq_true, decide_eq_true_eq] at h
  exact ⟨by simpa using h.1, h.2⟩
theorem putE7 (e : El) (l : List El) : Gv.putE O7 e l = l.take (rk l e.k) ++ e :: l.drop (if hitC (ks l) e.k then rk l e.k + 1 else rk l e.k) := by
  have hs := hitE7_some e l
  unfold Gv.putE
  rw [(loE7 e l).1, (loE7 e l).2]
  cases h : Gv.hitE O7 e l with
  | none => rw [h] at hs; rw [← hs]; rfl
  | some x => rw [h] at hs; rw [← hs]; simp [List.tail_drop]
theorem putE_ks (e : El) (l : List El) : ks (Gv.putE O7 e l) = putC (ks l) (rk l e.k) (hitC (ks l) e.k) e.k := by
  rw [putE7]
  unfold putC ks
  rw [List.map_append, List.map_cons, List.map_take, List.map_drop]
theorem putE_ws (e : El) (l : List El) : wsL (Gv.putE O7 e l) = putC (wsL l) (rk l e.k) (hitC (ks l) e.k) e.w := by
  rw [putE7]
  unfold putC wsL
  rw [List.map_append, List.map_cons, List.map_take, List.map_drop]
theorem dropE7 (e : El) (l : List El) : Gv.dropE O7 e l = if hitC (ks l) e.k then l.take (rk l e.k) ++ l.drop (rk l e.k + 1) else l := by
  have hs := hitE7_some e l
  unfold Gv.dropE
  rw [(loE7 e l).1, (loE7 e l).2]
  cases h : Gv.hitE O7 e l with
  | none => rw [h] at hs; rw [← hs]; rfl
  | some x => rw [h] at hs; rw [← hs]; simp [List.tail_drop]
theorem dropE_ks {e : El} {l : List El} (h : hitC (ks l) e.k = true) : ks (Gv.dropE O7 e l) = dropC1 (ks l) (rk l e.k) := by
  rw [dropE7, if_pos h]
  unfold dropC1 ks
  rw [List.map_append, List.map_take, List.map_drop]
theorem dropE_ws {e : El} {l : List El} (h : hitC (ks l) e.k = true) : wsL (Gv.dropE O7 e l) = dropC1 (wsL l) (rk l e.k) := by
  rw [dropE7, if_pos h]
  unfold dropC1 wsL
  rw [List.map_append, List.map_take, List.map_drop]
theorem dropE_no {e : El} {l : List El} (h : hitC (ks l) e.k = false) : Gv.dropE O7 e l = l := by
  rw [dropE7, if_neg (by rw [h]; decide)]
theorem mem_ws {l : List El} {v : Int} : v ∈ wsL l ↔ ∃ x ∈ l, x.w = v := List.mem_map
/-- few elements, none of them great -/
theorem good7_put {e : El} {l : List El} (h : good7 l) (hl : l.length + 1 ≤ 1000) (he : -1000000 ≤ e.w ∧ e.w ≤ 1000000) : good7 (Gv.putE O7 e l) := by
  refine ⟨?_, fun v hv => ?_⟩
  · rw [List.length_map, Gv.put_len]
    split <;> omega
  · obtain ⟨x, hx, rfl⟩ := mem_ws.1 hv
    rcases Gv.put_mem hx with hx | hx
    · rw [hx]; exact he
    · exact h.b _ (List.mem_map_of_mem hx)
theorem good7_cut {e : El} {l : List El} (h : good7 l) : good7 (Gv.loE O7 e l ++ (Gv.hiE O7 e l).tail) := by
  refine ⟨?_, fun v hv => ?_⟩
  · have h1 := h.len
    have h2 := congrArg List.length (Gv.loE_hiE (O := O7) e l)
    rw [List.length_append] at h2
    rw [List.length_map, List.length_append, List.length_tail]
    rw [List.length_map] at h1
    omega
  · obtain ⟨x, hx, rfl⟩ := mem_ws.1 hv
    refine h.b _ (List.mem_map_of_mem ?_)
    rw [← Gv.loE_hiE (O := O7) e l]
    rcases List.mem_append.1 hx with hx | hx
    · exact List.mem_append_left _ hx
    · exact List.mem_append_right _ (List.mem_of_mem_tail hx)
end Go.Proofs.Ytclagkjjgmeifaa.G7


/- grove: the law's small and alike. -/
namespace Go.Proofs.Ytclagkjjgmeifaa.G7
open Go.Proofs.Ytclagkjjgmeifaa.Rx Go.Proofs.Ytclagkjjgmeifaa.D7
set_option linter.unusedVariables false
set_option linter.unusedSimpArgs false
set_option maxRecDepth 100000
set_option maxHeartbeats 16000000
def vA {R : Type} (xi xk xw : List Int) : Option (SB R) := some (.inr (.inr (.inl ⟨[.int .i64 0, .int .i64 0, .int .i64 0], xi.length, [⟨xi, [], []⟩, ⟨xk, [], []⟩, ⟨xw, [], []⟩]⟩)))
def smallB (x : List Int) (k : Nat) : Bool := (x.take k).all fun v => decide (-1000000 ≤ v) && decide (v ≤ 1000000)
theorem smallB_succ {x : List Int} {k : Nat} (hk : k < x.length) : smallB x (k + 1) = (smallB x k && (decide (-1000000 ≤ x.getD k 0) && decide (x.getD k 0 ≤ 1000000))) := by
  unfold smallB
  rw [take_succ_getD 0 hk, List.all_append]
  simp
theorem smallB_no {x : List Int} {k : Nat} (h : smallB x k = false) (hk : k ≤ x.length) : smallB x x.length = false := by
  have : ∀ j, k + j ≤ x.length → smallB x (k + j) = false := fun j => by
    induction j with
    | zero => exact fun _ => h
    | succ j ih =>
      intro hj
      rw [← Nat.add_assoc, smallB_succ (by omega), ih (by omega)]
      rfl
  have h2 := this (x.length - k) (by omega)
  rwa [show k + (x.length - k) = x.length by omega] at h2
theorem small_mild {x : List Int} (h : smallB x x.length = true) (hl : x.length ≤ 1000) : Mild x := by
  refine ⟨hl, fun v hv => ?_⟩
  unfold smallB at h
  rw [List.take_length, List.all_eq_true] at h
  have := h v hv
  simpa using this
def smallP {R : Type} : Prim R := fun args hh => match args, hh with
  | [.slice (some ⟨0, 0, some 3000⟩) n c, .int .i64 most], [some (.inr (.inr (.inl ⟨[.int .i64 0, .int .i64 0, .int .i64 0], n', [⟨xi, [], []⟩, ⟨xk, [], []⟩, ⟨xw, [], []⟩]⟩)))] => some ⟨n = xi.length ∧ n' = xi.length ∧ xw.length = xi.length ∧ most ≤ 1000, .bool (decide ((xi.length : Int) ≤ most) && smallB xw xw.length), none, hh, [], []⟩
  | _, _ => none
theorem small_ok {R : Type} {D : Res R} : ConOk D Try.prog 10 (con1 smallP) := by
  refine con1_ok (prim_at (fn := Try.f10) (root := codeOf Try.f10) (by kernel_rfl) (by kernel_rfl) (by kernel_rfl) fun args hh x hx => ?_)
  unfold smallP at hx
  split at hx
  · rename_i n c most n' xi xk xw
    injection hx with hx
    subst hx
    refine ⟨by first | exact Nat.le_refl _ | exact Nat.zero_le _ | exact Nat.le_succ _, noLit rfl, (fun hw => by first | rfl | cases hw), fun _ hv => ?_⟩
    obtain ⟨rfl, rfl, hxw, hm⟩ := hv
    generalize hG : Rx.Ends (R := R) _ _ = G
    refine rx_ok (T := []) trivial mixed 200 ?_
    refine as_text (q := let zz2 := Value.int IntKind.i64; let zz1 := (Value.slice (some (Addr.mk 0 0 (some 3000))) (List.length xi) c); (decide ((↑(List.length xi) : Int) > most) = true → Post (G (Value.bool false) [some (Sum.inr (Sum.inr (Sum.inl (Row.mk [zz2 0, zz2 0, zz2 0] (List.length xi) [Col.mk xi [] [], Col.mk xk [] [], Col.mk xw [] []]))))])) ∧ (decide ((↑(List.length xi) : Int) > most) = false → At D Try.prog (codeOf Try.f10) 1 (retK Try.prog (Array.toList (Func.results Try.f10)) G) [Sum.inl [1, 1, 0, 1, 0], Sum.inr (Sum.inl 0), Sum.inl [1, 1, 1]] (SS.mk [some zz1, some (zz2 most), none, none, some (Value.bool false), some (zz2 0), some zz1, some (zz2 (↑(List.length xi) : Int)), some (zz2 most), some (Value.bool false), none, none, none, none, none, none, none, none, none, none, none, none, none, none, none, none, none, none, none, none] [(9, false), (4, false)] [some (Sum.inr (Sum.inr (Sum.inl (Row.mk [zz2 0, zz2 0, zz2 0] (List.length xi) [Col.mk xi [] [], Col.mk xk [] [], Col.mk xw [] []]))))]))) ?_ (by kernel_rfl)
    intro zz2 zz1; subst zz1 zz2
    refine ⟨fun h => ?_, fun h => ?_⟩
    · have h0 : ¬ (xi.length : Int) ≤ most := by have := of_decide_eq_true h; omega
      subst hG
      rw [decide_eq_false h0]
      exact ⟨⟨⟨[0], rfl, rfl, ⟨rfl, trivial⟩, rfl, rfl, rfl, rfl⟩⟩⟩
    · have h0 : (xi.length : Int) ≤ most := by have := of_decide_eq_false h; omega
      refine loop_atM (by kernel_rfl) (ι := Nat) (fun i => i ≤ xi.length ∧ smallB xw i = true) [0, 5] (fun i => [.slice (some ⟨0, 0, some 3000⟩) xi.length c, .int .i64 i]) (fun i => [vA xi xk xw]) (fun i => xi.length - i) 30 (fun i hi => ⟨rfl, rfl, Nat.le_refl _⟩) ⟨0, ⟨Nat.zero_le _, rfl⟩, ⟨[0], rfl, ⟨rfl, trivial⟩, rfl, rfl, rfl, rfl⟩⟩ fun i hi => ?_
      refine rx_ok (T := []) trivial mixed 200 ?_
      refine as_text (q := let zz4 := Value.int IntKind.i64; let zz1 := (List.getD xw (0 + Int.toNat (↑i : Int)) (0 : Int) < (-1000000 : Int)); let zz2 := (List.getD xw (0 + Int.toNat (↑i : Int)) (0 : Int) > (1000000 : Int)); let zz3 := (G (Value.bool false) [some (Sum.inr (Sum.inr (Sum.inl (Row.mk [zz4 0, zz4 0, zz4 0] (List.length xi) [Col.mk xi [] [], Col.mk xk [] [], Col.mk xw [] []]))))]); (decide ((↑i : Int) < (↑(List.length xi) : Int)) = true → Vc ((0 : Int) ≤ (↑i : Int) ∧ (↑i : Int) < (↑(List.length xi) : Int) ∧ 0 + List.length xi ≤ List.length xi) ∧ Vc (0 + Int.toNat (↑i : Int) < List.length xi) ∧ (decide zz1 = false → Vc ((0 : Int) ≤ (↑i : Int) ∧ (↑i : Int) < (↑(List.length xi) : Int) ∧ 0 + List.length xi ≤ List.length xi) ∧ Vc (0 + Int.toNat (↑i : Int) < List.length xi) ∧ (decide zz2 = true → Post zz3) ∧ (decide zz2 = false → Vc (fits ((↑i : Int) + (1 : Int))) ∧ Post (∃ j, (j ≤ List.length xi ∧ smallB xw j = true) ∧ List.length xi - j < List.length xi - i ∧ FitsM R 1 30 [0, 5] [Value.slice (some (Addr.mk 0 0 (some 3000))) (List.length xi) c, zz4 (↑j : Int)] [vA xi xk xw] [some (Value.slice (some (Addr.mk 0 0 (some 3000))) (List.length xi) c), some (zz4 ((↑i : Int) + (1 : Int)))] [some (Sum.inr (Sum.inr (Sum.inl (Row.mk [zz4 0, zz4 0, zz4 0] (List.length xi) [Col.mk xi [] [], Col.mk xk [] [], Col.mk xw [] []]))))] 30))) ∧ (decide zz1 = true → Post zz3)) ∧ (decide ((↑i : Int) < (↑(List.length xi) : Int)) = false → Post (G (Value.bool true) [some (Sum.inr (Sum.inr (Sum.inl (Row.mk [zz4 0, zz4 0, zz4 0] (List.length xi) [Col.mk xi [] [], Col.mk xk [] [], Col.mk xw [] []]))))]))) ?_ (by kernel_rfl)
      intro zz4 zz1 zz2 zz3; subst zz3 zz2 zz1 zz4
      obtain ⟨hi1, hi2⟩ := hi
      have bad : i < xi.length → ¬ (-1000000 ≤ xw.getD i 0 ∧ xw.getD i 0 ≤ 1000000) → (decide ((xi.length : Int) ≤ most) && smallB xw xw.length) = false := fun hlt hb => by
        rw [smallB_no (k := i + 1) (by rw [smallB_succ (by omega), Bool.eq_false_iff]; intro h; simp [-List.getD_eq_getElem?_getD] at h; omega) (by omega), Bool.and_false]
      have good : i < xi.length → (-1000000 ≤ xw.getD i 0 ∧ xw.getD i 0 ≤ 1000000) → smallB xw (i + 1) = true := fun hlt hb => by
        rw [smallB_succ (by omega), hi2, decide_eq_true hb.1, decide_eq_true hb.2]; rfl
      repeat' (first | apply And.intro | apply Vc.mk | apply fits.mk | intro h | apply Post.mk)
      all_goals (try simp only [decide_eq_true_eq, decide_eq_false_iff_not, Nat.zero_add, ge_iff_le, Int.not_le, Int.not_lt, Int.toNat_natCast, beq_iff_eq, beq_eq_false_iff_ne, bne_iff_ne, bne_eq_false_iff_eq, Bool.not_eq_true', Bool.not_eq_false'] at *)
      all_goals first | contradiction | omega | (apply congrArg Value.bool; assumption) | exact congrArg Value.bool (decide_eq_true (by assumption)) | exact congrArg Value.bool (decide_eq_false (Int.not_lt.mpr (by assumption))) | exact ⟨rfl, by omega⟩ | exact rfl | (simp [*, -List.getD_eq_getElem?_getD]; done) | skip
      all_goals first
        | (have h9 : i < xi.length := by omega
           have h8 : ¬ (-1000000 ≤ xw.getD i 0 ∧ xw.getD i 0 ≤ 1000000) := by omega
           subst hG
           rw [bad h9 h8]
           exact ⟨[0], rfl, rfl, ⟨rfl, trivial⟩, rfl, rfl, rfl, rfl⟩)
        | exact ⟨i + 1, ⟨by omega, good (by omega) (by omega)⟩, by omega, ⟨[0], rfl, ⟨rfl, trivial⟩, rfl, rfl, rfl, rfl⟩⟩
        | (have h9 : i = xw.length := by omega
           rw [h9] at hi2
           subst hG
           rw [hi2, decide_eq_true h0]
           exact ⟨[0], rfl, rfl, ⟨rfl, trivial⟩, rfl, rfl, rfl, rfl⟩)
  · cases hx
abbrev gaM (K : Nat) (m : Pl) (r : Gv.Ref) : List El × Pl := Gv.gather O7 K (Gv.see m r) r
def alikeB (K : Nat) (m : Pl) (r : Gv.Ref) (xk xw : List Int) : Bool := decide ((Gv.lk O7 (gaM K m r).2 r).all.n = (xk.length : Int)) && sameC ((gaM K m r).1.map El.k) ((gaM K m r).1.map El.w) xk xw
def alikeM (K : Nat) (m : Pl) (r : Gv.Ref) : Pl := Gv.see (gaM K m r).2 r
def AlikeD (K : Nat) (m : Pl) (r : Gv.Ref) : Prop := Gv.Deep O7 K m r ∧ (Gv.lk O7 m r).all.n = (gaM K m r).1.length ∧ (gaM K m r).1.length < 900000
def zY2 : Nat → Bool := fun j => Nat.beq j 1
def alikeP (K : Nat) : Prim Rs := fun args hh => match args, hh with
  | [.pointer (some ⟨0, 0, none⟩), .slice (some ⟨2, 0, some 2000⟩) n c], [some (.inl (76, [.pointer (some ⟨1, 0, none⟩), .int .i64 ti, .int .i64 tg])), some (.inr (.inr (.inr (.pool m)))), some (.inr (.inr (.inl ⟨[.int .i64 0, .int .i64 0], n', [⟨xk, [], []⟩, ⟨xw, [], []⟩]⟩)))] => some ⟨PP m ∧ AlikeD K m ⟨ti, tg⟩ ∧ n = xk.length ∧ n' = xk.length ∧ xw.length = xk.length, .bool (alikeB K m ⟨ti, tg⟩ xk xw), none, [some (.inl (76, [.pointer (some ⟨1, 0, none⟩), .int .i64 ti, .int .i64 tg])), some (.inr (.inr (.inr (.pool (alikeM K m ⟨ti, tg⟩))))), some (.inr (.inr (.inl ⟨[.int .i64 0, .int .i64 0], n', [⟨xk, [], []⟩, ⟨xw, [], []⟩]⟩)))], [], [(0, 0)]⟩
  | _, _ => none
def TAlike (K : Nat) : Tab Rs := [(37, liftC zN 2 (con1 (gallP K))), (33, liftC zN 2 (con1 lenP)), (47, liftV zY 2 (con1 D7.sameP))]
theorem alike_ok (K : Nat) : ConOk D Try.prog 21 (con1 (alikeP K)) := by
  refine con1_ok (prim_at (fn := Try.f21) (root := codeOf Try.f21) (by kernel_rfl) (by kernel_rfl) (by kernel_rfl) fun args hh x hx => ?_)
  unfold alikeP at hx
  split at hx
  · rename_i n c ti tg m n' xk xw
    injection hx with hx
    subst hx
    refine ⟨by first | exact Nat.le_refl _ | exact Nat.zero_le _ | exact Nat.le_succ _, noLit rfl, (fun hw => by first | rfl | cases hw), fun _ hv => ?_⟩
    obtain ⟨hp, hd, rfl, rfl, hxw⟩ := hv
    generalize hG : Rx.Ends (R := Rs) _ _ = G
    refine rx_ok (T := (TAlike K)) (show TabOk D Try.prog (TAlike K) from ⟨liftC_ok _ _ (gall_ok K), liftC_ok _ _ len_ok, liftV_ok _ _ D7.same_ok, trivial⟩) mixed 200 ?_
    refine as_text (q := let zz3 := Value.int IntKind.i64; let zz1 := (Gv.gather O7 K (Gv.see m (Gv.Ref.mk ti tg)) (Gv.Ref.mk ti tg)); let zz2 := (Value.slice (some (Addr.mk 4 0 (some 2000))) (List.length (Prod.fst zz1)) 0); Vc (PP m ∧ Gv.Deep O7 K m (Gv.Ref.mk ti tg) ∧ Gv.Part.n (Gv.Node.all (Gv.lk O7 m (Gv.Ref.mk ti tg))) = (↑(List.length (Prod.fst zz1)) : Int) ∧ List.length (Prod.fst zz1) < 900000) ∧ At D Try.prog (codeOf Try.f21) 3 (retK Try.prog (Array.toList (Func.results Try.f21)) G) [Sum.inl [1, 1, 1, 0, 1, 0], Sum.inr (Sum.inl 0), Sum.inl [1, 1, 1, 1]] (SS.mk [some (Value.pointer (some (Addr.mk 0 0 none))), some (Value.slice (some (Addr.mk 2 0 (some 2000))) (List.length xk) c), none, none, some (Value.bool false), some (Value.slice (some (Addr.mk 3 0 (some 2000))) 0 0), some zz2, some (zz3 0), some (Value.pointer (some (Addr.mk 0 0 none))), some zz2, none, none, none, none, none, none, none, none, none, none, none, none, none, none, none, none, none, none, none, none, none, none, none, none, none, none, none, none, none, none] [(4, false)] [some (Sum.inl (76, [Value.pointer (some (Addr.mk 1 0 none)), zz3 ti, zz3 tg])), some (Sum.inr (Sum.inr (Sum.inr (Rs.pool (Prod.snd zz1))))), some (Sum.inr (Sum.inr (Sum.inl (Row.mk [zz3 0, zz3 0] (List.length xk) [Col.mk xk [] [], Col.mk xw [] []])))), some (Sum.inr (Sum.inl (38, Row.mk [zz3 0, zz3 0] 0 [Col.mk [] [] [], Col.mk [] [] []]))), some (Sum.inr (Sum.inl (28, Row.mk [zz3 0, zz3 0] (List.length (Prod.fst zz1)) [Col.mk (List.map (fun e => El.k e) (Prod.fst zz1)) [] [], Col.mk (List.map (fun e => El.w e) (Prod.fst zz1)) [] []])))])) ?_ (by kernel_rfl)
    intro zz3 zz1 zz2; subst zz2 zz1 zz3
    obtain ⟨L, mm, eL⟩ : ∃ L mm, Gv.gather O7 K (Gv.see m ⟨ti, tg⟩) ⟨ti, tg⟩ = (L, mm) := ⟨_, _, rfl⟩
    obtain ⟨hd1, hd2, hd3⟩ := hd
    have hd2' := hd2
    have hd3' := hd3
    unfold gaM at hd2' hd3'
    have hmm : PP mm := by
      have : PP (Gv.gather O7 K (Gv.see m ⟨ti, tg⟩) ⟨ti, tg⟩).2 := by simp only [Gv.gather_ok, Gv.see_ok]; exact hp
      rw [eL] at this
      exact this
    have hB : alikeB K m ⟨ti, tg⟩ xk xw = (decide ((Gv.lk O7 mm ⟨ti, tg⟩).all.n = (xk.length : Int)) && sameC (L.map El.k) (L.map El.w) xk xw) := by unfold alikeB gaM; rw [eL]
    have hM : alikeM K m ⟨ti, tg⟩ = Gv.see mm ⟨ti, tg⟩ := by unfold alikeM gaM; rw [eL]
    rw [hB, hM] at hG
    rw [eL] at hd2' hd3'
    simp only at hd2' hd3'
    refine ⟨⟨hp, hd1, hd2, hd3⟩, ?_⟩
    simp only [eL]
    refine loop_atM (by kernel_rfl) (ι := Nat) (fun i => i ≤ L.length) [0, 1, 5, 6, 7] (fun i => [.pointer (some ⟨0, 0, none⟩), .slice (some ⟨2, 0, some 2000⟩) xk.length c, .slice (some ⟨3, 0, some 2000⟩) i 0, .slice (some ⟨4, 0, some 2000⟩) L.length 0, .int .i64 i])
      (fun i => [some (.inl (76, [.pointer (some ⟨1, 0, none⟩), .int .i64 ti, .int .i64 tg])), some (.inr (.inr (.inr (.pool mm)))), vE xk xw,
        some (.inr (.inl (38, ⟨[.int .i64 0, .int .i64 0], i, [⟨(L.map El.k).take i, [], []⟩, ⟨(L.map El.w).take i, [], []⟩]⟩))),
        some (.inr (.inl (28, ⟨[.int .i64 0, .int .i64 0], L.length, [⟨L.map El.k, [], []⟩, ⟨L.map El.w, [], []⟩]⟩)))]) (fun i => L.length - i) 40 (fun i hi => ⟨rfl, rfl, by simp⟩)
      ⟨0, Nat.zero_le _, ⟨[0, 1, 2, 3, 4], rfl, ⟨.inl rfl, rfl, rfl, ⟨_, rfl, .inl rfl⟩, ⟨_, rfl, .inl rfl⟩, trivial⟩, rfl, rfl, rfl, rfl⟩⟩ fun i hi => ?_
    refine rx_ok (T := TAlike K) (show TabOk D Try.prog (TAlike K) from ⟨liftC_ok _ _ (gall_ok K), liftC_ok _ _ len_ok, liftV_ok _ _ D7.same_ok, trivial⟩) mixed 200 ?_
    refine as_text (q := let zz6 := Value.pointer (some (Addr.mk 1 0 none)); let zz7 := Value.int IntKind.i64; let zz1 := (List.length xk); let zz2 := (List.map El.k L); let zz3 := (List.map El.w L); let zz4 := (Gv.Part.n (Gv.Node.all (Gv.lk O7 mm (Gv.Ref.mk ti tg))) == (↑zz1 : Int)); let zz5 := (cut (List.take i zz2) 0 i); (decide ((↑i : Int) < (↑(List.length L) : Int)) = true → Vc ((0 : Int) ≤ (↑i : Int) ∧ (↑i : Int) < (↑(List.length L) : Int) ∧ 0 + List.length L ≤ List.length L) ∧ Vc (0 + Int.toNat (↑i : Int) < List.length L) ∧ Vc ((0 : Int) ≤ (↑i : Int) ∧ (↑i : Int) < (↑(List.length L) : Int) ∧ 0 + List.length L ≤ List.length L) ∧ Vc (0 + Int.toNat (↑i : Int) < List.length L) ∧ Vc (0 + i ≤ i ∧ 1 ≤ 1 ∧ (i + 1) * 16 ≤ 140737488355328 ∧ i + 1 ≤ 140737488355328) ∧ Vc (fits ((↑i : Int) + (1 : Int))) ∧ Post (∃ j, j ≤ List.length L ∧ List.length L - j < List.length L - i ∧ FitsM Rs 3 40 [0, 1, 5, 6, 7] [Value.pointer (some (Addr.mk 0 0 none)), Value.slice (some (Addr.mk 2 0 (some 2000))) zz1 c, Value.slice (some (Addr.mk 3 0 (some 2000))) j 0, Value.slice (some (Addr.mk 4 0 (some 2000))) (List.length L) 0, zz7 (↑j : Int)] [some (Sum.inl ((76 : TypeId), [zz6, zz7 ti, zz7 tg])), some (Sum.inr (Sum.inr (Sum.inr (Rs.pool mm)))), vE xk xw, some (Sum.inr (Sum.inl ((38 : TypeId), Row.mk [zz7 0, zz7 0] j [Col.mk (List.take j zz2) [] [], Col.mk (List.take j zz3) [] []]))), some (Sum.inr (Sum.inl ((28 : TypeId), Row.mk [zz7 0, zz7 0] (List.length L) [Col.mk zz2 [] [], Col.mk zz3 [] []])))] [some (Value.pointer (some (Addr.mk 0 0 none))), some (Value.slice (some (Addr.mk 2 0 (some 2000))) zz1 c), some (Value.slice (some (Addr.mk 6 0 (some 2000))) (i + 1) 0), some (Value.slice (some (Addr.mk 4 0 (some 2000))) (List.length L) 0), some (zz7 ((↑i : Int) + (1 : Int)))] [some (Sum.inl (76, [zz6, zz7 ti, zz7 tg])), some (Sum.inr (Sum.inr (Sum.inr (Rs.pool mm)))), some (Sum.inr (Sum.inr (Sum.inl (Row.mk [zz7 0, zz7 0] zz1 [Col.mk xk [] [], Col.mk xw [] []])))), none, some (Sum.inr (Sum.inl (28, Row.mk [zz7 0, zz7 0] (List.length L) [Col.mk zz2 [] [], Col.mk zz3 [] []]))), some (Sum.inr (Sum.inl (38, Row.mk [zz7 0, zz7 0] 1 [Col.mk [List.getD zz2 (0 + Int.toNat (↑i : Int)) (0 : Int)] [] [], Col.mk [List.getD zz3 (0 + Int.toNat (↑i : Int)) (0 : Int)] [] []]))), some (Sum.inr (Sum.inl (38, Row.mk [zz7 0, zz7 0] (i + 1) [Col.mk (cut (List.take i zz2) 0 i ++ cut [List.getD zz2 (0 + Int.toNat (↑i : Int)) (0 : Int)] 0 1) [] [], Col.mk (cut (List.take i zz3) 0 i ++ cut [List.getD zz3 (0 + Int.toNat (↑i : Int)) (0 : Int)] 0 1) [] []])))] 40)) ∧ (decide ((↑i : Int) < (↑(List.length L) : Int)) = false → Vc (PP mm) ∧ (zz4 = true → Vc ((0 + i ≤ i ∧ 0 + List.length xk ≤ List.length xk ∧ True) ∧ i = List.length zz5 ∧ i = List.length zz5 ∧ List.length (cut (List.take i zz3) 0 i) = List.length zz5 ∧ List.length xk = List.length (cut xk 0 zz1) ∧ List.length xk = List.length (cut xk 0 zz1) ∧ List.length (cut xw 0 zz1) = List.length (cut xk 0 zz1) ∧ List.length zz5 ≤ 1000000) ∧ Post (G (Value.bool (sameC zz5 (cut (List.take i zz3) 0 i) (cut xk 0 zz1) (cut xw 0 zz1))) [some (Sum.inl (76, [zz6, zz7 ti, zz7 tg])), some (Sum.inr (Sum.inr (Sum.inr (Rs.pool (Gv.see mm (Gv.Ref.mk ti tg)))))), some (Sum.inr (Sum.inr (Sum.inl (Row.mk [zz7 0, zz7 0] zz1 [Col.mk xk [] [], Col.mk xw [] []])))), some (Sum.inr (Sum.inl (38, Row.mk [zz7 0, zz7 0] i [Col.mk (List.take i zz2) [] [], Col.mk (List.take i zz3) [] []]))), some (Sum.inr (Sum.inl (28, Row.mk [zz7 0, zz7 0] (List.length L) [Col.mk zz2 [] [], Col.mk zz3 [] []])))])) ∧ (zz4 = false → Post (G (Value.bool false) [some (Sum.inl (76, [zz6, zz7 ti, zz7 tg])), some (Sum.inr (Sum.inr (Sum.inr (Rs.pool (Gv.see mm (Gv.Ref.mk ti tg)))))), some (Sum.inr (Sum.inr (Sum.inl (Row.mk [zz7 0, zz7 0] zz1 [Col.mk xk [] [], Col.mk xw [] []])))), some (Sum.inr (Sum.inl (38, Row.mk [zz7 0, zz7 0] i [Col.mk (List.take i zz2) [] [], Col.mk (List.take i zz3) [] []]))), some (Sum.inr (Sum.inl (28, Row.mk [zz7 0, zz7 0] (List.length L) [Col.mk zz2 [] [], Col.mk zz3 [] []])))])))) ?_ (by kernel_rfl)
    intro zz6 zz7 zz1 zz2 zz3 zz4 zz5; subst zz5 zz4 zz3 zz2 zz1 zz7 zz6
    have e0 : 0 + (i : Int).toNat = i := by omega
    have c0 : ∀ v : Int, cut [v] 0 1 = [v] := fun _ => rfl
    have c1 : cut ((L.map El.k).take i) 0 i = (L.map El.k).take i := cut_eq (by simp; omega)
    have c2 : cut ((L.map El.w).take i) 0 i = (L.map El.w).take i := cut_eq (by simp; omega)
    have c3 : cut xk 0 xk.length = xk := cut_all _
    have c4 : cut xw 0 xk.length = xw := cut_eq hxw
    simp only [e0, c0, c1, c2, c3, c4]
    refine ⟨fun h => ?_, fun h => ?_⟩
    · have hlt : i < L.length := by have := of_decide_eq_true h; omega
      have s1 : (L.map El.k).take i ++ [(L.map El.k).getD i 0] = (L.map El.k).take (i + 1) := (take_succ_getD 0 (by simpa using hlt)).symm
      have s2 : (L.map El.w).take i ++ [(L.map El.w).getD i 0] = (L.map El.w).take (i + 1) := (take_succ_getD 0 (by simpa using hlt)).symm
      simp only [s1, s2]
      clear h
      repeat' (first | apply And.intro | apply Vc.mk | apply fits.mk | intro h | apply Post.mk)
      all_goals (try simp only [decide_eq_true_eq, decide_eq_false_iff_not, Nat.zero_add, ge_iff_le, Int.not_le, Int.not_lt, Int.toNat_natCast, beq_iff_eq, beq_eq_false_iff_ne, bne_iff_ne, bne_eq_false_iff_eq, Bool.not_eq_true', Bool.not_eq_false'] at *)
      all_goals first | contradiction | omega | (apply congrArg Value.bool; assumption) | exact congrArg Value.bool (decide_eq_true (by assumption)) | exact congrArg Value.bool (decide_eq_false (Int.not_lt.mpr (by assumption))) | exact ⟨rfl, by omega⟩ | exact rfl | (simp [*, -List.getD_eq_getElem?_getD]; done) | skip
      exact ⟨i + 1, hlt, by omega, ⟨[0, 1, 2, 6, 4], rfl, ⟨.inl rfl, rfl, rfl, ⟨_, rfl, .inl rfl⟩, ⟨_, rfl, .inl rfl⟩, trivial⟩, rfl, rfl, rfl, rfl⟩⟩
    · obtain rfl : i = L.length := by have := of_decide_eq_false h; omega
      have t1 : (L.map El.k).take L.length = L.map El.k := List.take_of_length_le (by simp)
      have t2 : (L.map El.w).take L.length = L.map El.w := List.take_of_length_le (by simp)
      simp only [t1, t2]
      clear h
      have done : ∀ (b : Bool) (rest : Hp Rs), b = (decide ((Gv.lk O7 mm ⟨ti, tg⟩).all.n = (xk.length : Int)) && sameC (L.map El.k) (L.map El.w) xk xw) → G (.bool b) ([some (.inl (76, [.pointer (some ⟨1, 0, none⟩), .int .i64 ti, .int .i64 tg])), some (.inr (.inr (.inr (.pool (Gv.see mm ⟨ti, tg⟩))))), vE xk xw] ++ rest) := by
        intro b rest hb
        subst hG
        rw [hb]
        exact ⟨[0, 1, 2], rfl, rfl, ⟨.inl rfl, rfl, rfl, trivial⟩, rfl, rfl, rfl, rfl⟩
      clear hG
      repeat' (first | apply And.intro | apply Vc.mk | apply fits.mk | intro h | apply Post.mk)
      all_goals (try simp only [decide_eq_true_eq, decide_eq_false_iff_not, Nat.zero_add, ge_iff_le, Int.not_le, Int.not_lt, Int.toNat_natCast, beq_iff_eq, beq_eq_false_iff_ne, bne_iff_ne, bne_eq_false_iff_eq, Bool.not_eq_true', Bool.not_eq_false'] at *)
      all_goals first | contradiction | omega | (apply congrArg Value.bool; assumption) | exact congrArg Value.bool (decide_eq_true (by assumption)) | exact congrArg Value.bool (decide_eq_false (Int.not_lt.mpr (by assumption))) | exact ⟨rfl, by omega⟩ | exact rfl | (simp [*, -List.getD_eq_getElem?_getD]; done) | skip
      · rw [List.length_map]; omega
      · exact done _ _ (by rw [decide_eq_true ‹_›, Bool.true_and])
      · exact done _ _ (by rw [decide_eq_false ‹_›, Bool.false_and])
  · cases hx
end Go.Proofs.Ytclagkjjgmeifaa.G7


