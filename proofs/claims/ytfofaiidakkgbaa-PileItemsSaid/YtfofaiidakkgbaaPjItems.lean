/- pile: the law PileItems. -/
import Derived.Test.YtfofaiidakkgbaaPiAwake
import Derived.Test.YtfofaiidakkgbaaPjPool
import Derived.Test.YtfofaiidakkgbaaRef02
import Derived.IntWalk
import Derived.Test.YtfofaiidakkgbaaRxC
namespace Go.Proofs.Ytfofaiidakkgbaa.Pi
open Go.Proofs.Ytfofaiidakkgbaa.Rx
set_option linter.unusedVariables false
set_option linter.unusedSimpArgs false
set_option maxRecDepth 100000
set_option maxHeartbeats 16000000
def itemsRow (a b : List Int) : Row := ⟨[.int .i64 0, .int .i64 0], a.length, [colI a, colI b]⟩
def TJ2 : Tab Rs := (7, liftC zN 2 (con1 awakeP)) :: (21, liftV zY 2 (con1 sameP)) :: (19, liftC zN 2 (con1 jnewP)) :: (20, liftC zN 2 (con1 jpushP)) :: (23, liftC zN 2 (con1 jpopP)) :: (22, liftC zN 2 (con1 jlistP)) :: (24, liftC zN 2 (con1 jlenP)) :: TL
theorem TJ2_ok : TabOk D Try.prog TJ2 := ⟨liftC_ok _ _ awake_ok, liftV_ok _ _ same_ok, liftC_ok _ _ jnew_ok, liftC_ok _ _ jpush_ok, liftC_ok _ _ jpop_ok, liftC_ok _ _ jlist_ok, liftC_ok _ _ jlen_ok, TL_ok⟩
/-- after i pushes onto a pile of limit n -/
structure Pushed (a b : List Int) (n i : Nat) (m : PJ) : Prop where
  ok : m.Ok (i + 1)
  lim : m.lim = n
  x : m.x = (a.take i).drop (i - n)
  y : m.y = (b.take i).drop (i - n)
theorem take_snocD {a : List Int} {i : Nat} (h : i < a.length) (n : Nat) : (a.take (i + 1)).drop (i - n) = (a.take i).drop (i - n) ++ [a.getD i 0] := by
  rw [take_succ_getD 0 h, List.drop_append_of_le_length (by simp; omega)]
theorem Pushed.step {a b : List Int} {n i : Nat} {m : PJ} (h : Pushed a b n i m) (hi : i < a.length) (hb : b.length = a.length) (hi2 : i < 10000) : Pushed a b n (i + 1) (m.push (a.getD i 0) (b.getD i 0)) := by
  obtain ⟨⟨h1, h2, h3, h4, h5, h6, h7, h8⟩, hl, hx, hy⟩ := h
  have tx := take_snocD hi n
  have ty := take_snocD (a := b) (by omega : i < b.length) n
  rw [← hx] at tx
  rw [← hy] at ty
  by_cases ho : ((m.x.length + 1 : Nat) : Int) > m.lim
  · obtain ⟨v, vs, e⟩ := snoc_cons m.x (a.getD i 0)
    obtain ⟨u, us, e'⟩ := snoc_cons m.y (b.getD i 0)
    have q1 : m.x.length = vs.length := by have := congrArg List.length e; simpa using this
    have q2 : m.y.length = us.length := by have := congrArg List.length e'; simpa using this
    have hn : n ≤ i := by
      rw [hx] at ho
      simp at ho
      omega
    rw [(PJ.push_over m _ _ v u vs us ho e e').1]
    rw [e] at tx
    rw [e'] at ty
    have es : i + 1 - n = (i - n) + 1 := by omega
    refine ⟨⟨h1, h2, ?_, by simp only; omega, fun h => (by cases h), by simp only; omega, rfl, rfl⟩, hl, ?_, ?_⟩
    · simp; omega
    · simp only
      rw [es, ← List.drop_drop, tx]
      rfl
    · simp only
      rw [es, ← List.drop_drop, ty]
      rfl
  · rw [(PJ.push_room m _ _ (by omega)).1]
    have hn : i < n := by
      rw [hx] at ho
      simp at ho
      omega
    have es : i + 1 - n = i - n := by omega
    refine ⟨⟨h1, h2, ?_, by simp; omega, fun _ => ⟨rfl, rfl⟩, by simp; omega, rfl, rfl⟩, hl, ?_, ?_⟩
    · simp; omega
    · rw [es, tx]
    · rw [es, ty]
theorem PJ.Ok.pop {m : PJ} {n : Nat} (h : m.Ok n) : m.pop.Ok n := by
  obtain ⟨h1, h2, h3, h4, h5, h6, h7, h8⟩ := h
  by_cases h0 : m.x.length = 0
  · rw [PJ.pop, if_pos h0]; exact ⟨h1, h2, h3, h4, h5, h6, h7, h8⟩
  · rw [PJ.pop, if_neg h0]
    refine ⟨h1, h2, ?_, ?_, h5, ?_, h7, ?_⟩ <;> (simp; omega)
theorem drop_getD (a : List Int) (d i : Nat) : (a.drop d).getD i 0 = a.getD (d + i) 0 := by
  simp only [List.getD_eq_getElem?_getD, List.getElem?_drop]
theorem take_snoc {a : List Int} {n : Nat} (h0 : 0 < n) (h : n ≤ a.length) : a.take n = a.take (n - 1) ++ [a.getD (n - 1) 0] := by
  have := take_succ_getD (l := a) 0 (i := n - 1) (by omega)
  rwa [Nat.sub_add_cancel h0] at this
theorem cut_drop {a : List Int} {d k : Nat} (h : d + k = a.length) : cut a d k = a.drop d := by
  unfold cut
  rw [List.take_of_length_le (by simp; omega)]
theorem items_run {G : Value → Hp Rs → Prop} {a b : List Int} {c : Int} (hc : 0 ≤ c ∧ c < 256) (hb : b.length = a.length) (hG : ∀ hp, G (.bool true) hp) :
    At D Try.prog (codeOf Try.f4) 1 (retK Try.prog Try.f4.results.toList G) [.inl []] ⟨someL [.int .u8 c, .slice (some ⟨0, 0, some 2000⟩) a.length 0] ++ List.replicate (Try.f4.ntmps - 2) none, [], [some (.inr (.inr (.inl (itemsRow a b))))]⟩ := by
  refine rx_ok (T := TJ2) TJ2_ok mixed 200 ?_
  refine as_text (q := Vc True ∧ (false = false → (decide ((↑(List.length a) : Int) > (60 : Int)) = true → Vc True ∧ Post (G (Value.bool true) [some (Sum.inr (Sum.inr (Sum.inl (Row.mk [Value.int IntKind.i64 0, Value.int IntKind.i64 0] (List.length a) [Col.mk a [] [], Col.mk b [] []]))))])) ∧ (decide ((↑(List.length a) : Int) > (60 : Int)) = false → Vc True ∧ Vc ((40 : Int) ≠ (0 : Int)) ∧ Vc True ∧ At D Try.prog (codeOf Try.f4) 1 (retK Try.prog (Array.toList (Func.results Try.f4)) G) [Sum.inl [1, 1, 1, 1, 0, 1, 0], Sum.inr (Sum.inl 0), Sum.inl [1, 1, 1, 1, 1]] (SS.mk [some (Value.int IntKind.u8 c), some (Value.slice (some (Addr.mk 0 0 (some 2000))) (List.length a) 0), none, none, some (Value.bool false), some (Value.int IntKind.i64 (Int.tmod (IntKind.wrap IntKind.i64 c) (40 : Int))), some (Value.pointer (some (Addr.mk 1 0 none))), some (Value.int IntKind.i64 0), none, none, none, none, none, none, some (Value.bool true), some (Value.bool false), some (Value.bool false), some (Value.slice (some (Addr.mk 0 0 (some 2000))) (List.length a) 0), some (Value.int IntKind.i64 (↑(List.length a) : Int)), some (Value.bool (decide ((↑(List.length a) : Int) > (60 : Int)))), some (Value.bool false), none, some (Value.int IntKind.u8 c), some (Value.int IntKind.i64 (IntKind.wrap IntKind.i64 c)), some (Value.int IntKind.i64 (Int.tmod (IntKind.wrap IntKind.i64 c) (40 : Int))), some (Value.int IntKind.i64 (Int.tmod (IntKind.wrap IntKind.i64 c) (40 : Int))), some (Value.pointer (some (Addr.mk 1 0 none))), none, none, none, none, none, none, none, none, none, none, none, none, none, none, none, none, none, none, none, none, none, none, none, none, none, none, none, none, none, none, none, none, none, none, none, none, none, none, none, none, none, none, none, none, none, none, none, none, none, none, none, none, none, none, none, none, none, none, none, none, none, none, none, none, none, none, none] [(20, false), (16, false), (4, false)] [some (Sum.inr (Sum.inr (Sum.inl (Row.mk [Value.int IntKind.i64 0, Value.int IntKind.i64 0] (List.length a) [Col.mk a [] [], Col.mk b [] []])))), some (Sum.inr (Sum.inr (Sum.inr (Rs.items (PJ.mk (min (max (Int.tmod (IntKind.wrap IntKind.i64 c) (40 : Int)) (0 : Int)) (10000 : Int)) [] [] [] [] [] [] false)))))]))) ∧ (false = true → Vc True ∧ Post (G (Value.bool true) [some (Sum.inr (Sum.inr (Sum.inl (Row.mk [Value.int IntKind.i64 0, Value.int IntKind.i64 0] (List.length a) [Col.mk a [] [], Col.mk b [] []]))))]))) ?_ (by kernel_rfl)
  have hw : IntKind.wrap IntKind.i64 c = c := IntWalk.i64_in _ (by omega)
  have hk : 0 ≤ Int.tmod c 40 ∧ Int.tmod c 40 < 40 := ⟨Int.tmod_nonneg _ hc.1, Int.tmod_lt_of_pos _ (by omega)⟩
  rw [hw]
  obtain ⟨n, hn⟩ := Int.eq_ofNat_of_zero_le hk.1
  rw [hn] at hk ⊢
  have hm : min (max (n : Int) 0) 10000 = n := by omega
  rw [hm]
  repeat' (first | apply And.intro | apply Vc.mk | apply fits.mk | intro h | apply Post.mk)
  all_goals (try simp only [decide_eq_true_eq, decide_eq_false_iff_not, Nat.zero_add, ge_iff_le, Int.not_le, Int.not_lt, Int.toNat_natCast, beq_iff_eq, beq_eq_false_iff_ne, bne_iff_ne, bne_eq_false_iff_eq, Bool.not_eq_true', Bool.not_eq_false'] at *)
  all_goals first | contradiction | omega | (apply congrArg Value.bool; assumption) | exact ⟨rfl, by omega⟩ | exact rfl | (simp [*, -List.getD_eq_getElem?_getD]; done) | skip
  have hal : a.length ≤ 60 := by omega
  refine loop_atM (by kernel_rfl) (ι := Nat × PJ) (fun s => s.1 ≤ a.length ∧ Pushed a b n s.1 s.2) [1, 5, 6, 7] (fun s => [.slice (some ⟨0, 0, some 2000⟩) a.length 0, .int .i64 n, .pointer (some ⟨1, 0, none⟩), .int .i64 s.1]) (fun s => [some (.inr (.inr (.inl (itemsRow a b)))), some (.inr (.inr (.inr (.items s.2))))]) (fun s => a.length - s.1) 94 (fun s hs => ⟨rfl, rfl, Nat.succ_le_succ (Nat.zero_le _)⟩) ⟨(0, ⟨n, [], [], [], [], [], [], false⟩), ⟨Nat.zero_le _, ⟨⟨by simp only; omega, by simp only; omega, Nat.zero_le _, by simp only [List.length_nil]; omega, fun _ => ⟨rfl, rfl⟩, rfl, rfl, rfl⟩, rfl, by simp, by simp⟩⟩, ⟨[0, 1], rfl, ?_, rfl, rfl, rfl, rfl⟩⟩ fun s hs => ?_
  · simp [itemsRow, Pulls, pullB, nth, at2, dnL, dnV, mvL, mvV, mvA, mvQ_lt, blt_true, blt_false, RowLe, colI, colB]
  obtain ⟨i, m⟩ := s
  obtain ⟨o1, o2⟩ := hs
  simp only at o1 o2
  have ok : m.Ok 20000 := o2.ok.mono (by omega)
  refine rx_ok (T := TJ2) TJ2_ok mixed 200 ?_
  refine as_text (q := (decide ((↑i : Int) < (↑(List.length a) : Int)) = true → Vc ((0 : Int) ≤ (↑i : Int) ∧ (↑i : Int) < (↑(List.length a) : Int) ∧ 0 + List.length a ≤ List.length a) ∧ Vc (0 + Int.toNat (↑i : Int) < List.length a) ∧ Vc (PJ.Ok 20000 m) ∧ Vc (fits ((↑i : Int) + (1 : Int))) ∧ Post (∃ j, (Prod.fst j ≤ List.length a ∧ Pushed a b n (Prod.fst j) (Prod.snd j)) ∧ List.length a - Prod.fst j < List.length a - i ∧ FitsM Rs 1 94 [1, 5, 6, 7] [Value.slice (some (Addr.mk 0 0 (some 2000))) (List.length a) 0, Value.int IntKind.i64 (↑n : Int), Value.pointer (some (Addr.mk 1 0 none)), Value.int IntKind.i64 (↑(Prod.fst j) : Int)] [some (Sum.inr (Sum.inr (Sum.inl (itemsRow a b)))), some (Sum.inr (Sum.inr (Sum.inr (Rs.items (Prod.snd j)))))] [some (Value.slice (some (Addr.mk 0 0 (some 2000))) (List.length a) 0), some (Value.int IntKind.i64 (↑n : Int)), some (Value.pointer (some (Addr.mk 1 0 none))), some (Value.int IntKind.i64 ((↑i : Int) + (1 : Int)))] [some (Sum.inr (Sum.inr (Sum.inl (Row.mk [Value.int IntKind.i64 0, Value.int IntKind.i64 0] (List.length a) [Col.mk a [] [], Col.mk b [] []])))), some (Sum.inr (Sum.inr (Sum.inr (Rs.items (PJ.push m (List.getD a (0 + Int.toNat (↑i : Int)) (0 : Int)) (List.getD b (0 + Int.toNat (↑i : Int)) (0 : Int)))))))] 94)) ∧ (decide ((↑i : Int) < (↑(List.length a) : Int)) = false → Vc (PJ.Ok 20000 m) ∧ Vc (fits ((↑(List.length a) : Int) - if (↑(List.length a) : Int) < (↑n : Int) then (↑(List.length a) : Int) else (↑n : Int))) ∧ Vc (0 = 0 ∧ ((0 : Int) ≤ (↑(List.length a) : Int) - if (↑(List.length a) : Int) < (↑n : Int) then (↑(List.length a) : Int) else (↑n : Int)) ∧ ((↑(List.length a) : Int) - if (↑(List.length a) : Int) < (↑n : Int) then (↑(List.length a) : Int) else (↑n : Int)) ≤ (↑(List.length a) : Int) ∧ (↑(List.length a) : Int) ≤ (↑(List.length a) : Int) ∧ 0 + List.length a ≤ List.length a) ∧ Vc ((0 + List.length (PJ.x m) ≤ List.length (PJ.x m) ∧ 0 + Int.toNat ((↑(List.length a) : Int) - if (↑(List.length a) : Int) < (↑n : Int) then (↑(List.length a) : Int) else (↑n : Int)) + Int.toNat ((↑(List.length a) : Int) - ((↑(List.length a) : Int) - if (↑(List.length a) : Int) < (↑n : Int) then (↑(List.length a) : Int) else (↑n : Int))) ≤ List.length a ∧ True) ∧ List.length (PJ.x m) = List.length (cut (PJ.x m) 0 (List.length (PJ.x m))) ∧ List.length (PJ.x m) = List.length (cut (PJ.x m) 0 (List.length (PJ.x m))) ∧ Int.toNat ((↑(List.length a) : Int) - ((↑(List.length a) : Int) - if (↑(List.length a) : Int) < (↑n : Int) then (↑(List.length a) : Int) else (↑n : Int))) = List.length (cut a (0 + Int.toNat ((↑(List.length a) : Int) - if (↑(List.length a) : Int) < (↑n : Int) then (↑(List.length a) : Int) else (↑n : Int))) (Int.toNat ((↑(List.length a) : Int) - ((↑(List.length a) : Int) - if (↑(List.length a) : Int) < (↑n : Int) then (↑(List.length a) : Int) else (↑n : Int))))) ∧ Int.toNat ((↑(List.length a) : Int) - ((↑(List.length a) : Int) - if (↑(List.length a) : Int) < (↑n : Int) then (↑(List.length a) : Int) else (↑n : Int))) = List.length (cut a (0 + Int.toNat ((↑(List.length a) : Int) - if (↑(List.length a) : Int) < (↑n : Int) then (↑(List.length a) : Int) else (↑n : Int))) (Int.toNat ((↑(List.length a) : Int) - ((↑(List.length a) : Int) - if (↑(List.length a) : Int) < (↑n : Int) then (↑(List.length a) : Int) else (↑n : Int))))) ∧ List.length (cut (PJ.x m) 0 (List.length (PJ.x m))) < 1000000 ∧ List.length (cut (PJ.y m) 0 (List.length (PJ.x m))) = List.length (cut (PJ.x m) 0 (List.length (PJ.x m))) ∧ List.length (cut b (0 + Int.toNat ((↑(List.length a) : Int) - if (↑(List.length a) : Int) < (↑n : Int) then (↑(List.length a) : Int) else (↑n : Int))) (Int.toNat ((↑(List.length a) : Int) - ((↑(List.length a) : Int) - if (↑(List.length a) : Int) < (↑n : Int) then (↑(List.length a) : Int) else (↑n : Int))))) = List.length (cut a (0 + Int.toNat ((↑(List.length a) : Int) - if (↑(List.length a) : Int) < (↑n : Int) then (↑(List.length a) : Int) else (↑n : Int))) (Int.toNat ((↑(List.length a) : Int) - ((↑(List.length a) : Int) - if (↑(List.length a) : Int) < (↑n : Int) then (↑(List.length a) : Int) else (↑n : Int)))))) ∧ ((!decide (cut (PJ.x m) 0 (List.length (PJ.x m)) = cut a (0 + Int.toNat ((↑(List.length a) : Int) - if (↑(List.length a) : Int) < (↑n : Int) then (↑(List.length a) : Int) else (↑n : Int))) (Int.toNat ((↑(List.length a) : Int) - ((↑(List.length a) : Int) - if (↑(List.length a) : Int) < (↑n : Int) then (↑(List.length a) : Int) else (↑n : Int)))) ∧ cut (PJ.y m) 0 (List.length (PJ.x m)) = cut b (0 + Int.toNat ((↑(List.length a) : Int) - if (↑(List.length a) : Int) < (↑n : Int) then (↑(List.length a) : Int) else (↑n : Int))) (Int.toNat ((↑(List.length a) : Int) - ((↑(List.length a) : Int) - if (↑(List.length a) : Int) < (↑n : Int) then (↑(List.length a) : Int) else (↑n : Int)))))) = true → Post (G (Value.bool false) [some (Sum.inr (Sum.inr (Sum.inl (Row.mk [Value.int IntKind.i64 0, Value.int IntKind.i64 0] (List.length a) [Col.mk a [] [], Col.mk b [] []])))), some (Sum.inr (Sum.inr (Sum.inr (Rs.items m)))), some (Sum.inr (Sum.inl (43, Row.mk [Value.int IntKind.i64 0, Value.int IntKind.i64 0] (List.length (PJ.x m)) [Col.mk (PJ.x m) [] [], Col.mk (PJ.y m) [] []])))])) ∧ ((!decide (cut (PJ.x m) 0 (List.length (PJ.x m)) = cut a (0 + Int.toNat ((↑(List.length a) : Int) - if (↑(List.length a) : Int) < (↑n : Int) then (↑(List.length a) : Int) else (↑n : Int))) (Int.toNat ((↑(List.length a) : Int) - ((↑(List.length a) : Int) - if (↑(List.length a) : Int) < (↑n : Int) then (↑(List.length a) : Int) else (↑n : Int)))) ∧ cut (PJ.y m) 0 (List.length (PJ.x m)) = cut b (0 + Int.toNat ((↑(List.length a) : Int) - if (↑(List.length a) : Int) < (↑n : Int) then (↑(List.length a) : Int) else (↑n : Int))) (Int.toNat ((↑(List.length a) : Int) - ((↑(List.length a) : Int) - if (↑(List.length a) : Int) < (↑n : Int) then (↑(List.length a) : Int) else (↑n : Int)))))) = false → At D Try.prog (codeOf Try.f4) 1 (retK Try.prog (Array.toList (Func.results Try.f4)) G) [Sum.inl [1, 1, 1, 1, 1, 1, 1, 0, 1, 0], Sum.inr (Sum.inl 2), Sum.inl [1, 1, 1, 1, 1, 1, 1, 1]] (SS.mk [none, some (Value.slice (some (Addr.mk 0 0 (some 2000))) (List.length a) 0), none, none, none, some (Value.int IntKind.i64 (↑n : Int)), some (Value.pointer (some (Addr.mk 1 0 none))), some (Value.int IntKind.i64 (↑i : Int)), some (Value.int IntKind.i64 (if (↑(List.length a) : Int) < (↑n : Int) then (↑(List.length a) : Int) else (↑n : Int))), some (Value.int IntKind.i64 0), none, none, none, none, none, none, none, none, none, none, none, none, none, none, none, none, none, some (Value.int IntKind.i64 (↑i : Int)), some (Value.slice (some (Addr.mk 0 0 (some 2000))) (List.length a) 0), some (Value.int IntKind.i64 (↑(List.length a) : Int)), some (Value.bool false), none, none, none, none, none, none, none, none, some (Value.int IntKind.i64 (↑n : Int)), some (Value.slice (some (Addr.mk 0 0 (some 2000))) (List.length a) 0), some (Value.int IntKind.i64 (↑(List.length a) : Int)), some (Value.int IntKind.i64 (if (↑(List.length a) : Int) < (↑n : Int) then (↑(List.length a) : Int) else (↑n : Int))), some (Value.pointer (some (Addr.mk 1 0 none))), some (Value.slice (some (Addr.mk 2 0 (some 2000))) (List.length (PJ.x m)) 0), some (Value.slice (some (Addr.mk 0 0 (some 2000))) (List.length a) 0), some (Value.slice (some (Addr.mk 0 0 (some 2000))) (List.length a) 0), some (Value.int IntKind.i64 (↑(List.length a) : Int)), some (Value.int IntKind.i64 (if (↑(List.length a) : Int) < (↑n : Int) then (↑(List.length a) : Int) else (↑n : Int))), some (Value.int IntKind.i64 ((↑(List.length a) : Int) - if (↑(List.length a) : Int) < (↑n : Int) then (↑(List.length a) : Int) else (↑n : Int))), some (Value.slice (some (Addr.mk 0 (0 + Int.toNat ((↑(List.length a) : Int) - if (↑(List.length a) : Int) < (↑n : Int) then (↑(List.length a) : Int) else (↑n : Int))) (some 1002000))) (Int.toNat ((↑(List.length a) : Int) - ((↑(List.length a) : Int) - if (↑(List.length a) : Int) < (↑n : Int) then (↑(List.length a) : Int) else (↑n : Int)))) 0), some (Value.bool (decide (cut (PJ.x m) 0 (List.length (PJ.x m)) = cut a (0 + Int.toNat ((↑(List.length a) : Int) - if (↑(List.length a) : Int) < (↑n : Int) then (↑(List.length a) : Int) else (↑n : Int))) (Int.toNat ((↑(List.length a) : Int) - ((↑(List.length a) : Int) - if (↑(List.length a) : Int) < (↑n : Int) then (↑(List.length a) : Int) else (↑n : Int)))) ∧ cut (PJ.y m) 0 (List.length (PJ.x m)) = cut b (0 + Int.toNat ((↑(List.length a) : Int) - if (↑(List.length a) : Int) < (↑n : Int) then (↑(List.length a) : Int) else (↑n : Int))) (Int.toNat ((↑(List.length a) : Int) - ((↑(List.length a) : Int) - if (↑(List.length a) : Int) < (↑n : Int) then (↑(List.length a) : Int) else (↑n : Int))))))), some (Value.bool false), none, none, none, none, none, none, none, none, none, none, none, none, none, none, none, none, none, none, none, none, none, none, none, none, none, none, none, none, none, none, none, none, none, none, none, none, none, none, none, none, none] [(52, false), (30, false)] [some (Sum.inr (Sum.inr (Sum.inl (Row.mk [Value.int IntKind.i64 0, Value.int IntKind.i64 0] (List.length a) [Col.mk a [] [], Col.mk b [] []])))), some (Sum.inr (Sum.inr (Sum.inr (Rs.items m)))), some (Sum.inr (Sum.inl (43, Row.mk [Value.int IntKind.i64 0, Value.int IntKind.i64 0] (List.length (PJ.x m)) [Col.mk (PJ.x m) [] [], Col.mk (PJ.y m) [] []])))])))) ?_ (by kernel_rfl)
  (try simp only [Nat.zero_add, Int.toNat_natCast])
  refine ⟨fun h => ?_, fun h => ?_⟩
  · have hi : i < a.length := by have h' := of_decide_eq_true h; omega
    repeat' (first | apply And.intro | apply Vc.mk | apply fits.mk | intro h | apply Post.mk)
    all_goals (try simp only [decide_eq_true_eq, decide_eq_false_iff_not, Nat.zero_add, ge_iff_le, Int.not_le, Int.not_lt, Int.toNat_natCast, beq_iff_eq, beq_eq_false_iff_ne, bne_iff_ne, bne_eq_false_iff_eq, Bool.not_eq_true', Bool.not_eq_false'] at *)
    all_goals first | contradiction | omega | (apply congrArg Value.bool; assumption) | exact ⟨rfl, by omega⟩ | exact rfl | (simp [*, -List.getD_eq_getElem?_getD]; done) | skip
    refine ⟨(i + 1, m.push (a.getD i 0) (b.getD i 0)), ⟨by simp only; omega, o2.step hi hb (by omega)⟩, by simp only; omega, ⟨[0, 1], rfl, ?_, rfl, rfl, rfl, rfl⟩⟩
    simp [itemsRow, Pulls, pullB, nth, at2, dnL, dnV, mvL, mvV, mvA, mvQ_lt, blt_true, blt_false, RowLe, colI, colB]
  · obtain rfl : i = a.length := by have h' := of_decide_eq_false h; omega
    clear h
    obtain ⟨k, hkk⟩ : ∃ k : Nat, k = min n a.length := ⟨_, rfl⟩
    have hif : (if (a.length : Int) < (n : Int) then (a.length : Int) else (n : Int)) = (k : Int) := by split <;> omega
    have e1 : ((a.length : Int) - (k : Int)).toNat = a.length - k := by omega
    have e2 : ((a.length : Int) - ((a.length : Int) - (k : Int))).toNat = k := by omega
    have hx : m.x = a.drop (a.length - k) := by
      rw [o2.x, List.take_length]
      congr 1
      omega
    have hy : m.y = b.drop (a.length - k) := by
      rw [o2.y, List.take_of_length_le (by omega)]
      congr 1
      omega
    have cx : cut a (a.length - k) k = m.x := by rw [hx, cut_drop (by omega)]
    have cy : cut b (a.length - k) k = m.y := by rw [hy, cut_drop (by omega)]
    have hxl : m.x.length = k := by rw [hx]; simp; omega
    have hyl : m.y.length = k := by rw [hy]; simp; omega
    have c1 : cut m.x 0 k = m.x := cut_eq hxl
    have c2 : cut m.y 0 k = m.y := cut_eq hyl
    simp only [hif, e1, e2, cx, cy, hxl, c1, c2, hyl, and_self, decide_true, Bool.not_true]
    repeat' (first | apply And.intro | apply Vc.mk | apply fits.mk | intro h | apply Post.mk)
    all_goals (try simp only [decide_eq_true_eq, decide_eq_false_iff_not, Nat.zero_add, ge_iff_le, Int.not_le, Int.not_lt, Int.toNat_natCast, beq_iff_eq, beq_eq_false_iff_ne, bne_iff_ne, bne_eq_false_iff_eq, Bool.not_eq_true', Bool.not_eq_false'] at *)
    all_goals first | contradiction | omega | (apply congrArg Value.bool; assumption) | exact ⟨rfl, by omega⟩ | exact rfl | (simp [*, -List.getD_eq_getElem?_getD]; done) | skip
    refine loop_atM (by kernel_rfl) (ι := Nat × PJ) (fun s => s.1 ≤ k ∧ s.2.Ok 62 ∧ s.2.x = (a.drop (a.length - k)).take (k - s.1) ∧ s.2.y = (b.drop (a.length - k)).take (k - s.1)) [1, 6, 8, 9] (fun s => [.slice (some ⟨0, 0, some 2000⟩) a.length 0, .pointer (some ⟨1, 0, none⟩), .int .i64 k, .int .i64 s.1]) (fun s => [some (.inr (.inr (.inl (itemsRow a b)))), some (.inr (.inr (.inr (.items s.2))))]) (fun s => k - s.1) 94 (fun s hs => ⟨rfl, rfl, Nat.succ_le_succ (Nat.zero_le _)⟩) ⟨(0, m), ⟨Nat.zero_le _, o2.ok.mono (by omega), by rw [hx, List.take_of_length_le]; simp; omega, by rw [hy, List.take_of_length_le]; simp; omega⟩, ⟨[0, 1], rfl, ?_, rfl, rfl, rfl, rfl⟩⟩ fun s hs => ?_
    · simp [itemsRow, Pulls, pullB, nth, at2, dnL, dnV, mvL, mvV, mvA, mvQ_lt, blt_true, blt_false, RowLe, colI, colB]
    obtain ⟨j, q⟩ := s
    obtain ⟨u1, u2, u3, u4⟩ := hs
    simp only at u1 u2 u3 u4
    have okq : q.Ok 20000 := u2.mono (by omega)
    refine rx_ok (T := TJ2) TJ2_ok mixed 200 ?_
    refine as_text (q := (decide ((↑j : Int) < (↑k : Int)) = true → Vc (PJ.Ok 20000 q) ∧ ((!decide (List.length (PJ.x q) ≠ 0)) = true → Vc ((Value.bool !decide (List.length (PJ.x q) ≠ 0)) = Value.bool true) ∧ Post (G (Value.bool false) [some (Sum.inr (Sum.inr (Sum.inl (Row.mk [Value.int IntKind.i64 0, Value.int IntKind.i64 0] (List.length a) [Col.mk a [] [], Col.mk b [] []])))), some (Sum.inr (Sum.inr (Sum.inr (Rs.items (PJ.pop q))))), some (Sum.inl (43, [Value.int IntKind.i64 (PJ.topX q), Value.int IntKind.i64 (PJ.topY q)]))])) ∧ ((!decide (List.length (PJ.x q) ≠ 0)) = false → Vc ((Value.bool !decide (List.length (PJ.x q) ≠ 0)) = Value.bool false) ∧ Vc (fits ((↑(List.length a) : Int) - (1 : Int))) ∧ Vc (fits ((↑(List.length a) : Int) - (1 : Int) - (↑j : Int))) ∧ Vc ((0 : Int) ≤ (↑(List.length a) : Int) - (1 : Int) - (↑j : Int) ∧ (↑(List.length a) : Int) - (1 : Int) - (↑j : Int) < (↑(List.length a) : Int) ∧ 0 + List.length a ≤ List.length a) ∧ Vc (0 + Int.toNat ((↑(List.length a) : Int) - (1 : Int) - (↑j : Int)) < List.length a) ∧ ((if true = true then !(PJ.topX q == List.getD a (0 + Int.toNat ((↑(List.length a) : Int) - (1 : Int) - (↑j : Int))) (0 : Int) && (PJ.topY q == List.getD b (0 + Int.toNat ((↑(List.length a) : Int) - (1 : Int) - (↑j : Int))) (0 : Int) && true)) else PJ.topX q == List.getD a (0 + Int.toNat ((↑(List.length a) : Int) - (1 : Int) - (↑j : Int))) (0 : Int) && (PJ.topY q == List.getD b (0 + Int.toNat ((↑(List.length a) : Int) - (1 : Int) - (↑j : Int))) (0 : Int) && true)) = true → Post (G (Value.bool false) [some (Sum.inr (Sum.inr (Sum.inl (Row.mk [Value.int IntKind.i64 0, Value.int IntKind.i64 0] (List.length a) [Col.mk a [] [], Col.mk b [] []])))), some (Sum.inr (Sum.inr (Sum.inr (Rs.items (PJ.pop q))))), some (Sum.inl (43, [Value.int IntKind.i64 (PJ.topX q), Value.int IntKind.i64 (PJ.topY q)]))])) ∧ ((if true = true then !(PJ.topX q == List.getD a (0 + Int.toNat ((↑(List.length a) : Int) - (1 : Int) - (↑j : Int))) (0 : Int) && (PJ.topY q == List.getD b (0 + Int.toNat ((↑(List.length a) : Int) - (1 : Int) - (↑j : Int))) (0 : Int) && true)) else PJ.topX q == List.getD a (0 + Int.toNat ((↑(List.length a) : Int) - (1 : Int) - (↑j : Int))) (0 : Int) && (PJ.topY q == List.getD b (0 + Int.toNat ((↑(List.length a) : Int) - (1 : Int) - (↑j : Int))) (0 : Int) && true)) = false → Vc (fits ((↑j : Int) + (1 : Int))) ∧ Post (∃ j_1, (Prod.fst j_1 ≤ k ∧ PJ.Ok 62 (Prod.snd j_1) ∧ PJ.x (Prod.snd j_1) = List.take (k - Prod.fst j_1) (List.drop (List.length a - k) a) ∧ PJ.y (Prod.snd j_1) = List.take (k - Prod.fst j_1) (List.drop (List.length a - k) b)) ∧ k - Prod.fst j_1 < k - j ∧ FitsM Rs 1 94 [1, 6, 8, 9] [Value.slice (some (Addr.mk 0 0 (some 2000))) (List.length a) 0, Value.pointer (some (Addr.mk 1 0 none)), Value.int IntKind.i64 (↑k : Int), Value.int IntKind.i64 (↑(Prod.fst j_1) : Int)] [some (Sum.inr (Sum.inr (Sum.inl (itemsRow a b)))), some (Sum.inr (Sum.inr (Sum.inr (Rs.items (Prod.snd j_1)))))] [some (Value.slice (some (Addr.mk 0 0 (some 2000))) (List.length a) 0), some (Value.pointer (some (Addr.mk 1 0 none))), some (Value.int IntKind.i64 (↑k : Int)), some (Value.int IntKind.i64 ((↑j : Int) + (1 : Int)))] [some (Sum.inr (Sum.inr (Sum.inl (Row.mk [Value.int IntKind.i64 0, Value.int IntKind.i64 0] (List.length a) [Col.mk a [] [], Col.mk b [] []])))), some (Sum.inr (Sum.inr (Sum.inr (Rs.items (PJ.pop q))))), some (Sum.inl (43, [Value.int IntKind.i64 (PJ.topX q), Value.int IntKind.i64 (PJ.topY q)]))] 94)))) ∧ (decide ((↑j : Int) < (↑k : Int)) = false → Vc (PJ.Ok 20000 q) ∧ ((!decide (List.length (PJ.x q) ≠ 0)) = true → ((if false = true then !(PJ.topX q == (0 : Int) && (PJ.topY q == (0 : Int) && true)) else PJ.topX q == (0 : Int) && (PJ.topY q == (0 : Int) && true)) = true → Vc (PJ.Ok 20000 (PJ.pop q)) ∧ Post (G (Value.bool ((↑(List.length (PJ.x (PJ.pop q))) : Int) == (0 : Int))) [some (Sum.inr (Sum.inr (Sum.inl (Row.mk [Value.int IntKind.i64 0, Value.int IntKind.i64 0] (List.length a) [Col.mk a [] [], Col.mk b [] []])))), some (Sum.inr (Sum.inr (Sum.inr (Rs.items (PJ.pop q))))), some (Sum.inl (43, [Value.int IntKind.i64 (PJ.topX q), Value.int IntKind.i64 (PJ.topY q)]))])) ∧ ((if false = true then !(PJ.topX q == (0 : Int) && (PJ.topY q == (0 : Int) && true)) else PJ.topX q == (0 : Int) && (PJ.topY q == (0 : Int) && true)) = false → Post (G (Value.bool false) [some (Sum.inr (Sum.inr (Sum.inl (Row.mk [Value.int IntKind.i64 0, Value.int IntKind.i64 0] (List.length a) [Col.mk a [] [], Col.mk b [] []])))), some (Sum.inr (Sum.inr (Sum.inr (Rs.items (PJ.pop q))))), some (Sum.inl (43, [Value.int IntKind.i64 (PJ.topX q), Value.int IntKind.i64 (PJ.topY q)]))]))) ∧ ((!decide (List.length (PJ.x q) ≠ 0)) = false → Post (G (Value.bool false) [some (Sum.inr (Sum.inr (Sum.inl (Row.mk [Value.int IntKind.i64 0, Value.int IntKind.i64 0] (List.length a) [Col.mk a [] [], Col.mk b [] []])))), some (Sum.inr (Sum.inr (Sum.inr (Rs.items (PJ.pop q))))), some (Sum.inl (43, [Value.int IntKind.i64 (PJ.topX q), Value.int IntKind.i64 (PJ.topY q)]))])))) ?_ (by kernel_rfl)
    refine ⟨fun h => ?_, fun h => ?_⟩
    · have hj : j < k := by have h' := of_decide_eq_true h; omega
      have t1 := take_snoc (a := a.drop (a.length - k)) (n := k - j) (by omega) (by simp; omega)
      have t2 := take_snoc (a := b.drop (a.length - k)) (n := k - j) (by omega) (by simp; omega)
      rw [drop_getD, show a.length - k + (k - j - 1) = a.length - 1 - j by omega] at t1
      rw [drop_getD, show a.length - k + (k - j - 1) = a.length - 1 - j by omega] at t2
      rw [← u3] at t1
      rw [← u4] at t2
      obtain ⟨p1, p2, p3, p4⟩ := q.snoc t1 t2 (by simp; omega)
      have e3 : ((a.length : Int) - 1 - (j : Int)).toNat = a.length - 1 - j := by omega
      have p5 : decide (q.x.length ≠ 0) = true := decide_eq_true p4
      simp only [p1, p2, p5, e3, Nat.zero_add, Bool.not_true, Bool.false_eq_true, false_implies, forall_const, beq_self_eq_true, Bool.and_self, if_true]
      repeat' (first | apply And.intro | apply Vc.mk | apply fits.mk | intro h | apply Post.mk)
      all_goals (try simp only [decide_eq_true_eq, decide_eq_false_iff_not, Nat.zero_add, ge_iff_le, Int.not_le, Int.not_lt, Int.toNat_natCast, beq_iff_eq, beq_eq_false_iff_ne, bne_iff_ne, bne_eq_false_iff_eq, Bool.not_eq_true', Bool.not_eq_false'] at *)
      all_goals first | contradiction | omega | (apply congrArg Value.bool; assumption) | exact ⟨rfl, by omega⟩ | exact rfl | (simp [*, -List.getD_eq_getElem?_getD]; done) | skip
      refine ⟨(j + 1, q.pop), ⟨by simp only; omega, u2.pop, by rw [p3]; simp only [Nat.sub_sub], by rw [p3]; simp only [Nat.sub_sub]⟩, by simp only; omega, ⟨[0, 1], rfl, ?_, rfl, rfl, rfl, rfl⟩⟩
      simp [itemsRow, Pulls, pullB, nth, at2, dnL, dnV, mvL, mvV, mvA, mvQ_lt, blt_true, blt_false, RowLe, colI, colB]
    · obtain rfl : j = k := by have h' := of_decide_eq_false h; omega
      have q0 : q.x.length = 0 := by rw [u3]; simp
      have p1 := q.pop_none (by omega)
      have p2 : q.topX = 0 := by rw [PJ.topX, if_pos q0]
      have p3 : q.topY = 0 := by rw [PJ.topY, if_pos q0]
      simp only [p1, p2, p3, q0, ne_eq, not_true_eq_false, decide_false, Bool.not_false, beq_self_eq_true, Bool.and_self, if_true]
      repeat' (first | apply And.intro | apply Vc.mk | apply fits.mk | intro h | apply Post.mk)
      all_goals (try simp only [decide_eq_true_eq, decide_eq_false_iff_not, Nat.zero_add, ge_iff_le, Int.not_le, Int.not_lt, Int.toNat_natCast, beq_iff_eq, beq_eq_false_iff_ne, bne_iff_ne, bne_eq_false_iff_eq, Bool.not_eq_true', Bool.not_eq_false'] at *)
      all_goals first | contradiction | omega | (apply congrArg Value.bool; assumption) | exact ⟨rfl, by omega⟩ | exact rfl | (simp [*, -List.getD_eq_getElem?_getD]; done) | skip
      all_goals exact hG _
end Go.Proofs.Ytfofaiidakkgbaa.Pi
