/- ZSums: G7Sums, G7SumsL -/
import Derived.Test.YtclagkjjgmeifaaZh
/- grove: the law GroveSums. -/
namespace Go.Proofs.Ytclagkjjgmeifaa.G7
open Go.Proofs.Ytclagkjjgmeifaa.Rx Go.Proofs.Ytclagkjjgmeifaa.D7
set_option linter.unusedVariables false
set_option linter.unusedSimpArgs false
set_option maxRecDepth 100000
set_option maxHeartbeats 16000000
def TL7 : Tab Rt := [(9, liftC zN 2 (con1 awakeP)), (10, liftV Ti.z0 2 (con1 smallP)), (22, liftV Ti.z0 2 (con1 madeP)),
  (23, liftV Ti.z0 2 (con1 D7.wsP)), (25, liftV Ti.z0 2 (con1 D7.sumP)), (26, liftV Ti.z0 2 (con1 D7.lowP)), (28, liftV Ti.z0 2 (con1 D7.fallsP)), (19, liftV Ti.z0 2 (con1 D7.rankP)),
  (24, liftC zN 2 (con1 tbetP)),
  (37, liftC zN 2 (con1 tallP)), (20, liftC zN 2 (con1 tatP)), (17, liftC zN 2 (con1 tfindP)),
  (18, liftC zN 2 (con1 trankP)), (33, liftC zN 2 (con1 tlenP))]
theorem TL7_ok : TabOk D2 Try.prog TL7 := ⟨liftC_ok _ _ awake_ok, liftV_ok _ _ small_ok, liftV_ok _ _ made_run_ok, liftV_ok _ _ D7.ws_ok, liftV_ok _ _ D7.sum_ok, liftV_ok _ _ D7.low_ok, liftV_ok _ _ D7.falls_ok, liftV_ok _ _ D7.rank_ok, liftC_ok _ _ tbet_ok,
  liftC_ok _ _ tall_ok, liftC_ok _ _ tat_ok, liftC_ok _ _ tfind_ok, liftC_ok _ _ trank_ok, liftC_ok _ _ tlen_ok, trivial⟩
/-- acts, by their cells -/
structure Acts where
  i : List Int
  k : List Int
  w : List Int
structure Acts.Ok (a : Acts) : Prop where
  k : a.k.length = a.i.length
  w : a.w.length = a.i.length
def actsRow (a : Acts) : Row := ⟨[.int .i64 0, .int .i64 0, .int .i64 0], a.i.length, [colI a.i, colI a.k, colI a.w]⟩
theorem small_of {x : List Int} {n : Nat} {m : Int} (hn : x.length = n) (h : (decide ((n : Int) ≤ m) && smallB x x.length) = true) (hm : m ≤ 1000) : (n : Int) ≤ m ∧ Mild x := by
  simp only [Bool.and_eq_true, decide_eq_true_eq] at h
  exact ⟨h.1, small_mild h.2 (by omega)⟩
theorem sums_run {G : Value → Hp Rt → Prop} {a : Acts} {f u : Int} (ha : a.Ok) (hG : ∀ hp, G (.bool true) hp) :
    At D2 Try.prog (codeOf Try.f4) 1 (retK Try.prog Try.f4.results.toList G) [.inl []] ⟨someL [.slice (some ⟨0, 0, some 3000⟩) a.i.length 0, .int .i64 f, .int .i64 u] ++ List.replicate (Try.f4.ntmps - 3) none, [], [some (.inr (.inr (.inl (actsRow a))))]⟩ := by
  refine rx_ok (T := TL7) TL7_ok mixed 200 ?_
  refine as_text (q := let zz12 := Value.int IntKind.i64; let zz1 := (List.length (Acts.i a)); let zz2 := (cut (Acts.i a) 0 zz1); let zz3 := (cut (Acts.w a) 0 zz1); let zz4 := (G (Value.bool true) [some (Sum.inr (Sum.inr (Sum.inl (Row.mk [zz12 0, zz12 0, zz12 0] zz1 [Col.mk (Acts.i a) [] [], Col.mk (Acts.k a) [] [], Col.mk (Acts.w a) [] []]))))]); let zz5 := (madeS (50 : Int) zz2 (cut (Acts.k a) 0 zz1) zz3 (List.length zz2)); let zz6 := (cut (ks (TS.l zz5)) 0 (List.length (TS.l zz5))); let zz7 := (Gv.sub (cut (wsL (TS.l zz5)) 0 (List.length (TS.l zz5))) (Int.toNat f) (Int.toNat u)); let zz8 := (cut zz7 0 (List.length zz7)); let zz9 := (↑(List.length zz7) : Int); let zz10 := (S7 (Gv.sub (TS.l (TS.alike zz5)) (Int.toNat f) (Int.toNat u))); let zz11 := (Ti.Td.s zz10 == Ti.psum zz8 (Int.toNat zz9) && (Ti.Td.l zz10 == Ti.low zz8 && true)); Vc True ∧ (false = false → Vc ((0 + List.length (Acts.i a) ≤ List.length (Acts.i a) ∧ True) ∧ List.length (Acts.i a) = List.length zz2 ∧ List.length (Acts.i a) = List.length zz2 ∧ List.length zz3 = List.length zz2 ∧ (60 : Int) ≤ (1000 : Int)) ∧ ((!(decide ((↑(List.length zz2) : Int) ≤ (60 : Int)) && smallB zz3 (List.length zz3))) = true → Vc True ∧ Post zz4) ∧ ((!(decide ((↑(List.length zz2) : Int) ≤ (60 : Int)) && smallB zz3 (List.length zz3))) = false → Vc ((0 + List.length (Acts.i a) ≤ List.length (Acts.i a) ∧ True) ∧ List.length (Acts.i a) = List.length zz2 ∧ List.length (Acts.i a) = List.length zz2 ∧ List.length (cut (Acts.k a) 0 zz1) = List.length zz2 ∧ List.length zz3 = List.length zz2 ∧ List.length zz2 ≤ 400 ∧ Mild zz3) ∧ (false = true → Post (G (Value.bool false) [some (Sum.inr (Sum.inr (Sum.inl (Row.mk [zz12 0, zz12 0, zz12 0] zz1 [Col.mk (Acts.i a) [] [], Col.mk (Acts.k a) [] [], Col.mk (Acts.w a) [] []])))), none, some (Sum.inr (Sum.inr (Sum.inr (Rt.tree (TS.alike zz5))))), some (Sum.inr (Sum.inl (38, Row.mk [zz12 0, zz12 0] (List.length (ks (TS.l zz5))) [Col.mk (ks (TS.l zz5)) [] [], Col.mk (wsL (TS.l zz5)) [] []])))])) ∧ (false = false → Vc ((0 + List.length (TS.l zz5) ≤ List.length (ks (TS.l zz5)) ∧ True) ∧ List.length (TS.l zz5) = List.length zz6 ∧ List.length (TS.l zz5) = List.length zz6 ∧ List.length (cut (wsL (TS.l zz5)) 0 (List.length (TS.l zz5))) = List.length zz6 ∧ List.length zz6 ≤ 100000) ∧ Vc (TS.Few (TS.alike zz5)) ∧ Vc ((0 + List.length zz7 ≤ List.length zz7 ∧ True) ∧ List.length zz7 = List.length zz8 ∧ List.length zz7 = List.length zz8 ∧ Mild zz8 ∧ (0 : Int) ≤ zz9 ∧ zz9 ≤ (↑(List.length zz8) : Int)) ∧ Vc ((0 + List.length zz7 ≤ List.length zz7 ∧ True) ∧ List.length zz7 = List.length zz8 ∧ List.length zz7 = List.length zz8 ∧ Mild zz8) ∧ Post (G (Value.bool (if false = true then !(Ti.Td.n zz10 == zz9 && zz11) else Ti.Td.n zz10 == zz9 && zz11)) [some (Sum.inr (Sum.inr (Sum.inl (Row.mk [zz12 0, zz12 0, zz12 0] zz1 [Col.mk (Acts.i a) [] [], Col.mk (Acts.k a) [] [], Col.mk (Acts.w a) [] []])))), none, some (Sum.inr (Sum.inr (Sum.inr (Rt.tree (TS.bet (TS.alike zz5) f u))))), some (Sum.inr (Sum.inl (38, Row.mk [zz12 0, zz12 0] (List.length (ks (TS.l zz5))) [Col.mk (ks (TS.l zz5)) [] [], Col.mk (wsL (TS.l zz5)) [] []]))), none, some (Sum.inr (Sum.inl (3, Row.mk [zz12 0] (List.length zz7) [Col.mk zz7 [] []])))])))) ∧ (false = true → Vc True ∧ Post zz4)) ?_ (by kernel_rfl)
  intro zz12 zz1 zz2 zz3 zz4 zz5 zz6 zz7 zz8 zz9 zz10 zz11; subst zz11 zz10 zz9 zz8 zz7 zz6 zz5 zz4 zz3 zz2 zz1 zz12
  have c1 : cut a.i 0 a.i.length = a.i := cut_all _
  have c2 : cut a.k 0 a.i.length = a.k := cut_eq ha.k
  have c3 : cut a.w 0 a.i.length = a.w := cut_eq ha.w
  simp only [c1, c2, c3]
  refine ⟨⟨trivial⟩, fun _ => ⟨⟨⟨by omega, trivial⟩, trivial, trivial, ha.w, by omega⟩, fun _ => ⟨⟨trivial⟩, ⟨hG _⟩⟩, fun h => ?_⟩, fun h => by cases h⟩
  obtain ⟨hl, hm⟩ := small_of (m := 60) ha.w (by simpa using h) (by decide)
  clear h
  have hS := made_ok (mo := 50) ha.k ha.w (by omega) hm a.i.length (Nat.le_refl _)
  generalize madeS 50 a.i a.k a.w a.i.length = S at hS ⊢
  obtain ⟨hS1, hS2, hS3, hS4⟩ := hS
  have few : S.alike.Few := by show S.n < 100000; omega
  have l0 : (ks S.l).length = S.l.length := List.length_map ..
  have l1 : (wsL S.l).length = S.l.length := List.length_map ..
  have d0 : cut (ks S.l) 0 S.l.length = ks S.l := cut_eq l0
  have d1 : cut (wsL S.l) 0 S.l.length = wsL S.l := cut_eq l1
  have e1 : ∀ x : List Int, cut x 0 x.length = x := cut_all
  have hms : Mild (wsL S.l) := S.ok.good
  have hsub : wsL (Gv.sub S.l f.toNat u.toNat) = Gv.sub (wsL S.l) f.toNat u.toNat := by unfold Gv.sub wsL; rw [List.map_take, List.map_drop]
  simp only [d0, d1, e1, l0, l1]
  refine ⟨⟨⟨by omega, trivial⟩, trivial, trivial, ha.k, ha.w, by omega, hm⟩, ?_⟩
  have e2 : S7 (Gv.sub S.alike.l f.toNat u.toNat) = Ti.tideOf (Gv.sub (wsL S.l) f.toNat u.toNat) := congrArg Ti.tideOf hsub
  have hms2 : Mild (Gv.sub (wsL S.l) f.toNat u.toNat) := by
    have := Gv.good_sub laws7 f.toNat u.toNat S.ok.good
    unfold good7 at this
    rwa [show List.map El.w (Gv.sub S.l f.toNat u.toNat) = Gv.sub (wsL S.l) f.toNat u.toNat from hsub] at this
  refine ⟨(fun h => by cases h), fun _ => ⟨⟨⟨by omega, trivial⟩, trivial, trivial, trivial, by omega⟩, ⟨few⟩, ⟨⟨by omega, trivial⟩, trivial, trivial, hms2, by omega, by omega⟩, ⟨⟨by omega, trivial⟩, trivial, trivial, hms2⟩, ⟨?_⟩⟩⟩
  rw [e2]
  simp only [Ti.tideOf, Int.toNat_natCast, beq_self_eq_true, Bool.and_self, Bool.false_eq_true, if_false]
  exact hG _
end Go.Proofs.Ytclagkjjgmeifaa.G7


/- grove: the law GroveSums, called. -/
namespace Go.Proofs.Ytclagkjjgmeifaa.G7
open Go.RowKit Go.Proofs.Ytclagkjjgmeifaa.Rx
set_option linter.unusedVariables false
set_option linter.unusedSimpArgs false
set_option maxRecDepth 100000
theorem sums_law {f u : Int} {p : Rx.Place} {r : Row} {W : World} (hr : r.tm = [.int .i64 0, .int .i64 0, .int .i64 0]) (hw : wfCols [.int .i64 0, .int .i64 0, .int .i64 0] r.cols r.n) (hv : ViewOk W p r) :
    Calls Try.prog 4 #[ren (viewsE [(p, r)]) (.slice (some ⟨0, 0, some 3000⟩) r.n 0), .int .i64 f, .int .i64 u] W fun e W' => e = .returned (.bool true) ∧ Below W.heap.size W W' := by
  obtain ⟨tm, n, cols⟩ := r
  simp only at hr
  subst hr
  match cols, hw with
  | [c1, c2, c3], hw =>
    obtain ⟨⟨h1, l1, _⟩, ⟨h2, l2, _⟩, ⟨h3, l3, _⟩, _⟩ := hw
    have e : (⟨[.int .i64 0, .int .i64 0, .int .i64 0], n, [c1, c2, c3]⟩ : Row) = actsRow ⟨c1.i, c2.i, c3.i⟩ := by
      simp only at l1
      rw [actsRow, l1, ← h1, ← h2, ← h3]
    rw [e] at hv ⊢
    have := law_calls (D := D2) (fn := Try.f4) (root := codeOf Try.f4) (args := [.slice (some ⟨0, 0, some 3000⟩) c1.i.length 0, .int .i64 f, .int .i64 u]) [(p, actsRow ⟨c1.i, c2.i, c3.i⟩)] Try.func4 (by kernel_rfl) (by simpa using hv) rfl
      (sums_run (a := ⟨c1.i, c2.i, c3.i⟩) ⟨by simp only at *; omega, by simp only at *; omega⟩ fun _ => rfl)
    simpa [actsRow] using this
end Go.Proofs.Ytclagkjjgmeifaa.G7


