/- ZSrch: G7Sums, G7FstS, G7TopFS, G7TCS, G7Srch, G7SrchL -/
import Derived.Test.YtclagkjjgmeifaaZh
import Derived.Test.YtclagkjjgmeifaaZf
import Derived.Test.YtclagkjjgmeifaaZd
import Derived.Test.YtclagkjjgmeifaaZe
/- grove: the law GroveSums. -/
namespace Go.Proofs.Ytclagkjjgmeifaa.G7
open Go.Proofs.Ytclagkjjgmeifaa.Rx Go.Proofs.Ytclagkjjgmeifaa.D7
set_option linter.unusedVariables false
set_option linter.unusedSimpArgs false
set_option maxRecDepth 100000
set_option maxHeartbeats 16000000
def TL7 : Tab Rt := [(9, liftC zN 2 (con1 awakeP)), (10, liftV Ti.z0 2 (con1 smallP)), (22, liftV Ti.z0 2 (con1 madeP)),
  (23, liftV Ti.z0 2 (con1 D7.wsP)), (25, liftV Ti.z0 2 (con1 D7.sumP)), (26, liftV Ti.z0 2 (con1 D7.lowP)), (28, liftV Ti.z0 2 (con1 D7.fallsP)), (19, liftV Ti.z0 2 (con1 D7.rankP)),
  (24, liftC zN 2 (con1 tbetP)),
  (37, liftC zN 2 (con1 tallP)), (20, liftC zN 2 (con1 tatP)), (17, liftC zN 2 (con1 tfindP)),
  (18, liftC zN 2 (con1 trankP)), (33, liftC zN 2 (con1 tlenP))]
theorem TL7_ok : TabOk D2 Try.prog TL7 := ⟨liftC_ok _ _ awake_ok, liftV_ok _ _ small_ok, liftV_ok _ _ made_run_ok, liftV_ok _ _ D7.ws_ok, liftV_ok _ _ D7.sum_ok, liftV_ok _ _ D7.low_ok, liftV_ok _ _ D7.falls_ok, liftV_ok _ _ D7.rank_ok, liftC_ok _ _ tbet_ok,
  liftC_ok _ _ tall_ok, liftC_ok _ _ tat_ok, liftC_ok _ _ tfind_ok, liftC_ok _ _ trank_ok, liftC_ok _ _ tlen_ok, trivial⟩
/-- acts, by their cells -/
structure Acts where
  i : List Int
  k : List Int
  w : List Int
structure Acts.Ok (a : Acts) : Prop where
  k : a.k.length = a.i.length
  w : a.w.length = a.i.length
def actsRow (a : Acts) : Row := ⟨[.int .i64 0, .int .i64 0, .int .i64 0], a.i.length, [colI a.i, colI a.k, colI a.w]⟩
theorem small_of {x : List Int} {n : Nat} {m : Int} (hn : x.length = n) (h : (decide ((n : Int) ≤ m) && smallB x x.length) = true) (hm : m ≤ 1000) : (n : Int) ≤ m ∧ Mild x := by
  simp only [Bool.and_eq_true, decide_eq_true_eq] at h
  exact ⟨h.1, small_mild h.2 (by omega)⟩
theorem sums_run {G : Value → Hp Rt → Prop} {a : Acts} {f u : Int} (ha : a.Ok) (hG : ∀ hp, G (.bool true) hp) :
    At D2 Try.prog (codeOf Try.f4) 1 (retK Try.prog Try.f4.results.toList G) [.inl []] ⟨someL [.slice (some ⟨0, 0, some 3000⟩) a.i.length 0, .int .i64 f, .int .i64 u] ++ List.replicate (Try.f4.ntmps - 3) none, [], [some (.inr (.inr (.inl (actsRow a))))]⟩ := by
  refine rx_ok (T := TL7) TL7_ok mixed 200 ?_
  refine as_text (q := let zz12 := Value.int IntKind.i64; let zz1 := (List.length (Acts.i a)); let zz2 := (cut (Acts.i a) 0 zz1); let zz3 := (cut (Acts.w a) 0 zz1); let zz4 := (G (Value.bool true) [some (Sum.inr (Sum.inr (Sum.inl (Row.mk [zz12 0, zz12 0, zz12 0] zz1 [Col.mk (Acts.i a) [] [], Col.mk (Acts.k a) [] [], Col.mk (Acts.w a) [] []]))))]); let zz5 := (madeS (50 : Int) zz2 (cut (Acts.k a) 0 zz1) zz3 (List.length zz2)); let zz6 := (cut (ks (TS.l zz5)) 0 (List.length (TS.l zz5))); let zz7 := (Gv.sub (cut (wsL (TS.l zz5)) 0 (List.length (TS.l zz5))) (Int.toNat f) (Int.toNat u)); let zz8 := (cut zz7 0 (List.length zz7)); let zz9 := (↑(List.length zz7) : Int); let zz10 := (S7 (Gv.sub (TS.l (TS.alike zz5)) (Int.toNat f) (Int.toNat u))); let zz11 := (Ti.Td.s zz10 == Ti.psum zz8 (Int.toNat zz9) && (Ti.Td.l zz10 == Ti.low zz8 && true)); Vc True ∧ (false = false → Vc ((0 + List.length (Acts.i a) ≤ List.length (Acts.i a) ∧ True) ∧ List.length (Acts.i a) = List.length zz2 ∧ List.length (Acts.i a) = List.length zz2 ∧ List.length zz3 = List.length zz2 ∧ (60 : Int) ≤ (1000 : Int)) ∧ ((!(decide ((↑(List.length zz2) : Int) ≤ (60 : Int)) && smallB zz3 (List.length zz3))) = true → Vc True ∧ Post zz4) ∧ ((!(decide ((↑(List.length zz2) : Int) ≤ (60 : Int)) && smallB zz3 (List.length zz3))) = false → Vc ((0 + List.length (Acts.i a) ≤ List.length (Acts.i a) ∧ True) ∧ List.length (Acts.i a) = List.length zz2 ∧ List.length (Acts.i a) = List.length zz2 ∧ List.length (cut (Acts.k a) 0 zz1) = List.length zz2 ∧ List.length zz3 = List.length zz2 ∧ List.length zz2 ≤ 400 ∧ Mild zz3) ∧ (false = true → Post (G (Value.bool false) [some (Sum.inr (Sum.inr (Sum.inl (Row.mk [zz12 0, zz12 0, zz12 0] zz1 [Col.mk (Acts.i a) [] [], Col.mk (Acts.k a) [] [], Col.mk (Acts.w a) [] []])))), none, some (Sum.inr (Sum.inr (Sum.inr (Rt.tree (TS.alike zz5))))), some (Sum.inr (Sum.inl (38, Row.mk [zz12 0, zz12 0] (List.length (ks (TS.l zz5))) [Col.mk (ks (TS.l zz5)) [] [], Col.mk (wsL (TS.l zz5)) [] []])))])) ∧ (false = false → Vc ((0 + List.length (TS.l zz5) ≤ List.length (ks (TS.l zz5)) ∧ True) ∧ List.length (TS.l zz5) = List.length zz6 ∧ List.length (TS.l zz5) = List.length zz6 ∧ List.length (cut (wsL (TS.l zz5)) 0 (List.length (TS.l zz5))) = List.length zz6 ∧ List.length zz6 ≤ 100000) ∧ Vc (TS.Few (TS.alike zz5)) ∧ Vc ((0 + List.length zz7 ≤ List.length zz7 ∧ True) ∧ List.length zz7 = List.length zz8 ∧ List.length zz7 = List.length zz8 ∧ Mild zz8 ∧ (0 : Int) ≤ zz9 ∧ zz9 ≤ (↑(List.length zz8) : Int)) ∧ Vc ((0 + List.length zz7 ≤ List.length zz7 ∧ True) ∧ List.length zz7 = List.length zz8 ∧ List.length zz7 = List.length zz8 ∧ Mild zz8) ∧ Post (G (Value.bool (if false = true then !(Ti.Td.n zz10 == zz9 && zz11) else Ti.Td.n zz10 == zz9 && zz11)) [some (Sum.inr (Sum.inr (Sum.inl (Row.mk [zz12 0, zz12 0, zz12 0] zz1 [Col.mk (Acts.i a) [] [], Col.mk (Acts.k a) [] [], Col.mk (Acts.w a) [] []])))), none, some (Sum.inr (Sum.inr (Sum.inr (Rt.tree (TS.bet (TS.alike zz5) f u))))), some (Sum.inr (Sum.inl (38, Row.mk [zz12 0, zz12 0] (List.length (ks (TS.l zz5))) [Col.mk (ks (TS.l zz5)) [] [], Col.mk (wsL (TS.l zz5)) [] []]))), none, some (Sum.inr (Sum.inl (3, Row.mk [zz12 0] (List.length zz7) [Col.mk zz7 [] []])))])))) ∧ (false = true → Vc True ∧ Post zz4)) ?_ (by kernel_rfl)
  intro zz12 zz1 zz2 zz3 zz4 zz5 zz6 zz7 zz8 zz9 zz10 zz11; subst zz11 zz10 zz9 zz8 zz7 zz6 zz5 zz4 zz3 zz2 zz1 zz12
  have c1 : cut a.i 0 a.i.length = a.i := cut_all _
  have c2 : cut a.k 0 a.i.length = a.k := cut_eq ha.k
  have c3 : cut a.w 0 a.i.length = a.w := cut_eq ha.w
  simp only [c1, c2, c3]
  refine ⟨⟨trivial⟩, fun _ => ⟨⟨⟨by omega, trivial⟩, trivial, trivial, ha.w, by omega⟩, fun _ => ⟨⟨trivial⟩, ⟨hG _⟩⟩, fun h => ?_⟩, fun h => by cases h⟩
  obtain ⟨hl, hm⟩ := small_of (m := 60) ha.w (by simpa using h) (by decide)
  clear h
  have hS := made_ok (mo := 50) ha.k ha.w (by omega) hm a.i.length (Nat.le_refl _)
  generalize madeS 50 a.i a.k a.w a.i.length = S at hS ⊢
  obtain ⟨hS1, hS2, hS3, hS4⟩ := hS
  have few : S.alike.Few := by show S.n < 100000; omega
  have l0 : (ks S.l).length = S.l.length := List.length_map ..
  have l1 : (wsL S.l).length = S.l.length := List.length_map ..
  have d0 : cut (ks S.l) 0 S.l.length = ks S.l := cut_eq l0
  have d1 : cut (wsL S.l) 0 S.l.length = wsL S.l := cut_eq l1
  have e1 : ∀ x : List Int, cut x 0 x.length = x := cut_all
  have hms : Mild (wsL S.l) := S.ok.good
  have hsub : wsL (Gv.sub S.l f.toNat u.toNat) = Gv.sub (wsL S.l) f.toNat u.toNat := by unfold Gv.sub wsL; rw [List.map_take, List.map_drop]
  simp only [d0, d1, e1, l0, l1]
  refine ⟨⟨⟨by omega, trivial⟩, trivial, trivial, ha.k, ha.w, by omega, hm⟩, ?_⟩
  have e2 : S7 (Gv.sub S.alike.l f.toNat u.toNat) = Ti.tideOf (Gv.sub (wsL S.l) f.toNat u.toNat) := congrArg Ti.tideOf hsub
  have hms2 : Mild (Gv.sub (wsL S.l) f.toNat u.toNat) := by
    have := Gv.good_sub laws7 f.toNat u.toNat S.ok.good
    unfold good7 at this
    rwa [show List.map El.w (Gv.sub S.l f.toNat u.toNat) = Gv.sub (wsL S.l) f.toNat u.toNat from hsub] at this
  refine ⟨(fun h => by cases h), fun _ => ⟨⟨⟨by omega, trivial⟩, trivial, trivial, trivial, by omega⟩, ⟨few⟩, ⟨⟨by omega, trivial⟩, trivial, trivial, hms2, by omega, by omega⟩, ⟨⟨by omega, trivial⟩, trivial, trivial, hms2⟩, ⟨?_⟩⟩⟩
  rw [e2]
  simp only [Ti.tideOf, Int.toNat_natCast, beq_self_eq_true, Bool.and_self, Bool.false_eq_true, if_false]
  exact hG _
end Go.Proofs.Ytclagkjjgmeifaa.G7


/- grove: a pool of nodes of keys and numbers: its functions: first, last, with S. -/
namespace Go.Proofs.Ytclagkjjgmeifaa.G7
open Go.Proofs.Ytclagkjjgmeifaa.Rx
set_option linter.unusedVariables false
set_option linter.unusedSimpArgs false
set_option maxRecDepth 100000
set_option maxHeartbeats 16000000
def firstSP  (k : Nat) : Prim Rs := fun args hh => match args, hh with
  | [.pointer (some ⟨0, 0, none⟩), .agg ⟨[.int .i64 x0, .int .i64 x1, .int .i64 x2, .int .i64 x3, .int .i64 x4, .int .i64 x5, .int .i64 x6, .int .i64 x7, .int .i64 x8, .int .i64 x9, .int .i64 x10]⟩, .agg ⟨[.int .i64 p0, .int .i64 p1, .int .i64 p2, .int .i64 p3]⟩, .int .i64 f_, .func (.func 27) ⟨[]⟩ ⟨[.pointer (some ⟨1, 0, none⟩)]⟩], [some (.inl (76, [.pointer (some ⟨2, 0, none⟩), .int .i64 ti, .int .i64 tg])), some (.inl (3, [.int .i64 xx])), some (.inr (.inr (.inr (.pool m))))] => some ⟨PP m ∧ Gv.DeepN O7 k m (⟨⟨x0, x1⟩, ⟨x2, x3⟩, ⟨x4, x5⟩, ⟨x6, ⟨x7, x8, x9⟩⟩, x10⟩ : Nd), .int .i64 (Gv.first O7 (mayS xx) k m (⟨⟨x0, x1⟩, ⟨x2, x3⟩, ⟨x4, x5⟩, ⟨x6, ⟨x7, x8, x9⟩⟩, x10⟩ : Nd) (⟨p0, ⟨p1, p2, p3⟩⟩ : Gv.Part Ti.Td) f_).1, none, [some (.inl (76, [.pointer (some ⟨2, 0, none⟩), .int .i64 ti, .int .i64 tg])), some (.inl (3, [.int .i64 xx])), some (.inr (.inr (.inr (.pool (Gv.first O7 (mayS xx) k m (⟨⟨x0, x1⟩, ⟨x2, x3⟩, ⟨x4, x5⟩, ⟨x6, ⟨x7, x8, x9⟩⟩, x10⟩ : Nd) (⟨p0, ⟨p1, p2, p3⟩⟩ : Gv.Part Ti.Td) f_).2))))], [], [(0, 0)]⟩
  | _, _ => none
def TFirstS (k : Nat) : Tab Rs := [(1000000000, wrapCon), (27, liftC zN 2 (con1 mayP)), (46, liftC zN 2 (con1 lookP)), (42, liftC zN 2 (con1 oneP)), (60, liftC zN 2 (con1 plusP)), (49, liftC zN 2 (con1 (firstSP k)))]
theorem firstS_ok : ∀ k : Nat, ConOk D Try.prog 49 (con1 (firstSP k))
  | 0 => by
    refine con1_ok (prim_at (fn := Try.f49) (root := codeOf Try.f49) (by kernel_rfl) (by kernel_rfl) (by kernel_rfl) fun args hh x hx => ?_)
    unfold firstSP at hx
    split at hx
    · rename_i x0 x1 x2 x3 x4 x5 x6 x7 x8 x9 x10 p0 p1 p2 p3 f_ ti tg xx m
      injection hx with hx
      subst hx
      refine ⟨by first | exact Nat.le_refl _ | exact Nat.zero_le _ | exact Nat.le_succ _, noLit rfl, (fun hw => by first | rfl | cases hw), fun _ hv => ?_⟩
      exact False.elim (And.right hv)
    · cases hx
  | k + 1 => by
    have ih := firstS_ok k
    refine con1_ok (prim_at (fn := Try.f49) (root := codeOf Try.f49) (by kernel_rfl) (by kernel_rfl) (by kernel_rfl) fun args hh x hx => ?_)
    unfold firstSP at hx
    split at hx
    · rename_i x0 x1 x2 x3 x4 x5 x6 x7 x8 x9 x10 p0 p1 p2 p3 f_ ti tg xx m
      injection hx with hx
      subst hx
      refine ⟨by first | exact Nat.le_refl _ | exact Nat.zero_le _ | exact Nat.le_succ _, noLit rfl, (fun hw => by first | rfl | cases hw), fun _ hv => ?_⟩
      obtain ⟨hp, hd⟩ := hv
      generalize hG : Rx.Ends (R := Rs) _ _ = G
      refine rx_ok (T := (TFirstS k)) (show TabOk D Try.prog (TFirstS k) from ⟨wrapCon_ok, liftC_ok _ _ may_ok, liftC_ok _ _ look_ok, liftC_ok _ _ one_ok, liftC_ok _ _ plus_ok, liftC_ok _ _ ih, trivial⟩) mixed 200 ?_
      refine as_text (q := let zz7 := Value.pointer (some (Addr.mk 2 0 none)); let zz8 := Value.int IntKind.i64; let zz1 := (Gv.lk O7 m (Gv.Ref.mk x2 x3)); let zz2 := (Gv.first O7 (mayS xx) k (Gv.see m (Gv.Ref.mk x2 x3)) zz1 (Gv.Part.mk p0 (Ti.Td.mk p1 p2 p3)) f_); let zz3 := (Gv.plusP O7 (Gv.Part.mk p0 (Ti.Td.mk p1 p2 p3)) (Gv.Node.all zz1)); let zz4 := (Gv.Part.sum (Gv.one O7 (El.mk x0 x1))); let zz5 := (Gv.see (Prod.snd zz2) (Gv.Ref.mk x4 x5)); let zz6 := (Gv.first O7 (mayS xx) k zz5 (Gv.lk O7 (Prod.snd zz2) (Gv.Ref.mk x4 x5)) (Gv.plusP O7 zz3 (Gv.one O7 (El.mk x0 x1))) f_); ((x10 == (0 : Int)) = false → Vc True ∧ (decide (IntKind.wrap IntKind.i64 (p0 + x6) ≤ f_) = true → Post (G (zz8 (-1 : Int)) [some (Sum.inl (76, [zz7, zz8 ti, zz8 tg])), some (Sum.inl (3, [zz8 xx])), some (Sum.inr (Sum.inr (Sum.inr (Rs.pool m)))), some (Sum.inl (74, [zz8 x0, zz8 x1, zz8 x2, zz8 x3, zz8 x4, zz8 x5, zz8 x6, zz8 x7, zz8 x8, zz8 x9, zz8 x10])), some (Sum.inl (72, [zz8 p0, zz8 p1, zz8 p2, zz8 p3]))])) ∧ (decide (IntKind.wrap IntKind.i64 (p0 + x6) ≤ f_) = false → (decide (p0 ≥ f_) = true → Vc True ∧ ((!mayS xx (Ti.Td.mk p1 p2 p3) (Ti.Td.mk x7 x8 x9)) = true → Post (G (zz8 (-1 : Int)) [some (Sum.inl (76, [zz7, zz8 ti, zz8 tg])), some (Sum.inl (3, [zz8 xx])), some (Sum.inr (Sum.inr (Sum.inr (Rs.pool m)))), some (Sum.inl (74, [zz8 x0, zz8 x1, zz8 x2, zz8 x3, zz8 x4, zz8 x5, zz8 x6, zz8 x7, zz8 x8, zz8 x9, zz8 x10])), some (Sum.inl (72, [zz8 p0, zz8 p1, zz8 p2, zz8 p3]))])) ∧ ((!mayS xx (Ti.Td.mk p1 p2 p3) (Ti.Td.mk x7 x8 x9)) = false → Vc (PP m) ∧ Vc (PP (Gv.see m (Gv.Ref.mk x2 x3)) ∧ Gv.DeepN O7 k (Gv.see m (Gv.Ref.mk x2 x3)) zz1) ∧ (decide (Prod.fst zz2 ≥ (0 : Int)) = true → Post (G (zz8 (Prod.fst zz2)) [some (Sum.inl (76, [zz7, zz8 ti, zz8 tg])), some (Sum.inl (3, [zz8 xx])), some (Sum.inr (Sum.inr (Sum.inr (Rs.pool (Prod.snd zz2))))), some (Sum.inl (74, [zz8 x0, zz8 x1, zz8 x2, zz8 x3, zz8 x4, zz8 x5, zz8 x6, zz8 x7, zz8 x8, zz8 x9, zz8 x10])), some (Sum.inl (72, [zz8 p0, zz8 p1, zz8 p2, zz8 p3])), some (Sum.inl (74, [zz8 (El.k (Gv.Node.e zz1)), zz8 (El.w (Gv.Node.e zz1)), zz8 (Gv.Ref.i (Gv.Node.l zz1)), zz8 (Gv.Ref.g (Gv.Node.l zz1)), zz8 (Gv.Ref.i (Gv.Node.r zz1)), zz8 (Gv.Ref.g (Gv.Node.r zz1)), zz8 (Gv.Part.n (Gv.Node.all zz1)), zz8 (Ti.Td.n (Gv.Part.sum (Gv.Node.all zz1))), zz8 (Ti.Td.s (Gv.Part.sum (Gv.Node.all zz1))), zz8 (Ti.Td.l (Gv.Part.sum (Gv.Node.all zz1))), zz8 (Gv.Node.h zz1)]))])) ∧ (decide (Prod.fst zz2 ≥ (0 : Int)) = false → Vc True ∧ Vc True ∧ (decide (Gv.Part.n zz3 ≥ f_) = true → Vc True ∧ (mayS xx (Gv.Part.sum zz3) zz4 = true → Post (G (zz8 (Gv.Part.n zz3)) [some (Sum.inl (76, [zz7, zz8 ti, zz8 tg])), some (Sum.inl (3, [zz8 xx])), some (Sum.inr (Sum.inr (Sum.inr (Rs.pool (Prod.snd zz2))))), some (Sum.inl (74, [zz8 x0, zz8 x1, zz8 x2, zz8 x3, zz8 x4, zz8 x5, zz8 x6, zz8 x7, zz8 x8, zz8 x9, zz8 x10])), some (Sum.inl (72, [zz8 (Gv.Part.n zz3), zz8 (Ti.Td.n (Gv.Part.sum zz3)), zz8 (Ti.Td.s (Gv.Part.sum zz3)), zz8 (Ti.Td.l (Gv.Part.sum zz3))])), some (Sum.inl (74, [zz8 (El.k (Gv.Node.e zz1)), zz8 (El.w (Gv.Node.e zz1)), zz8 (Gv.Ref.i (Gv.Node.l zz1)), zz8 (Gv.Ref.g (Gv.Node.l zz1)), zz8 (Gv.Ref.i (Gv.Node.r zz1)), zz8 (Gv.Ref.g (Gv.Node.r zz1)), zz8 (Gv.Part.n (Gv.Node.all zz1)), zz8 (Ti.Td.n (Gv.Part.sum (Gv.Node.all zz1))), zz8 (Ti.Td.s (Gv.Part.sum (Gv.Node.all zz1))), zz8 (Ti.Td.l (Gv.Part.sum (Gv.Node.all zz1))), zz8 (Gv.Node.h zz1)])), some (Sum.inl (72, [zz8 (Gv.Part.n (Gv.one O7 (El.mk x0 x1))), zz8 (Ti.Td.n zz4), zz8 (Ti.Td.s zz4), zz8 (Ti.Td.l zz4)]))])) ∧ (mayS xx (Gv.Part.sum zz3) zz4 = false → Vc (PP (Prod.snd zz2)) ∧ Vc True ∧ Vc (PP zz5 ∧ Gv.DeepN O7 k zz5 (Gv.lk O7 (Prod.snd zz2) (Gv.Ref.mk x4 x5))) ∧ Post (G (zz8 (Prod.fst zz6)) [some (Sum.inl (76, [zz7, zz8 ti, zz8 tg])), some (Sum.inl (3, [zz8 xx])), some (Sum.inr (Sum.inr (Sum.inr (Rs.pool (Prod.snd zz6))))), some (Sum.inl (74, [zz8 x0, zz8 x1, zz8 x2, zz8 x3, zz8 x4, zz8 x5, zz8 x6, zz8 x7, zz8 x8, zz8 x9, zz8 x10])), some (Sum.inl (72, [zz8 (Gv.Part.n zz3), zz8 (Ti.Td.n (Gv.Part.sum zz3)), zz8 (Ti.Td.s (Gv.Part.sum zz3)), zz8 (Ti.Td.l (Gv.Part.sum zz3))])), some (Sum.inl (74, [zz8 (El.k (Gv.Node.e zz1)), zz8 (El.w (Gv.Node.e zz1)), zz8 (Gv.Ref.i (Gv.Node.l zz1)), zz8 (Gv.Ref.g (Gv.Node.l zz1)), zz8 (Gv.Ref.i (Gv.Node.r zz1)), zz8 (Gv.Ref.g (Gv.Node.r zz1)), zz8 (Gv.Part.n (Gv.Node.all zz1)), zz8 (Ti.Td.n (Gv.Part.sum (Gv.Node.all zz1))), zz8 (Ti.Td.s (Gv.Part.sum (Gv.Node.all zz1))), zz8 (Ti.Td.l (Gv.Part.sum (Gv.Node.all zz1))), zz8 (Gv.Node.h zz1)])), some (Sum.inl (72, [zz8 (Gv.Part.n (Gv.one O7 (El.mk x0 x1))), zz8 (Ti.Td.n zz4), zz8 (Ti.Td.s zz4), zz8 (Ti.Td.l zz4)]))]))) ∧ (decide (Gv.Part.n zz3 ≥ f_) = false → Vc (PP (Prod.snd zz2)) ∧ Vc True ∧ Vc (PP zz5 ∧ Gv.DeepN O7 k zz5 (Gv.lk O7 (Prod.snd zz2) (Gv.Ref.mk x4 x5))) ∧ Post (G (zz8 (Prod.fst zz6)) [some (Sum.inl (76, [zz7, zz8 ti, zz8 tg])), some (Sum.inl (3, [zz8 xx])), some (Sum.inr (Sum.inr (Sum.inr (Rs.pool (Prod.snd zz6))))), some (Sum.inl (74, [zz8 x0, zz8 x1, zz8 x2, zz8 x3, zz8 x4, zz8 x5, zz8 x6, zz8 x7, zz8 x8, zz8 x9, zz8 x10])), some (Sum.inl (72, [zz8 (Gv.Part.n zz3), zz8 (Ti.Td.n (Gv.Part.sum zz3)), zz8 (Ti.Td.s (Gv.Part.sum zz3)), zz8 (Ti.Td.l (Gv.Part.sum zz3))])), some (Sum.inl (74, [zz8 (El.k (Gv.Node.e zz1)), zz8 (El.w (Gv.Node.e zz1)), zz8 (Gv.Ref.i (Gv.Node.l zz1)), zz8 (Gv.Ref.g (Gv.Node.l zz1)), zz8 (Gv.Ref.i (Gv.Node.r zz1)), zz8 (Gv.Ref.g (Gv.Node.r zz1)), zz8 (Gv.Part.n (Gv.Node.all zz1)), zz8 (Ti.Td.n (Gv.Part.sum (Gv.Node.all zz1))), zz8 (Ti.Td.s (Gv.Part.sum (Gv.Node.all zz1))), zz8 (Ti.Td.l (Gv.Part.sum (Gv.Node.all zz1))), zz8 (Gv.Node.h zz1)])), some (Sum.inl (72, [zz8 (Gv.Part.n (Gv.one O7 (El.mk x0 x1))), zz8 (Ti.Td.n zz4), zz8 (Ti.Td.s zz4), zz8 (Ti.Td.l zz4)]))]))))) ∧ (decide (p0 ≥ f_) = false → Vc (PP m) ∧ Vc (PP (Gv.see m (Gv.Ref.mk x2 x3)) ∧ Gv.DeepN O7 k (Gv.see m (Gv.Ref.mk x2 x3)) zz1) ∧ (decide (Prod.fst zz2 ≥ (0 : Int)) = true → Post (G (zz8 (Prod.fst zz2)) [some (Sum.inl (76, [zz7, zz8 ti, zz8 tg])), some (Sum.inl (3, [zz8 xx])), some (Sum.inr (Sum.inr (Sum.inr (Rs.pool (Prod.snd zz2))))), some (Sum.inl (74, [zz8 x0, zz8 x1, zz8 x2, zz8 x3, zz8 x4, zz8 x5, zz8 x6, zz8 x7, zz8 x8, zz8 x9, zz8 x10])), some (Sum.inl (72, [zz8 p0, zz8 p1, zz8 p2, zz8 p3])), some (Sum.inl (74, [zz8 (El.k (Gv.Node.e zz1)), zz8 (El.w (Gv.Node.e zz1)), zz8 (Gv.Ref.i (Gv.Node.l zz1)), zz8 (Gv.Ref.g (Gv.Node.l zz1)), zz8 (Gv.Ref.i (Gv.Node.r zz1)), zz8 (Gv.Ref.g (Gv.Node.r zz1)), zz8 (Gv.Part.n (Gv.Node.all zz1)), zz8 (Ti.Td.n (Gv.Part.sum (Gv.Node.all zz1))), zz8 (Ti.Td.s (Gv.Part.sum (Gv.Node.all zz1))), zz8 (Ti.Td.l (Gv.Part.sum (Gv.Node.all zz1))), zz8 (Gv.Node.h zz1)]))])) ∧ (decide (Prod.fst zz2 ≥ (0 : Int)) = false → Vc True ∧ Vc True ∧ (decide (Gv.Part.n zz3 ≥ f_) = true → Vc True ∧ (mayS xx (Gv.Part.sum zz3) zz4 = true → Post (G (zz8 (Gv.Part.n zz3)) [some (Sum.inl (76, [zz7, zz8 ti, zz8 tg])), some (Sum.inl (3, [zz8 xx])), some (Sum.inr (Sum.inr (Sum.inr (Rs.pool (Prod.snd zz2))))), some (Sum.inl (74, [zz8 x0, zz8 x1, zz8 x2, zz8 x3, zz8 x4, zz8 x5, zz8 x6, zz8 x7, zz8 x8, zz8 x9, zz8 x10])), some (Sum.inl (72, [zz8 (Gv.Part.n zz3), zz8 (Ti.Td.n (Gv.Part.sum zz3)), zz8 (Ti.Td.s (Gv.Part.sum zz3)), zz8 (Ti.Td.l (Gv.Part.sum zz3))])), some (Sum.inl (74, [zz8 (El.k (Gv.Node.e zz1)), zz8 (El.w (Gv.Node.e zz1)), zz8 (Gv.Ref.i (Gv.Node.l zz1)), zz8 (Gv.Ref.g (Gv.Node.l zz1)), zz8 (Gv.Ref.i (Gv.Node.r zz1)), zz8 (Gv.Ref.g (Gv.Node.r zz1)), zz8 (Gv.Part.n (Gv.Node.all zz1)), zz8 (Ti.Td.n (Gv.Part.sum (Gv.Node.all zz1))), zz8 (Ti.Td.s (Gv.Part.sum (Gv.Node.all zz1))), zz8 (Ti.Td.l (Gv.Part.sum (Gv.Node.all zz1))), zz8 (Gv.Node.h zz1)])), some (Sum.inl (72, [zz8 (Gv.Part.n (Gv.one O7 (El.mk x0 x1))), zz8 (Ti.Td.n zz4), zz8 (Ti.Td.s zz4), zz8 (Ti.Td.l zz4)]))])) ∧ (mayS xx (Gv.Part.sum zz3) zz4 = false → Vc (PP (Prod.snd zz2)) ∧ Vc True ∧ Vc (PP zz5 ∧ Gv.DeepN O7 k zz5 (Gv.lk O7 (Prod.snd zz2) (Gv.Ref.mk x4 x5))) ∧ Post (G (zz8 (Prod.fst zz6)) [some (Sum.inl (76, [zz7, zz8 ti, zz8 tg])), some (Sum.inl (3, [zz8 xx])), some (Sum.inr (Sum.inr (Sum.inr (Rs.pool (Prod.snd zz6))))), some (Sum.inl (74, [zz8 x0, zz8 x1, zz8 x2, zz8 x3, zz8 x4, zz8 x5, zz8 x6, zz8 x7, zz8 x8, zz8 x9, zz8 x10])), some (Sum.inl (72, [zz8 (Gv.Part.n zz3), zz8 (Ti.Td.n (Gv.Part.sum zz3)), zz8 (Ti.Td.s (Gv.Part.sum zz3)), zz8 (Ti.Td.l (Gv.Part.sum zz3))])), some (Sum.inl (74, [zz8 (El.k (Gv.Node.e zz1)), zz8 (El.w (Gv.Node.e zz1)), zz8 (Gv.Ref.i (Gv.Node.l zz1)), zz8 (Gv.Ref.g (Gv.Node.l zz1)), zz8 (Gv.Ref.i (Gv.Node.r zz1)), zz8 (Gv.Ref.g (Gv.Node.r zz1)), zz8 (Gv.Part.n (Gv.Node.all zz1)), zz8 (Ti.Td.n (Gv.Part.sum (Gv.Node.all zz1))), zz8 (Ti.Td.s (Gv.Part.sum (Gv.Node.all zz1))), zz8 (Ti.Td.l (Gv.Part.sum (Gv.Node.all zz1))), zz8 (Gv.Node.h zz1)])), some (Sum.inl (72, [zz8 (Gv.Part.n (Gv.one O7 (El.mk x0 x1))), zz8 (Ti.Td.n zz4), zz8 (Ti.Td.s zz4), zz8 (Ti.Td.l zz4)]))]))) ∧ (decide (Gv.Part.n zz3 ≥ f_) = false → Vc (PP (Prod.snd zz2)) ∧ Vc True ∧ Vc (PP zz5 ∧ Gv.DeepN O7 k zz5 (Gv.lk O7 (Prod.snd zz2) (Gv.Ref.mk x4 x5))) ∧ Post (G (zz8 (Prod.fst zz6)) [some (Sum.inl (76, [zz7, zz8 ti, zz8 tg])), some (Sum.inl (3, [zz8 xx])), some (Sum.inr (Sum.inr (Sum.inr (Rs.pool (Prod.snd zz6))))), some (Sum.inl (74, [zz8 x0, zz8 x1, zz8 x2, zz8 x3, zz8 x4, zz8 x5, zz8 x6, zz8 x7, zz8 x8, zz8 x9, zz8 x10])), some (Sum.inl (72, [zz8 (Gv.Part.n zz3), zz8 (Ti.Td.n (Gv.Part.sum zz3)), zz8 (Ti.Td.s (Gv.Part.sum zz3)), zz8 (Ti.Td.l (Gv.Part.sum zz3))])), some (Sum.inl (74, [zz8 (El.k (Gv.Node.e zz1)), zz8 (El.w (Gv.Node.e zz1)), zz8 (Gv.Ref.i (Gv.Node.l zz1)), zz8 (Gv.Ref.g (Gv.Node.l zz1)), zz8 (Gv.Ref.i (Gv.Node.r zz1)), zz8 (Gv.Ref.g (Gv.Node.r zz1)), zz8 (Gv.Part.n (Gv.Node.all zz1)), zz8 (Ti.Td.n (Gv.Part.sum (Gv.Node.all zz1))), zz8 (Ti.Td.s (Gv.Part.sum (Gv.Node.all zz1))), zz8 (Ti.Td.l (Gv.Part.sum (Gv.Node.all zz1))), zz8 (Gv.Node.h zz1)])), some (Sum.inl (72, [zz8 (Gv.Part.n (Gv.one O7 (El.mk x0 x1))), zz8 (Ti.Td.n zz4), zz8 (Ti.Td.s zz4), zz8 (Ti.Td.l zz4)]))])))))) ∧ ((x10 == (0 : Int)) = true → Post (G (zz8 (-1 : Int)) [some (Sum.inl (76, [zz7, zz8 ti, zz8 tg])), some (Sum.inl (3, [zz8 xx])), some (Sum.inr (Sum.inr (Sum.inr (Rs.pool m)))), some (Sum.inl (74, [zz8 x0, zz8 x1, zz8 x2, zz8 x3, zz8 x4, zz8 x5, zz8 x6, zz8 x7, zz8 x8, zz8 x9, zz8 x10])), some (Sum.inl (72, [zz8 p0, zz8 p1, zz8 p2, zz8 p3]))]))) ?_ (by kernel_rfl)
      intro zz7 zz8 zz1 zz2 zz3 zz4 zz5 zz6; subst zz6 zz5 zz4 zz3 zz2 zz1 zz8 zz7
      simp only [Gv.DeepN] at hd
      have e1 : ∀ e, (Gv.one O7 e).sum = O7.sum e := fun _ => rfl
      have done : ∀ (i : Int) (m' : Pl) (rest : Hp Rs), Gv.first O7 (mayS xx) (k + 1) m (⟨⟨x0, x1⟩, ⟨x2, x3⟩, ⟨x4, x5⟩, ⟨x6, ⟨x7, x8, x9⟩⟩, x10⟩ : Nd) (⟨p0, ⟨p1, p2, p3⟩⟩ : Gv.Part Ti.Td) f_ = (i, m') → G (.int .i64 i) ([some (.inl (76, [.pointer (some ⟨2, 0, none⟩), .int .i64 ti, .int .i64 tg])), some (.inl (3, [.int .i64 xx])), some (.inr (.inr (.inr (.pool m'))))] ++ rest) := by
        intro i m' rest e
        subst hG
        refine ⟨[0, 1, 2], ?_, rfl, ⟨.inl rfl, .inl rfl, ?_, trivial⟩, rfl, rfl, rfl, rfl⟩
        · simp only [e]; rfl
        · simp only [e]; rfl
      clear hG
      rw [Gv.first] at done
      dsimp only [Gv.W] at done
      simp only [e1]
      repeat' (first | apply And.intro | apply Vc.mk | apply fits.mk | intro h | apply Post.mk)
      all_goals (try simp only [decide_eq_true_eq, decide_eq_false_iff_not, Nat.zero_add, ge_iff_le, Int.not_le, Int.not_lt, Int.toNat_natCast, beq_iff_eq, beq_eq_false_iff_ne, bne_iff_ne, bne_eq_false_iff_eq, Bool.not_eq_true', Bool.not_eq_false'] at *)
      all_goals first | contradiction | omega | (apply congrArg Value.bool; assumption) | exact congrArg Value.bool (decide_eq_true (by assumption)) | exact congrArg Value.bool (decide_eq_false (Int.not_lt.mpr (by assumption))) | exact ⟨rfl, by omega⟩ | exact rfl | (simp [*, -List.getD_eq_getElem?_getD]; done) | skip
      all_goals first | assumption | (simp only [Gv.see_ok, Gv.put1_ok, Gv.setN_ok, Gv.tie_ok, Gv.turnL_ok, Gv.turnR_ok, Gv.level_ok, Gv.replace_ok, Gv.hang_ok, Gv.link_ok, Gv.pickF_ok, Gv.glue_ok, Gv.pick_ok, Gv.cutF_ok, Gv.gather_ok, Gv.between_ok, Gv.first_ok, Gv.last_ok]; assumption) | skip
      all_goals first | exact Gv.DeepN_of (hd.resolve_left (by omega)).1 (fun s => by simp only [Gv.lk_see, Gv.lk_first, Gv.lk_last]) | (simp only [Gv.lk_first, Gv.lk_last, Gv.lk_see]; first | exact Gv.DeepN_of (hd.resolve_left (by omega)).2 (fun s => by simp only [Gv.lk_see, Gv.lk_first, Gv.lk_last]) | exact Gv.DeepN_of (hd.resolve_left (by omega)).1 (fun s => by simp only [Gv.lk_see, Gv.lk_first, Gv.lk_last])) | skip
      all_goals (refine done _ _ _ ?_; repeat' split)
      all_goals first | rfl | (exfalso; omega) | (exfalso; simp_all; done) | (exfalso; simp_all; omega)
    · cases hx
def lastSP  (k : Nat) : Prim Rs := fun args hh => match args, hh with
  | [.pointer (some ⟨0, 0, none⟩), .agg ⟨[.int .i64 x0, .int .i64 x1, .int .i64 x2, .int .i64 x3, .int .i64 x4, .int .i64 x5, .int .i64 x6, .int .i64 x7, .int .i64 x8, .int .i64 x9, .int .i64 x10]⟩, .agg ⟨[.int .i64 p0, .int .i64 p1, .int .i64 p2, .int .i64 p3]⟩, .int .i64 f_, .func (.func 27) ⟨[]⟩ ⟨[.pointer (some ⟨1, 0, none⟩)]⟩], [some (.inl (76, [.pointer (some ⟨2, 0, none⟩), .int .i64 ti, .int .i64 tg])), some (.inl (3, [.int .i64 xx])), some (.inr (.inr (.inr (.pool m))))] => some ⟨PP m ∧ Gv.DeepN O7 k m (⟨⟨x0, x1⟩, ⟨x2, x3⟩, ⟨x4, x5⟩, ⟨x6, ⟨x7, x8, x9⟩⟩, x10⟩ : Nd), .int .i64 (Gv.last O7 (mayS xx) k m (⟨⟨x0, x1⟩, ⟨x2, x3⟩, ⟨x4, x5⟩, ⟨x6, ⟨x7, x8, x9⟩⟩, x10⟩ : Nd) (⟨p0, ⟨p1, p2, p3⟩⟩ : Gv.Part Ti.Td) f_).1, none, [some (.inl (76, [.pointer (some ⟨2, 0, none⟩), .int .i64 ti, .int .i64 tg])), some (.inl (3, [.int .i64 xx])), some (.inr (.inr (.inr (.pool (Gv.last O7 (mayS xx) k m (⟨⟨x0, x1⟩, ⟨x2, x3⟩, ⟨x4, x5⟩, ⟨x6, ⟨x7, x8, x9⟩⟩, x10⟩ : Nd) (⟨p0, ⟨p1, p2, p3⟩⟩ : Gv.Part Ti.Td) f_).2))))], [], [(0, 0)]⟩
  | _, _ => none
def TLastS (k : Nat) : Tab Rs := [(1000000000, wrapCon), (27, liftC zN 2 (con1 mayP)), (46, liftC zN 2 (con1 lookP)), (42, liftC zN 2 (con1 oneP)), (60, liftC zN 2 (con1 plusP)), (50, liftC zN 2 (con1 (lastSP k)))]
theorem lastS_ok : ∀ k : Nat, ConOk D Try.prog 50 (con1 (lastSP k))
  | 0 => by
    refine con1_ok (prim_at (fn := Try.f50) (root := codeOf Try.f50) (by kernel_rfl) (by kernel_rfl) (by kernel_rfl) fun args hh x hx => ?_)
    unfold lastSP at hx
    split at hx
    · rename_i x0 x1 x2 x3 x4 x5 x6 x7 x8 x9 x10 p0 p1 p2 p3 f_ ti tg xx m
      injection hx with hx
      subst hx
      refine ⟨by first | exact Nat.le_refl _ | exact Nat.zero_le _ | exact Nat.le_succ _, noLit rfl, (fun hw => by first | rfl | cases hw), fun _ hv => ?_⟩
      exact False.elim (And.right hv)
    · cases hx
  | k + 1 => by
    have ih := lastS_ok k
    refine con1_ok (prim_at (fn := Try.f50) (root := codeOf Try.f50) (by kernel_rfl) (by kernel_rfl) (by kernel_rfl) fun args hh x hx => ?_)
    unfold lastSP at hx
    split at hx
    · rename_i x0 x1 x2 x3 x4 x5 x6 x7 x8 x9 x10 p0 p1 p2 p3 f_ ti tg xx m
      injection hx with hx
      subst hx
      refine ⟨by first | exact Nat.le_refl _ | exact Nat.zero_le _ | exact Nat.le_succ _, noLit rfl, (fun hw => by first | rfl | cases hw), fun _ hv => ?_⟩
      obtain ⟨hp, hd⟩ := hv
      generalize hG : Rx.Ends (R := Rs) _ _ = G
      refine rx_ok (T := (TLastS k)) (show TabOk D Try.prog (TLastS k) from ⟨wrapCon_ok, liftC_ok _ _ may_ok, liftC_ok _ _ look_ok, liftC_ok _ _ one_ok, liftC_ok _ _ plus_ok, liftC_ok _ _ ih, trivial⟩) mixed 200 ?_
      refine as_text (q := let zz7 := Value.pointer (some (Addr.mk 2 0 none)); let zz8 := Value.int IntKind.i64; let zz1 := (Gv.see (Gv.see m (Gv.Ref.mk x2 x3)) (Gv.Ref.mk x4 x5)); let zz2 := (Gv.lk O7 m (Gv.Ref.mk x2 x3)); let zz3 := (Gv.plusP O7 (Gv.Part.mk p0 (Ti.Td.mk p1 p2 p3)) (Gv.Node.all zz2)); let zz4 := (Gv.last O7 (mayS xx) k zz1 (Gv.lk O7 (Gv.see m (Gv.Ref.mk x2 x3)) (Gv.Ref.mk x4 x5)) (Gv.plusP O7 zz3 (Gv.one O7 (El.mk x0 x1))) f_); let zz5 := (Gv.Part.sum (Gv.one O7 (El.mk x0 x1))); let zz6 := (Gv.last O7 (mayS xx) k (Prod.snd zz4) zz2 (Gv.Part.mk p0 (Ti.Td.mk p1 p2 p3)) f_); ((x10 == (0 : Int)) = false → (decide (p0 ≥ f_) = true → Post (G (zz8 (-1 : Int)) [some (Sum.inl (76, [zz7, zz8 ti, zz8 tg])), some (Sum.inl (3, [zz8 xx])), some (Sum.inr (Sum.inr (Sum.inr (Rs.pool m)))), some (Sum.inl (74, [zz8 x0, zz8 x1, zz8 x2, zz8 x3, zz8 x4, zz8 x5, zz8 x6, zz8 x7, zz8 x8, zz8 x9, zz8 x10])), some (Sum.inl (72, [zz8 p0, zz8 p1, zz8 p2, zz8 p3]))])) ∧ (decide (p0 ≥ f_) = false → Vc True ∧ (decide (IntKind.wrap IntKind.i64 (p0 + x6) ≤ f_) = true → Vc True ∧ ((!mayS xx (Ti.Td.mk p1 p2 p3) (Ti.Td.mk x7 x8 x9)) = true → Post (G (zz8 (-1 : Int)) [some (Sum.inl (76, [zz7, zz8 ti, zz8 tg])), some (Sum.inl (3, [zz8 xx])), some (Sum.inr (Sum.inr (Sum.inr (Rs.pool m)))), some (Sum.inl (74, [zz8 x0, zz8 x1, zz8 x2, zz8 x3, zz8 x4, zz8 x5, zz8 x6, zz8 x7, zz8 x8, zz8 x9, zz8 x10])), some (Sum.inl (72, [zz8 p0, zz8 p1, zz8 p2, zz8 p3]))])) ∧ ((!mayS xx (Ti.Td.mk p1 p2 p3) (Ti.Td.mk x7 x8 x9)) = false → Vc (PP m) ∧ Vc True ∧ Vc True ∧ Vc (PP (Gv.see m (Gv.Ref.mk x2 x3))) ∧ Vc True ∧ Vc (PP zz1 ∧ Gv.DeepN O7 k zz1 (Gv.lk O7 (Gv.see m (Gv.Ref.mk x2 x3)) (Gv.Ref.mk x4 x5))) ∧ (decide (Prod.fst zz4 ≥ (0 : Int)) = true → Post (G (zz8 (Prod.fst zz4)) [some (Sum.inl (76, [zz7, zz8 ti, zz8 tg])), some (Sum.inl (3, [zz8 xx])), some (Sum.inr (Sum.inr (Sum.inr (Rs.pool (Prod.snd zz4))))), some (Sum.inl (74, [zz8 x0, zz8 x1, zz8 x2, zz8 x3, zz8 x4, zz8 x5, zz8 x6, zz8 x7, zz8 x8, zz8 x9, zz8 x10])), some (Sum.inl (72, [zz8 p0, zz8 p1, zz8 p2, zz8 p3])), some (Sum.inl (74, [zz8 (El.k (Gv.Node.e zz2)), zz8 (El.w (Gv.Node.e zz2)), zz8 (Gv.Ref.i (Gv.Node.l zz2)), zz8 (Gv.Ref.g (Gv.Node.l zz2)), zz8 (Gv.Ref.i (Gv.Node.r zz2)), zz8 (Gv.Ref.g (Gv.Node.r zz2)), zz8 (Gv.Part.n (Gv.Node.all zz2)), zz8 (Ti.Td.n (Gv.Part.sum (Gv.Node.all zz2))), zz8 (Ti.Td.s (Gv.Part.sum (Gv.Node.all zz2))), zz8 (Ti.Td.l (Gv.Part.sum (Gv.Node.all zz2))), zz8 (Gv.Node.h zz2)])), some (Sum.inl (72, [zz8 (Gv.Part.n zz3), zz8 (Ti.Td.n (Gv.Part.sum zz3)), zz8 (Ti.Td.s (Gv.Part.sum zz3)), zz8 (Ti.Td.l (Gv.Part.sum zz3))])), some (Sum.inl (72, [zz8 (Gv.Part.n (Gv.one O7 (El.mk x0 x1))), zz8 (Ti.Td.n zz5), zz8 (Ti.Td.s zz5), zz8 (Ti.Td.l zz5)]))])) ∧ (decide (Prod.fst zz4 ≥ (0 : Int)) = false → (decide (Gv.Part.n zz3 < f_) = true → Vc True ∧ (mayS xx (Gv.Part.sum zz3) zz5 = true → Post (G (zz8 (Gv.Part.n zz3)) [some (Sum.inl (76, [zz7, zz8 ti, zz8 tg])), some (Sum.inl (3, [zz8 xx])), some (Sum.inr (Sum.inr (Sum.inr (Rs.pool (Prod.snd zz4))))), some (Sum.inl (74, [zz8 x0, zz8 x1, zz8 x2, zz8 x3, zz8 x4, zz8 x5, zz8 x6, zz8 x7, zz8 x8, zz8 x9, zz8 x10])), some (Sum.inl (72, [zz8 p0, zz8 p1, zz8 p2, zz8 p3])), some (Sum.inl (74, [zz8 (El.k (Gv.Node.e zz2)), zz8 (El.w (Gv.Node.e zz2)), zz8 (Gv.Ref.i (Gv.Node.l zz2)), zz8 (Gv.Ref.g (Gv.Node.l zz2)), zz8 (Gv.Ref.i (Gv.Node.r zz2)), zz8 (Gv.Ref.g (Gv.Node.r zz2)), zz8 (Gv.Part.n (Gv.Node.all zz2)), zz8 (Ti.Td.n (Gv.Part.sum (Gv.Node.all zz2))), zz8 (Ti.Td.s (Gv.Part.sum (Gv.Node.all zz2))), zz8 (Ti.Td.l (Gv.Part.sum (Gv.Node.all zz2))), zz8 (Gv.Node.h zz2)])), some (Sum.inl (72, [zz8 (Gv.Part.n zz3), zz8 (Ti.Td.n (Gv.Part.sum zz3)), zz8 (Ti.Td.s (Gv.Part.sum zz3)), zz8 (Ti.Td.l (Gv.Part.sum zz3))])), some (Sum.inl (72, [zz8 (Gv.Part.n (Gv.one O7 (El.mk x0 x1))), zz8 (Ti.Td.n zz5), zz8 (Ti.Td.s zz5), zz8 (Ti.Td.l zz5)]))])) ∧ (mayS xx (Gv.Part.sum zz3) zz5 = false → Vc (PP (Prod.snd zz4) ∧ Gv.DeepN O7 k (Prod.snd zz4) zz2) ∧ Post (G (zz8 (Prod.fst zz6)) [some (Sum.inl (76, [zz7, zz8 ti, zz8 tg])), some (Sum.inl (3, [zz8 xx])), some (Sum.inr (Sum.inr (Sum.inr (Rs.pool (Prod.snd zz6))))), some (Sum.inl (74, [zz8 x0, zz8 x1, zz8 x2, zz8 x3, zz8 x4, zz8 x5, zz8 x6, zz8 x7, zz8 x8, zz8 x9, zz8 x10])), some (Sum.inl (72, [zz8 p0, zz8 p1, zz8 p2, zz8 p3])), some (Sum.inl (74, [zz8 (El.k (Gv.Node.e zz2)), zz8 (El.w (Gv.Node.e zz2)), zz8 (Gv.Ref.i (Gv.Node.l zz2)), zz8 (Gv.Ref.g (Gv.Node.l zz2)), zz8 (Gv.Ref.i (Gv.Node.r zz2)), zz8 (Gv.Ref.g (Gv.Node.r zz2)), zz8 (Gv.Part.n (Gv.Node.all zz2)), zz8 (Ti.Td.n (Gv.Part.sum (Gv.Node.all zz2))), zz8 (Ti.Td.s (Gv.Part.sum (Gv.Node.all zz2))), zz8 (Ti.Td.l (Gv.Part.sum (Gv.Node.all zz2))), zz8 (Gv.Node.h zz2)])), some (Sum.inl (72, [zz8 (Gv.Part.n zz3), zz8 (Ti.Td.n (Gv.Part.sum zz3)), zz8 (Ti.Td.s (Gv.Part.sum zz3)), zz8 (Ti.Td.l (Gv.Part.sum zz3))])), some (Sum.inl (72, [zz8 (Gv.Part.n (Gv.one O7 (El.mk x0 x1))), zz8 (Ti.Td.n zz5), zz8 (Ti.Td.s zz5), zz8 (Ti.Td.l zz5)]))]))) ∧ (decide (Gv.Part.n zz3 < f_) = false → Vc (PP (Prod.snd zz4) ∧ Gv.DeepN O7 k (Prod.snd zz4) zz2) ∧ Post (G (zz8 (Prod.fst zz6)) [some (Sum.inl (76, [zz7, zz8 ti, zz8 tg])), some (Sum.inl (3, [zz8 xx])), some (Sum.inr (Sum.inr (Sum.inr (Rs.pool (Prod.snd zz6))))), some (Sum.inl (74, [zz8 x0, zz8 x1, zz8 x2, zz8 x3, zz8 x4, zz8 x5, zz8 x6, zz8 x7, zz8 x8, zz8 x9, zz8 x10])), some (Sum.inl (72, [zz8 p0, zz8 p1, zz8 p2, zz8 p3])), some (Sum.inl (74, [zz8 (El.k (Gv.Node.e zz2)), zz8 (El.w (Gv.Node.e zz2)), zz8 (Gv.Ref.i (Gv.Node.l zz2)), zz8 (Gv.Ref.g (Gv.Node.l zz2)), zz8 (Gv.Ref.i (Gv.Node.r zz2)), zz8 (Gv.Ref.g (Gv.Node.r zz2)), zz8 (Gv.Part.n (Gv.Node.all zz2)), zz8 (Ti.Td.n (Gv.Part.sum (Gv.Node.all zz2))), zz8 (Ti.Td.s (Gv.Part.sum (Gv.Node.all zz2))), zz8 (Ti.Td.l (Gv.Part.sum (Gv.Node.all zz2))), zz8 (Gv.Node.h zz2)])), some (Sum.inl (72, [zz8 (Gv.Part.n zz3), zz8 (Ti.Td.n (Gv.Part.sum zz3)), zz8 (Ti.Td.s (Gv.Part.sum zz3)), zz8 (Ti.Td.l (Gv.Part.sum zz3))])), some (Sum.inl (72, [zz8 (Gv.Part.n (Gv.one O7 (El.mk x0 x1))), zz8 (Ti.Td.n zz5), zz8 (Ti.Td.s zz5), zz8 (Ti.Td.l zz5)]))]))))) ∧ (decide (IntKind.wrap IntKind.i64 (p0 + x6) ≤ f_) = false → Vc (PP m) ∧ Vc True ∧ Vc True ∧ Vc (PP (Gv.see m (Gv.Ref.mk x2 x3))) ∧ Vc True ∧ Vc (PP zz1 ∧ Gv.DeepN O7 k zz1 (Gv.lk O7 (Gv.see m (Gv.Ref.mk x2 x3)) (Gv.Ref.mk x4 x5))) ∧ (decide (Prod.fst zz4 ≥ (0 : Int)) = true → Post (G (zz8 (Prod.fst zz4)) [some (Sum.inl (76, [zz7, zz8 ti, zz8 tg])), some (Sum.inl (3, [zz8 xx])), some (Sum.inr (Sum.inr (Sum.inr (Rs.pool (Prod.snd zz4))))), some (Sum.inl (74, [zz8 x0, zz8 x1, zz8 x2, zz8 x3, zz8 x4, zz8 x5, zz8 x6, zz8 x7, zz8 x8, zz8 x9, zz8 x10])), some (Sum.inl (72, [zz8 p0, zz8 p1, zz8 p2, zz8 p3])), some (Sum.inl (74, [zz8 (El.k (Gv.Node.e zz2)), zz8 (El.w (Gv.Node.e zz2)), zz8 (Gv.Ref.i (Gv.Node.l zz2)), zz8 (Gv.Ref.g (Gv.Node.l zz2)), zz8 (Gv.Ref.i (Gv.Node.r zz2)), zz8 (Gv.Ref.g (Gv.Node.r zz2)), zz8 (Gv.Part.n (Gv.Node.all zz2)), zz8 (Ti.Td.n (Gv.Part.sum (Gv.Node.all zz2))), zz8 (Ti.Td.s (Gv.Part.sum (Gv.Node.all zz2))), zz8 (Ti.Td.l (Gv.Part.sum (Gv.Node.all zz2))), zz8 (Gv.Node.h zz2)])), some (Sum.inl (72, [zz8 (Gv.Part.n zz3), zz8 (Ti.Td.n (Gv.Part.sum zz3)), zz8 (Ti.Td.s (Gv.Part.sum zz3)), zz8 (Ti.Td.l (Gv.Part.sum zz3))])), some (Sum.inl (72, [zz8 (Gv.Part.n (Gv.one O7 (El.mk x0 x1))), zz8 (Ti.Td.n zz5), zz8 (Ti.Td.s zz5), zz8 (Ti.Td.l zz5)]))])) ∧ (decide (Prod.fst zz4 ≥ (0 : Int)) = false → (decide (Gv.Part.n zz3 < f_) = true → Vc True ∧ (mayS xx (Gv.Part.sum zz3) zz5 = true → Post (G (zz8 (Gv.Part.n zz3)) [some (Sum.inl (76, [zz7, zz8 ti, zz8 tg])), some (Sum.inl (3, [zz8 xx])), some (Sum.inr (Sum.inr (Sum.inr (Rs.pool (Prod.snd zz4))))), some (Sum.inl (74, [zz8 x0, zz8 x1, zz8 x2, zz8 x3, zz8 x4, zz8 x5, zz8 x6, zz8 x7, zz8 x8, zz8 x9, zz8 x10])), some (Sum.inl (72, [zz8 p0, zz8 p1, zz8 p2, zz8 p3])), some (Sum.inl (74, [zz8 (El.k (Gv.Node.e zz2)), zz8 (El.w (Gv.Node.e zz2)), zz8 (Gv.Ref.i (Gv.Node.l zz2)), zz8 (Gv.Ref.g (Gv.Node.l zz2)), zz8 (Gv.Ref.i (Gv.Node.r zz2)), zz8 (Gv.Ref.g (Gv.Node.r zz2)), zz8 (Gv.Part.n (Gv.Node.all zz2)), zz8 (Ti.Td.n (Gv.Part.sum (Gv.Node.all zz2))), zz8 (Ti.Td.s (Gv.Part.sum (Gv.Node.all zz2))), zz8 (Ti.Td.l (Gv.Part.sum (Gv.Node.all zz2))), zz8 (Gv.Node.h zz2)])), some (Sum.inl (72, [zz8 (Gv.Part.n zz3), zz8 (Ti.Td.n (Gv.Part.sum zz3)), zz8 (Ti.Td.s (Gv.Part.sum zz3)), zz8 (Ti.Td.l (Gv.Part.sum zz3))])), some (Sum.inl (72, [zz8 (Gv.Part.n (Gv.one O7 (El.mk x0 x1))), zz8 (Ti.Td.n zz5), zz8 (Ti.Td.s zz5), zz8 (Ti.Td.l zz5)]))])) ∧ (mayS xx (Gv.Part.sum zz3) zz5 = false → Vc (PP (Prod.snd zz4) ∧ Gv.DeepN O7 k (Prod.snd zz4) zz2) ∧ Post (G (zz8 (Prod.fst zz6)) [some (Sum.inl (76, [zz7, zz8 ti, zz8 tg])), some (Sum.inl (3, [zz8 xx])), some (Sum.inr (Sum.inr (Sum.inr (Rs.pool (Prod.snd zz6))))), some (Sum.inl (74, [zz8 x0, zz8 x1, zz8 x2, zz8 x3, zz8 x4, zz8 x5, zz8 x6, zz8 x7, zz8 x8, zz8 x9, zz8 x10])), some (Sum.inl (72, [zz8 p0, zz8 p1, zz8 p2, zz8 p3])), some (Sum.inl (74, [zz8 (El.k (Gv.Node.e zz2)), zz8 (El.w (Gv.Node.e zz2)), zz8 (Gv.Ref.i (Gv.Node.l zz2)), zz8 (Gv.Ref.g (Gv.Node.l zz2)), zz8 (Gv.Ref.i (Gv.Node.r zz2)), zz8 (Gv.Ref.g (Gv.Node.r zz2)), zz8 (Gv.Part.n (Gv.Node.all zz2)), zz8 (Ti.Td.n (Gv.Part.sum (Gv.Node.all zz2))), zz8 (Ti.Td.s (Gv.Part.sum (Gv.Node.all zz2))), zz8 (Ti.Td.l (Gv.Part.sum (Gv.Node.all zz2))), zz8 (Gv.Node.h zz2)])), some (Sum.inl (72, [zz8 (Gv.Part.n zz3), zz8 (Ti.Td.n (Gv.Part.sum zz3)), zz8 (Ti.Td.s (Gv.Part.sum zz3)), zz8 (Ti.Td.l (Gv.Part.sum zz3))])), some (Sum.inl (72, [zz8 (Gv.Part.n (Gv.one O7 (El.mk x0 x1))), zz8 (Ti.Td.n zz5), zz8 (Ti.Td.s zz5), zz8 (Ti.Td.l zz5)]))]))) ∧ (decide (Gv.Part.n zz3 < f_) = false → Vc (PP (Prod.snd zz4) ∧ Gv.DeepN O7 k (Prod.snd zz4) zz2) ∧ Post (G (zz8 (Prod.fst zz6)) [some (Sum.inl (76, [zz7, zz8 ti, zz8 tg])), some (Sum.inl (3, [zz8 xx])), some (Sum.inr (Sum.inr (Sum.inr (Rs.pool (Prod.snd zz6))))), some (Sum.inl (74, [zz8 x0, zz8 x1, zz8 x2, zz8 x3, zz8 x4, zz8 x5, zz8 x6, zz8 x7, zz8 x8, zz8 x9, zz8 x10])), some (Sum.inl (72, [zz8 p0, zz8 p1, zz8 p2, zz8 p3])), some (Sum.inl (74, [zz8 (El.k (Gv.Node.e zz2)), zz8 (El.w (Gv.Node.e zz2)), zz8 (Gv.Ref.i (Gv.Node.l zz2)), zz8 (Gv.Ref.g (Gv.Node.l zz2)), zz8 (Gv.Ref.i (Gv.Node.r zz2)), zz8 (Gv.Ref.g (Gv.Node.r zz2)), zz8 (Gv.Part.n (Gv.Node.all zz2)), zz8 (Ti.Td.n (Gv.Part.sum (Gv.Node.all zz2))), zz8 (Ti.Td.s (Gv.Part.sum (Gv.Node.all zz2))), zz8 (Ti.Td.l (Gv.Part.sum (Gv.Node.all zz2))), zz8 (Gv.Node.h zz2)])), some (Sum.inl (72, [zz8 (Gv.Part.n zz3), zz8 (Ti.Td.n (Gv.Part.sum zz3)), zz8 (Ti.Td.s (Gv.Part.sum zz3)), zz8 (Ti.Td.l (Gv.Part.sum zz3))])), some (Sum.inl (72, [zz8 (Gv.Part.n (Gv.one O7 (El.mk x0 x1))), zz8 (Ti.Td.n zz5), zz8 (Ti.Td.s zz5), zz8 (Ti.Td.l zz5)]))])))))) ∧ ((x10 == (0 : Int)) = true → Post (G (zz8 (-1 : Int)) [some (Sum.inl (76, [zz7, zz8 ti, zz8 tg])), some (Sum.inl (3, [zz8 xx])), some (Sum.inr (Sum.inr (Sum.inr (Rs.pool m)))), some (Sum.inl (74, [zz8 x0, zz8 x1, zz8 x2, zz8 x3, zz8 x4, zz8 x5, zz8 x6, zz8 x7, zz8 x8, zz8 x9, zz8 x10])), some (Sum.inl (72, [zz8 p0, zz8 p1, zz8 p2, zz8 p3]))]))) ?_ (by kernel_rfl)
      intro zz7 zz8 zz1 zz2 zz3 zz4 zz5 zz6; subst zz6 zz5 zz4 zz3 zz2 zz1 zz8 zz7
      simp only [Gv.DeepN] at hd
      have e1 : ∀ e, (Gv.one O7 e).sum = O7.sum e := fun _ => rfl
      have done : ∀ (i : Int) (m' : Pl) (rest : Hp Rs), Gv.last O7 (mayS xx) (k + 1) m (⟨⟨x0, x1⟩, ⟨x2, x3⟩, ⟨x4, x5⟩, ⟨x6, ⟨x7, x8, x9⟩⟩, x10⟩ : Nd) (⟨p0, ⟨p1, p2, p3⟩⟩ : Gv.Part Ti.Td) f_ = (i, m') → G (.int .i64 i) ([some (.inl (76, [.pointer (some ⟨2, 0, none⟩), .int .i64 ti, .int .i64 tg])), some (.inl (3, [.int .i64 xx])), some (.inr (.inr (.inr (.pool m'))))] ++ rest) := by
        intro i m' rest e
        subst hG
        refine ⟨[0, 1, 2], ?_, rfl, ⟨.inl rfl, .inl rfl, ?_, trivial⟩, rfl, rfl, rfl, rfl⟩
        · simp only [e]; rfl
        · simp only [e]; rfl
      clear hG
      rw [Gv.last] at done
      dsimp only [Gv.W] at done
      simp only [e1]
      repeat' (first | apply And.intro | apply Vc.mk | apply fits.mk | intro h | apply Post.mk)
      all_goals (try simp only [decide_eq_true_eq, decide_eq_false_iff_not, Nat.zero_add, ge_iff_le, Int.not_le, Int.not_lt, Int.toNat_natCast, beq_iff_eq, beq_eq_false_iff_ne, bne_iff_ne, bne_eq_false_iff_eq, Bool.not_eq_true', Bool.not_eq_false'] at *)
      all_goals first | contradiction | omega | (apply congrArg Value.bool; assumption) | exact congrArg Value.bool (decide_eq_true (by assumption)) | exact congrArg Value.bool (decide_eq_false (Int.not_lt.mpr (by assumption))) | exact ⟨rfl, by omega⟩ | exact rfl | (simp [*, -List.getD_eq_getElem?_getD]; done) | skip
      all_goals first | assumption | (simp only [Gv.see_ok, Gv.put1_ok, Gv.setN_ok, Gv.tie_ok, Gv.turnL_ok, Gv.turnR_ok, Gv.level_ok, Gv.replace_ok, Gv.hang_ok, Gv.link_ok, Gv.pickF_ok, Gv.glue_ok, Gv.pick_ok, Gv.cutF_ok, Gv.gather_ok, Gv.between_ok, Gv.first_ok, Gv.last_ok]; assumption) | skip
      all_goals first | exact Gv.DeepN_of (hd.resolve_left (by omega)).1 (fun s => by simp only [Gv.lk_see, Gv.lk_first, Gv.lk_last]) | (simp only [Gv.lk_first, Gv.lk_last, Gv.lk_see]; first | exact Gv.DeepN_of (hd.resolve_left (by omega)).2 (fun s => by simp only [Gv.lk_see, Gv.lk_first, Gv.lk_last]) | exact Gv.DeepN_of (hd.resolve_left (by omega)).1 (fun s => by simp only [Gv.lk_see, Gv.lk_first, Gv.lk_last])) | skip
      all_goals (refine done _ _ _ ?_; repeat' split)
      all_goals first | rfl | (exfalso; omega) | (exfalso; simp_all; done) | (exfalso; simp_all; omega)
    · cases hx
end Go.Proofs.Ytclagkjjgmeifaa.G7


/- grove: a pool of nodes of keys and numbers: its calls: First, Last, with S. -/
namespace Go.Proofs.Ytclagkjjgmeifaa.G7
open Go.Proofs.Ytclagkjjgmeifaa.Rx
set_option linter.unusedVariables false
set_option linter.unusedSimpArgs false
set_option maxRecDepth 100000
set_option maxHeartbeats 16000000
def gfirstSP (K : Nat) : Prim Rs := fun args hh => match args, hh with
  | [.pointer (some ⟨0, 0, none⟩), .int .i64 f_, .func (.func 27) ⟨[]⟩ ⟨[.pointer (some ⟨1, 0, none⟩)]⟩], [some (.inl (76, [.pointer (some ⟨2, 0, none⟩), .int .i64 ti, .int .i64 tg])), some (.inl (3, [.int .i64 xx])), some (.inr (.inr (.inr (.pool m))))] => some ⟨PP m ∧ Gv.DeepN O7 K (Gv.see m (⟨ti, tg⟩ : Gv.Ref)) (Gv.lk O7 m (⟨ti, tg⟩ : Gv.Ref)), .int .i64 (Gv.first O7 (mayS xx) K (Gv.see m (⟨ti, tg⟩ : Gv.Ref)) (Gv.lk O7 m (⟨ti, tg⟩ : Gv.Ref)) ⟨0, O7.a0⟩ f_).1, none, [some (.inl (76, [.pointer (some ⟨2, 0, none⟩), .int .i64 ti, .int .i64 tg])), some (.inl (3, [.int .i64 xx])), some (.inr (.inr (.inr (.pool (Gv.first O7 (mayS xx) K (Gv.see m (⟨ti, tg⟩ : Gv.Ref)) (Gv.lk O7 m (⟨ti, tg⟩ : Gv.Ref)) ⟨0, O7.a0⟩ f_).2))))], [], [(0, 0)]⟩
  | _, _ => none
def TGfirstS (K : Nat) : Tab Rs := [(46, liftC zN 2 (con1 lookP)), (49, liftC zN 2 (con1 (firstSP K)))]
theorem gfirstS_ok (K : Nat) : ConOk D Try.prog 29 (con1 (gfirstSP K)) := by
  refine con1_ok (prim_at (fn := Try.f29) (root := codeOf Try.f29) (by kernel_rfl) (by kernel_rfl) (by kernel_rfl) fun args hh x hx => ?_)
  unfold gfirstSP at hx
  split at hx
  · rename_i f_ ti tg xx m
    injection hx with hx
    subst hx
    refine ⟨by first | exact Nat.le_refl _ | exact Nat.zero_le _ | exact Nat.le_succ _, noLit rfl, (fun hw => by first | rfl | cases hw), fun _ hv => ?_⟩
    obtain ⟨hp, hd⟩ := hv
    generalize hG : Rx.Ends (R := Rs) _ _ = G
    refine rx_ok (T := (TGfirstS K)) (show TabOk D Try.prog (TGfirstS K) from ⟨liftC_ok _ _ look_ok, liftC_ok _ _ (firstS_ok K), trivial⟩) mixed 200 ?_
    refine as_text (q := let zz1 := (Gv.first O7 (mayS xx) K (Gv.see m (Gv.Ref.mk ti tg)) (Gv.lk O7 m (Gv.Ref.mk ti tg)) (Gv.Part.mk (0 : Int) (Ti.Td.mk (0 : Int) (0 : Int) (0 : Int))) f_); Vc (PP m) ∧ Vc (PP (Gv.see m (Gv.Ref.mk ti tg)) ∧ Gv.DeepN O7 K (Gv.see m (Gv.Ref.mk ti tg)) (Gv.lk O7 m (Gv.Ref.mk ti tg))) ∧ Post (G (Value.int IntKind.i64 (Prod.fst zz1)) [some (Sum.inl (76, [Value.pointer (some (Addr.mk 2 0 none)), Value.int IntKind.i64 ti, Value.int IntKind.i64 tg])), some (Sum.inl (3, [Value.int IntKind.i64 xx])), some (Sum.inr (Sum.inr (Sum.inr (Rs.pool (Prod.snd zz1)))))])) ?_ (by kernel_rfl)
    intro zz1; subst zz1
    subst hG
    repeat' (first | apply And.intro | apply Vc.mk | apply fits.mk | intro h | apply Post.mk)
    all_goals (try simp only [decide_eq_true_eq, decide_eq_false_iff_not, Nat.zero_add, ge_iff_le, Int.not_le, Int.not_lt, Int.toNat_natCast, beq_iff_eq, beq_eq_false_iff_ne, bne_iff_ne, bne_eq_false_iff_eq, Bool.not_eq_true', Bool.not_eq_false'] at *)
    all_goals first | contradiction | omega | (apply congrArg Value.bool; assumption) | exact congrArg Value.bool (decide_eq_true (by assumption)) | exact congrArg Value.bool (decide_eq_false (Int.not_lt.mpr (by assumption))) | exact ⟨rfl, by omega⟩ | exact rfl | (simp [*, -List.getD_eq_getElem?_getD]; done) | skip
    all_goals first | assumption | (simp only [Gv.see_ok, Gv.put1_ok, Gv.setN_ok, Gv.tie_ok, Gv.turnL_ok, Gv.turnR_ok, Gv.level_ok, Gv.replace_ok, Gv.hang_ok, Gv.link_ok, Gv.pickF_ok, Gv.glue_ok, Gv.pick_ok, Gv.cutF_ok, Gv.gather_ok, Gv.between_ok, Gv.first_ok, Gv.last_ok]; assumption) | skip
    exact ⟨[0, 1, 2], rfl, rfl, ⟨.inl rfl, .inl rfl, rfl, trivial⟩, rfl, rfl, rfl, rfl⟩
  · cases hx
def glastSP (K : Nat) : Prim Rs := fun args hh => match args, hh with
  | [.pointer (some ⟨0, 0, none⟩), .int .i64 f_, .func (.func 27) ⟨[]⟩ ⟨[.pointer (some ⟨1, 0, none⟩)]⟩], [some (.inl (76, [.pointer (some ⟨2, 0, none⟩), .int .i64 ti, .int .i64 tg])), some (.inl (3, [.int .i64 xx])), some (.inr (.inr (.inr (.pool m))))] => some ⟨PP m ∧ Gv.DeepN O7 K (Gv.see m (⟨ti, tg⟩ : Gv.Ref)) (Gv.lk O7 m (⟨ti, tg⟩ : Gv.Ref)), .int .i64 (Gv.last O7 (mayS xx) K (Gv.see m (⟨ti, tg⟩ : Gv.Ref)) (Gv.lk O7 m (⟨ti, tg⟩ : Gv.Ref)) ⟨0, O7.a0⟩ f_).1, none, [some (.inl (76, [.pointer (some ⟨2, 0, none⟩), .int .i64 ti, .int .i64 tg])), some (.inl (3, [.int .i64 xx])), some (.inr (.inr (.inr (.pool (Gv.last O7 (mayS xx) K (Gv.see m (⟨ti, tg⟩ : Gv.Ref)) (Gv.lk O7 m (⟨ti, tg⟩ : Gv.Ref)) ⟨0, O7.a0⟩ f_).2))))], [], [(0, 0)]⟩
  | _, _ => none
def TGlastS (K : Nat) : Tab Rs := [(46, liftC zN 2 (con1 lookP)), (50, liftC zN 2 (con1 (lastSP K)))]
theorem glastS_ok (K : Nat) : ConOk D Try.prog 30 (con1 (glastSP K)) := by
  refine con1_ok (prim_at (fn := Try.f30) (root := codeOf Try.f30) (by kernel_rfl) (by kernel_rfl) (by kernel_rfl) fun args hh x hx => ?_)
  unfold glastSP at hx
  split at hx
  · rename_i f_ ti tg xx m
    injection hx with hx
    subst hx
    refine ⟨by first | exact Nat.le_refl _ | exact Nat.zero_le _ | exact Nat.le_succ _, noLit rfl, (fun hw => by first | rfl | cases hw), fun _ hv => ?_⟩
    obtain ⟨hp, hd⟩ := hv
    generalize hG : Rx.Ends (R := Rs) _ _ = G
    refine rx_ok (T := (TGlastS K)) (show TabOk D Try.prog (TGlastS K) from ⟨liftC_ok _ _ look_ok, liftC_ok _ _ (lastS_ok K), trivial⟩) mixed 200 ?_
    refine as_text (q := let zz1 := (Gv.last O7 (mayS xx) K (Gv.see m (Gv.Ref.mk ti tg)) (Gv.lk O7 m (Gv.Ref.mk ti tg)) (Gv.Part.mk (0 : Int) (Ti.Td.mk (0 : Int) (0 : Int) (0 : Int))) f_); Vc (PP m) ∧ Vc (PP (Gv.see m (Gv.Ref.mk ti tg)) ∧ Gv.DeepN O7 K (Gv.see m (Gv.Ref.mk ti tg)) (Gv.lk O7 m (Gv.Ref.mk ti tg))) ∧ Post (G (Value.int IntKind.i64 (Prod.fst zz1)) [some (Sum.inl (76, [Value.pointer (some (Addr.mk 2 0 none)), Value.int IntKind.i64 ti, Value.int IntKind.i64 tg])), some (Sum.inl (3, [Value.int IntKind.i64 xx])), some (Sum.inr (Sum.inr (Sum.inr (Rs.pool (Prod.snd zz1)))))])) ?_ (by kernel_rfl)
    intro zz1; subst zz1
    subst hG
    repeat' (first | apply And.intro | apply Vc.mk | apply fits.mk | intro h | apply Post.mk)
    all_goals (try simp only [decide_eq_true_eq, decide_eq_false_iff_not, Nat.zero_add, ge_iff_le, Int.not_le, Int.not_lt, Int.toNat_natCast, beq_iff_eq, beq_eq_false_iff_ne, bne_iff_ne, bne_eq_false_iff_eq, Bool.not_eq_true', Bool.not_eq_false'] at *)
    all_goals first | contradiction | omega | (apply congrArg Value.bool; assumption) | exact congrArg Value.bool (decide_eq_true (by assumption)) | exact congrArg Value.bool (decide_eq_false (Int.not_lt.mpr (by assumption))) | exact ⟨rfl, by omega⟩ | exact rfl | (simp [*, -List.getD_eq_getElem?_getD]; done) | skip
    all_goals first | assumption | (simp only [Gv.see_ok, Gv.put1_ok, Gv.setN_ok, Gv.tie_ok, Gv.turnL_ok, Gv.turnR_ok, Gv.level_ok, Gv.replace_ok, Gv.hang_ok, Gv.link_ok, Gv.pickF_ok, Gv.glue_ok, Gv.pick_ok, Gv.cutF_ok, Gv.gather_ok, Gv.between_ok, Gv.first_ok, Gv.last_ok]; assumption) | skip
    exact ⟨[0, 1, 2], rfl, rfl, ⟨.inl rfl, .inl rfl, rfl, trivial⟩, rfl, rfl, rfl, rfl⟩
  · cases hx
end Go.Proofs.Ytclagkjjgmeifaa.G7


/- grove: a tree as a thing: First, Last of the law. -/
namespace Go.Proofs.Ytclagkjjgmeifaa.G7
open Go.Proofs.Ytclagkjjgmeifaa.Rx Go.Proofs.Ytclagkjjgmeifaa.D7
set_option linter.unusedVariables false
set_option linter.unusedSimpArgs false
set_option maxRecDepth 100000
def tfirstSP : Prim Rt := fun args hh => match args, hh with
  | [.pointer (some ⟨0, 0, none⟩), .int .i64 f_, .func (.func 27) ⟨[]⟩ ⟨[.pointer (some ⟨1, 0, none⟩)]⟩], [some (.inr (.inr (.inr (.tree s)))), some (.inl (3, [.int .i64 xx]))] => some ⟨s.Few, .int .i64 (TS.firstI (mayS xx) s f_), none, [oT (TS.first (mayS xx) s f_), some (.inl (3, [.int .i64 xx]))], [], [(0, 0)]⟩
  | _, _ => none
theorem tfirstS_ok : ConOk D2 Try.prog 29 (con1 tfirstSP) := by
  refine res_up (c := liftC zN 2 (con1 (gfirstSP KK))) (liftC_ok _ _ (gfirstS_ok KK)).ok fun args hh x hx => ?_
  unfold tfirstSP at hx
  split at hx
  · rename_i f_ s xx
    injection hx with hx
    subst hx
    refine ⟨Nat.le_refl _, noLit rfl, (fun hw => by cases hw), fun hv => ⟨⟨_, .inl ⟨rfl, rfl⟩, rfl, ?_, ?_, ?_⟩, rfl, rfl⟩⟩
    · exact ⟨s.pp hv, s.deepN⟩
    · rfl
    · rfl
  · cases hx
def tlastSP : Prim Rt := fun args hh => match args, hh with
  | [.pointer (some ⟨0, 0, none⟩), .int .i64 f_, .func (.func 27) ⟨[]⟩ ⟨[.pointer (some ⟨1, 0, none⟩)]⟩], [some (.inr (.inr (.inr (.tree s)))), some (.inl (3, [.int .i64 xx]))] => some ⟨s.Few, .int .i64 (TS.lastI (mayS xx) s f_), none, [oT (TS.last (mayS xx) s f_), some (.inl (3, [.int .i64 xx]))], [], [(0, 0)]⟩
  | _, _ => none
theorem tlastS_ok : ConOk D2 Try.prog 30 (con1 tlastSP) := by
  refine res_up (c := liftC zN 2 (con1 (glastSP KK))) (liftC_ok _ _ (glastS_ok KK)).ok fun args hh x hx => ?_
  unfold tlastSP at hx
  split at hx
  · rename_i f_ s xx
    injection hx with hx
    subst hx
    refine ⟨Nat.le_refl _, noLit rfl, (fun hw => by cases hw), fun hv => ⟨⟨_, .inl ⟨rfl, rfl⟩, rfl, ?_, ?_, ?_⟩, rfl, rfl⟩⟩
    · exact ⟨s.pp hv, s.deepN⟩
    · rfl
    · rfl
  · cases hx
end Go.Proofs.Ytclagkjjgmeifaa.G7


/- grove: the law GroveSearches. -/
namespace Go.Proofs.Ytclagkjjgmeifaa.G7
open Go.Proofs.Ytclagkjjgmeifaa.Rx Go.Proofs.Ytclagkjjgmeifaa.D7
set_option linter.unusedVariables false
set_option linter.unusedSimpArgs false
set_option maxRecDepth 100000
set_option maxHeartbeats 16000000
/-- does it fall to x there? -/
def faB (w : List Int) (x : Int) (j : Nat) : Bool := decide (Ti.psum w (j + 1) ≤ x)
def fT (P : Nat → Bool) (at_ : Int) : Nat → Int
  | 0 => -1
  | i + 1 => if P i = true then (if fT P at_ i < 0 ∧ (i : Int) ≥ at_ then (i : Int) else fT P at_ i) else fT P at_ i
def laT (P : Nat → Bool) (at_ : Int) : Nat → Int
  | 0 => -1
  | i + 1 => if P i = true ∧ (i : Int) < at_ then (i : Int) else laT P at_ i
theorem fT_is (P : Nat → Bool) (at_ : Int) : ∀ n, Gv.FirstIs P 0 n at_ (fT P at_ n)
  | 0 => .inl ⟨rfl, fun i _ h => by omega⟩
  | n + 1 => by
    rcases fT_is P at_ n with ⟨h1, h2⟩ | ⟨j, h1, h2, h3, h4, h5, h6⟩
    · rw [fT, h1]
      by_cases hp : P n = true
      · rw [if_pos hp]
        by_cases ha : (n : Int) ≥ at_
        · rw [if_pos ⟨by decide, ha⟩]
          exact .inr ⟨n, rfl, Nat.zero_le _, by omega, ha, hp, fun i hi hn hai => h2 i hi hn hai⟩
        · rw [if_neg (fun h => ha h.2)]
          refine .inl ⟨rfl, fun i hi hn hai => ?_⟩
          rcases Nat.lt_or_ge i n with h | h
          · exact h2 i hi h hai
          · exact absurd (show (n : Int) ≥ at_ by omega) ha
      · rw [if_neg hp]
        refine .inl ⟨rfl, fun i hi hn hai => ?_⟩
        rcases Nat.lt_or_ge i n with h | h
        · exact h2 i hi h hai
        · rw [show i = n by omega]; simpa using hp
    · have e : fT P at_ (n + 1) = (j : Int) := by
        rw [fT, h1]
        split
        · rw [if_neg (by omega)]
        · rfl
      rw [e]
      exact .inr ⟨j, rfl, h2, by omega, h4, h5, h6⟩
theorem laT_is (P : Nat → Bool) (at_ : Int) : ∀ n, Gv.LastIs P 0 n at_ (laT P at_ n)
  | 0 => .inl ⟨rfl, fun i _ h => by omega⟩
  | n + 1 => by
    rw [laT]
    by_cases hp : P n = true ∧ (n : Int) < at_
    · rw [if_pos hp]
      exact .inr ⟨n, rfl, Nat.zero_le _, by omega, hp.2, hp.1, fun i hi hn => by omega⟩
    · rw [if_neg hp]
      have hn0 : (n : Int) < at_ → P n = false := fun h => by
        cases hP : P n with
        | false => rfl
        | true => exact absurd ⟨hP, h⟩ hp
      rcases laT_is P at_ n with ⟨h1, h2⟩ | ⟨j, h1, h2, h3, h4, h5, h6⟩
      · refine .inl ⟨h1, fun i hi hn ha => ?_⟩
        rcases Nat.lt_or_ge i n with h | h
        · exact h2 i hi h ha
        · have : i = n := by omega
          subst this
          exact hn0 ha
      · refine .inr ⟨j, h1, h2, by omega, h4, h5, fun i hi hn ha => ?_⟩
        rcases Nat.lt_or_ge i n with h | h
        · exact h6 i hi h ha
        · have : i = n := by omega
          subst this
          exact hn0 ha
theorem first_uni {P : Nat → Bool} {n : Nat} {f r r' : Int} (h : Gv.FirstIs P 0 n f r) (h' : Gv.FirstIs P 0 n f r') : r = r' := by
  rcases h with ⟨h1, h2⟩ | ⟨j, h1, h2, h3, h4, h5, h6⟩ <;> rcases h' with ⟨k1, k2⟩ | ⟨i, k1, k2, k3, k4, k5, k6⟩
  · rw [h1, k1]
  · rw [h2 i (Nat.zero_le _) k3 k4] at k5; cases k5
  · rw [k2 j (Nat.zero_le _) h3 h4] at h5; cases h5
  · rcases Nat.lt_trichotomy i j with h | h | h
    · rw [h6 i (Nat.zero_le _) h k4] at k5; cases k5
    · rw [h1, k1, h]
    · rw [k6 j (Nat.zero_le _) h h4] at h5; cases h5
theorem last_uni {P : Nat → Bool} {n : Nat} {f r r' : Int} (h : Gv.LastIs P 0 n f r) (h' : Gv.LastIs P 0 n f r') : r = r' := by
  rcases h with ⟨h1, h2⟩ | ⟨j, h1, h2, h3, h4, h5, h6⟩ <;> rcases h' with ⟨k1, k2⟩ | ⟨i, k1, k2, k3, k4, k5, k6⟩
  · rw [h1, k1]
  · rw [h2 i (Nat.zero_le _) k3 k4] at k5; cases k5
  · rw [k2 j (Nat.zero_le _) h3 h4] at h5; cases h5
  · rcases Nat.lt_trichotomy i j with h | h | h
    · rw [k6 j h h3 h4] at h5; cases h5
    · rw [h1, k1, h]
    · rw [h6 i h k3 k4] at k5; cases k5
theorem lowTo_le {x : List Int} : ∀ k j, 1 ≤ j → j ≤ k → Ti.lowTo x k ≤ Ti.psum x j
  | 0, j, h1, h2 => by omega
  | 1, j, h1, h2 => by rw [show j = 1 by omega]; exact Int.le_refl _
  | k + 2, j, h1, h2 => by
    rw [Ti.lowTo]
    rcases Nat.lt_or_ge j (k + 2) with h | h
    · have := lowTo_le (x := x) (k + 1) j h1 (by omega)
      omega
    · rw [show j = k + 2 by omega]; omega
/-- what the law asks may be asked -/
theorem asks7 {L : List El} {x : Int} (hg : good7 L) : Gv.Asks O7 S7 (mayS x) (faB (wsL L) x) L := by
  have hb : ∀ p l q : List El, p ++ (l ++ q) = L → Gv.W ((S7 p).s + (S7 l).l) = Ti.psum (wsL p) p.length + Ti.low (wsL l) := fun p l q e => by
    have h1 : good7 (p ++ (l ++ q)) := by rw [e]; exact hg
    have h2 : Mild (wsL p) := laws7.left _ _ h1
    have h3 : Mild (wsL l) := laws7.left _ _ (laws7.right _ _ h1)
    have e1 : (S7 p).s = Ti.psum (wsL p) p.length := by show Ti.psum (p.map El.w) (p.map El.w).length = _; rw [List.length_map]
    have e2 : (S7 l).l = Ti.low (wsL l) := rfl
    rw [e1, e2]
    have b1 := h2.psum9 p.length (by rw [List.length_map]; exact Nat.le_refl _)
    have b2 := h3.lowTo (wsL l).length (Nat.le_refl _)
    exact Gv.W_of (by unfold Ti.low; omega)
  have hp : ∀ (p l q : List El) (j : Nat), p ++ (l ++ q) = L → j ≤ l.length → Ti.psum (wsL L) (p.length + j) = Ti.psum (wsL p) p.length + Ti.psum (wsL l) j := fun p l q j e hj => by
    have e1 : wsL L = wsL p ++ (wsL l ++ wsL q) := by rw [← e]; simp
    have e2 : (wsL p).length = p.length := List.length_map ..
    rw [e1, ← e2, Ti.psum_append]
    congr 1
    exact Ti.psum_left (by simpa using hj)
  refine ⟨fun p y q e => ?_, fun p l q e i h1 h2 hP => ?_⟩
  · have e' : p ++ ([y] ++ q) = L := e
    have h1 := hb p [y] q e'
    have h2 := hp p [y] q 1 e' (Nat.le_refl _)
    unfold faB mayS
    have e3 : O7.sum y = S7 [y] := (laws7.one y).symm
    rw [e3, h1, h2]
    have e4 : Ti.psum (wsL [y]) 1 = Ti.low (wsL [y]) := rfl
    rw [e4]
    rfl
  · have b1 := hb p l q e
    have b2 := hp p l q (i + 1 - p.length) e (by omega)
    rw [show p.length + (i + 1 - p.length) = i + 1 by omega] at b2
    have b3 := lowTo_le (x := wsL l) (wsL l).length (i + 1 - p.length) (by omega) (by rw [List.length_map]; omega)
    unfold faB at hP
    have hP := of_decide_eq_true hP
    unfold mayS
    rw [b1]
    have h0 : (S7 l).n > 0 := by show ((l.map El.w).length : Int) > 0; rw [List.length_map]; omega
    rw [decide_eq_true h0, Bool.true_and]
    refine decide_eq_true ?_
    unfold Ti.low
    omega
def TLS : Tab Rt := (29, liftC zN 2 (con1 tfirstSP)) :: (30, liftC zN 2 (con1 tlastSP)) :: TL7
theorem TLS_ok : TabOk D2 Try.prog TLS := ⟨liftC_ok _ _ tfirstS_ok, liftC_ok _ _ tlastS_ok, TL7_ok⟩
theorem srch_run {G : Value → Hp Rt → Prop} {a : Acts} {at_ x : Int} (ha : a.Ok) (hG : ∀ hp, G (.bool true) hp) :
    At D2 Try.prog (codeOf Try.f5) 1 (retK Try.prog Try.f5.results.toList G) [.inl []] ⟨someL [.slice (some ⟨0, 0, some 3000⟩) a.i.length 0, .int .i64 at_, .int .i64 x] ++ List.replicate (Try.f5.ntmps - 3) none, [], [some (.inr (.inr (.inl (actsRow a))))]⟩ := by
  refine rx_ok (T := TLS) TLS_ok mixed 200 ?_
  refine as_text (q := let zz11 := Value.pointer (some (Addr.mk 3 0 none)); let zz12 := Value.int IntKind.i64; let zz1 := (List.length (Acts.i a)); let zz2 := (cut (Acts.i a) 0 zz1); let zz3 := (cut (Acts.w a) 0 zz1); let zz4 := (decide ((↑(List.length zz2) : Int) ≤ (60 : Int)) && smallB zz3 (List.length zz3)); let zz5 := (Value.bool false); let zz6 := (madeS (50 : Int) zz2 (cut (Acts.k a) 0 zz1) zz3 (List.length zz2)); let zz7 := (Value.slice (some (Addr.mk 0 0 (some 3000))) zz1 0); let zz8 := (Value.slice (some (Addr.mk 4 0 (some 2000))) (List.length (TS.l zz6)) 0); let zz9 := (Value.func (Fn.func 27) (Array.mk []) (Array.mk [Value.pointer (some (Addr.mk 1 0 none))])); let zz10 := (Value.tuple (Array.mk [zz11, Value.slice (some (Addr.mk 4 0 (some 2000))) (List.length (TS.l zz6)) 0, Value.bool true])); Vc True ∧ (false = false → Vc ((0 + List.length (Acts.i a) ≤ List.length (Acts.i a) ∧ True) ∧ List.length (Acts.i a) = List.length zz2 ∧ List.length (Acts.i a) = List.length zz2 ∧ List.length zz3 = List.length zz2 ∧ (60 : Int) ≤ (1000 : Int)) ∧ ((!zz4) = false → (decide (x < (-1000000000 : Int)) = false → (decide (x > (1000000000 : Int)) = true → Vc True ∧ Post (G (Value.bool true) [some (Sum.inr (Sum.inr (Sum.inl (Row.mk [zz12 0, zz12 0, zz12 0] zz1 [Col.mk (Acts.i a) [] [], Col.mk (Acts.k a) [] [], Col.mk (Acts.w a) [] []])))), some (Sum.inl (3, [zz12 x]))])) ∧ (decide (x > (1000000000 : Int)) = false → Vc ((0 + List.length (Acts.i a) ≤ List.length (Acts.i a) ∧ True) ∧ List.length (Acts.i a) = List.length zz2 ∧ List.length (Acts.i a) = List.length zz2 ∧ List.length (cut (Acts.k a) 0 zz1) = List.length zz2 ∧ List.length zz3 = List.length zz2 ∧ List.length zz2 ≤ 400 ∧ Mild zz3) ∧ (false = true → Post (G zz5 [some (Sum.inr (Sum.inr (Sum.inl (Row.mk [zz12 0, zz12 0, zz12 0] zz1 [Col.mk (Acts.i a) [] [], Col.mk (Acts.k a) [] [], Col.mk (Acts.w a) [] []])))), some (Sum.inl (3, [zz12 x])), none, some (Sum.inr (Sum.inr (Sum.inr (Rt.tree (TS.alike zz6))))), some (Sum.inr (Sum.inl (38, Row.mk [zz12 0, zz12 0] (List.length (ks (TS.l zz6))) [Col.mk (ks (TS.l zz6)) [] [], Col.mk (wsL (TS.l zz6)) [] []])))])) ∧ (false = false → Vc True ∧ At D2 Try.prog (codeOf Try.f5) 1 (retK Try.prog (Array.toList (Func.results Try.f5)) G) [Sum.inl [1, 1, 1, 1, 1, 1, 0, 1, 0], Sum.inr (Sum.inl 0), Sum.inl [1, 1, 1, 1, 1, 1, 1]] (SS.mk [some zz7, some (zz12 at_), some (zz12 x), none, none, some (Value.pointer (some (Addr.mk 1 0 none))), some zz5, some (zz11), some zz8, some (Value.bool true), some zz9, some (zz12 (-1 : Int)), some (zz12 (-1 : Int)), some (zz12 0), some (Value.bool true), some zz5, some zz5, some zz7, some (Value.bool zz4), some (Value.bool !zz4), some (Value.bool !zz4), some zz5, some (zz12 x), some (Value.bool (decide (x < (-1000000000 : Int)))), some (Value.bool (decide (x < (-1000000000 : Int)))), some zz5, some (zz12 x), some (Value.bool (decide (x > (1000000000 : Int)))), some zz5, none, some zz10, some zz7, some zz10, some (zz11), some zz8, some (Value.bool true), some (Value.bool true), some zz5, some zz9, none, none, none, none, none, none, none, none, none, none, none, none, none, none, none, none, none, none, none, none, none, none, none, none, none, none, none, none, none, none, none, none, none, none, none, none] [(37, false), (28, false), (25, false), (21, false), (16, false), (6, false)] [some (Sum.inr (Sum.inr (Sum.inl (Row.mk [zz12 0, zz12 0, zz12 0] zz1 [Col.mk (Acts.i a) [] [], Col.mk (Acts.k a) [] [], Col.mk (Acts.w a) [] []])))), some (Sum.inl (3, [zz12 x])), none, some (Sum.inr (Sum.inr (Sum.inr (Rt.tree (TS.alike zz6))))), some (Sum.inr (Sum.inl (38, Row.mk [zz12 0, zz12 0] (List.length (ks (TS.l zz6))) [Col.mk (ks (TS.l zz6)) [] [], Col.mk (wsL (TS.l zz6)) [] []])))])))) ∧ (decide (x < (-1000000000 : Int)) = true → Vc True ∧ Post (G (Value.bool true) [some (Sum.inr (Sum.inr (Sum.inl (Row.mk [zz12 0, zz12 0, zz12 0] zz1 [Col.mk (Acts.i a) [] [], Col.mk (Acts.k a) [] [], Col.mk (Acts.w a) [] []])))), some (Sum.inl (3, [zz12 x]))]))) ∧ ((!zz4) = true → Vc True ∧ Post (G (Value.bool true) [some (Sum.inr (Sum.inr (Sum.inl (Row.mk [zz12 0, zz12 0, zz12 0] zz1 [Col.mk (Acts.i a) [] [], Col.mk (Acts.k a) [] [], Col.mk (Acts.w a) [] []])))), some (Sum.inl (3, [zz12 x]))]))) ∧ (false = true → Vc True ∧ Post (G (Value.bool true) [some (Sum.inr (Sum.inr (Sum.inl (Row.mk [zz12 0, zz12 0, zz12 0] zz1 [Col.mk (Acts.i a) [] [], Col.mk (Acts.k a) [] [], Col.mk (Acts.w a) [] []])))), some (Sum.inl (3, [zz12 x]))]))) ?_ (by kernel_rfl)
  intro zz11 zz12 zz1 zz2 zz3 zz4 zz5 zz6 zz7 zz8 zz9 zz10; subst zz10 zz9 zz8 zz7 zz6 zz5 zz4 zz3 zz2 zz1 zz12 zz11
  have c1 : cut a.i 0 a.i.length = a.i := cut_all _
  have c2 : cut a.k 0 a.i.length = a.k := cut_eq ha.k
  have c3 : cut a.w 0 a.i.length = a.w := cut_eq ha.w
  simp only [c1, c2, c3]
  refine ⟨⟨trivial⟩, fun _ => ⟨⟨⟨by omega, trivial⟩, trivial, trivial, ha.w, by omega⟩, fun h => ⟨fun hx1 => ⟨fun hx2 => ⟨⟨trivial⟩, ⟨hG _⟩⟩, fun hx2 => ?_⟩, fun hx1 => ⟨⟨trivial⟩, ⟨hG _⟩⟩⟩, fun _ => ⟨⟨trivial⟩, ⟨hG _⟩⟩⟩, fun h => ⟨⟨trivial⟩, ⟨hG _⟩⟩⟩
  obtain ⟨hl, hm⟩ := small_of (m := 60) ha.w (by simpa using h) (by decide)
  clear h
  have hS := made_ok (mo := 50) ha.k ha.w (by omega) hm a.i.length (Nat.le_refl _)
  generalize madeS 50 a.i a.k a.w a.i.length = S at hS ⊢
  obtain ⟨hS1, hS2, hS3, hS4⟩ := hS
  have few : S.alike.Few := by show S.n < 100000; omega
  have l0 : (ks S.l).length = S.l.length := List.length_map ..
  have l1 : (wsL S.l).length = S.l.length := List.length_map ..
  have hms : Mild (wsL S.l) := S.ok.good
  refine ⟨⟨⟨by omega, trivial⟩, trivial, trivial, ha.k, ha.w, by omega, hm⟩, (fun h => by cases h), fun _ => ⟨⟨trivial⟩, ?_⟩⟩
  refine loop_atM (by kernel_rfl) (ι := Nat) (fun i => i ≤ S.l.length) [0, 1, 5, 7, 8, 10, 11, 12, 13] (fun i => [.slice (some ⟨0, 0, some 3000⟩) a.i.length 0, .int .i64 at_, .pointer (some ⟨1, 0, none⟩), .pointer (some ⟨2, 0, none⟩), .slice (some ⟨3, 0, some 2000⟩) S.l.length 0, .func (.func 27) ⟨[]⟩ ⟨[.pointer (some ⟨1, 0, none⟩)]⟩, .int .i64 (fT (faB (wsL S.l) x) at_ i), .int .i64 (laT (faB (wsL S.l) x) at_ i), .int .i64 i])
    (fun i => [some (.inr (.inr (.inl (actsRow a)))), some (.inl (3, [.int .i64 x])), oT S.alike, rE (ks S.l) (wsL S.l)]) (fun i => S.l.length - i) 75 (fun i hi => ⟨rfl, rfl, by simp⟩)
    ⟨0, Nat.zero_le _, ⟨[0, 1, 3, 4], rfl, ⟨rfl, .inl rfl, rfl, ⟨_, rfl, .inl rfl⟩, trivial⟩, rfl, rfl, rfl, rfl⟩⟩ fun i hi => ?_
  refine rx_ok (T := TLS) TLS_ok mixed 200 ?_
  refine as_text (q := let zz18 := Value.pointer (some (Addr.mk 1 0 none)); let zz19 := Value.pointer (some (Addr.mk 2 0 none)); let zz20 := Value.int IntKind.i64; let zz1 := (List.length (TS.l S)); let zz2 := (ks (TS.l S)); let zz3 := (Ti.psum (cut (wsL (TS.l S)) 0 zz1) (Int.toNat (↑i : Int) + 1) ≤ x); let zz4 := (faB (wsL (TS.l S)) x); let zz5 := (fits ((↑i : Int) + (1 : Int))); let zz6 := (List.length (Acts.i a)); let zz7 := (Fn.func (27 : FuncId)); let zz8 := (Array.mk [zz18]); let zz9 := (Value.slice (some (Addr.mk 0 0 (some 3000))) zz6 0); let zz10 := (zz20 at_); let zz11 := (zz18); let zz12 := (zz19); let zz13 := (Value.slice (some (Addr.mk 3 0 (some 2000))) zz1 0); let zz14 := (Value.func zz7 (Array.mk []) zz8); let zz15 := (zz20 (↑i : Int)); let zz16 := (zz20 ((↑i : Int) + (1 : Int))); let zz17 := (TS.first (mayS x) (TS.alike S) at_); (decide ((↑i : Int) < (↑zz1 : Int)) = true → Vc ((0 + List.length (TS.l S) ≤ List.length zz2 ∧ True) ∧ List.length (TS.l S) = List.length (cut zz2 0 zz1) ∧ List.length (TS.l S) = List.length (cut zz2 0 zz1) ∧ List.length (cut (wsL (TS.l S)) 0 zz1) = List.length (cut zz2 0 zz1) ∧ Mild (cut (wsL (TS.l S)) 0 zz1) ∧ (0 : Int) ≤ (↑i : Int) ∧ (↑i : Int) < (↑(List.length (cut zz2 0 zz1)) : Int)) ∧ (decide zz3 = true → (decide (fT zz4 at_ i < (0 : Int)) = true → (decide ((↑i : Int) ≥ at_) = true → (decide ((↑i : Int) < at_) = true → Vc zz5 ∧ Post (∃ j, j ≤ List.length (TS.l S) ∧ List.length (TS.l S) - j < List.length (TS.l S) - i ∧ FitsM Rt 1 75 [0, 1, 5, 7, 8, 10, 11, 12, 13] [Value.slice (some (Addr.mk 0 0 (some 3000))) zz6 0, zz20 at_, zz18, zz19, Value.slice (some (Addr.mk 3 0 (some 2000))) zz1 0, Value.func zz7 (Array.mk []) zz8, zz20 (fT zz4 at_ j), zz20 (laT zz4 at_ j), zz20 (↑j : Int)] [some (Sum.inr (Sum.inr (Sum.inl (actsRow a)))), some (Sum.inl ((3 : TypeId), [zz20 x])), oT (TS.alike S), rE zz2 (wsL (TS.l S))] [some zz9, some zz10, some zz11, some zz12, some zz13, some zz14, some zz15, some zz15, some zz16] [some (Sum.inr (Sum.inr (Sum.inl (Row.mk [zz20 0, zz20 0, zz20 0] zz6 [Col.mk (Acts.i a) [] [], Col.mk (Acts.k a) [] [], Col.mk (Acts.w a) [] []])))), some (Sum.inl (3, [zz20 x])), some (Sum.inr (Sum.inr (Sum.inr (Rt.tree (TS.alike S))))), some (Sum.inr (Sum.inl (38, Row.mk [zz20 0, zz20 0] (List.length zz2) [Col.mk zz2 [] [], Col.mk (wsL (TS.l S)) [] []])))] 75)) ∧ (decide ((↑i : Int) < at_) = false → Vc zz5 ∧ Post (∃ j, j ≤ List.length (TS.l S) ∧ List.length (TS.l S) - j < List.length (TS.l S) - i ∧ FitsM Rt 1 75 [0, 1, 5, 7, 8, 10, 11, 12, 13] [Value.slice (some (Addr.mk 0 0 (some 3000))) zz6 0, zz20 at_, zz18, zz19, Value.slice (some (Addr.mk 3 0 (some 2000))) zz1 0, Value.func zz7 (Array.mk []) zz8, zz20 (fT zz4 at_ j), zz20 (laT zz4 at_ j), zz20 (↑j : Int)] [some (Sum.inr (Sum.inr (Sum.inl (actsRow a)))), some (Sum.inl ((3 : TypeId), [zz20 x])), oT (TS.alike S), rE zz2 (wsL (TS.l S))] [some zz9, some zz10, some zz11, some zz12, some zz13, some zz14, some zz15, some (zz20 (laT zz4 at_ i)), some zz16] [some (Sum.inr (Sum.inr (Sum.inl (Row.mk [zz20 0, zz20 0, zz20 0] zz6 [Col.mk (Acts.i a) [] [], Col.mk (Acts.k a) [] [], Col.mk (Acts.w a) [] []])))), some (Sum.inl (3, [zz20 x])), some (Sum.inr (Sum.inr (Sum.inr (Rt.tree (TS.alike S))))), some (Sum.inr (Sum.inl (38, Row.mk [zz20 0, zz20 0] (List.length zz2) [Col.mk zz2 [] [], Col.mk (wsL (TS.l S)) [] []])))] 75))) ∧ (decide ((↑i : Int) ≥ at_) = false → (decide ((↑i : Int) < at_) = true → Vc zz5 ∧ Post (∃ j, j ≤ List.length (TS.l S) ∧ List.length (TS.l S) - j < List.length (TS.l S) - i ∧ FitsM Rt 1 75 [0, 1, 5, 7, 8, 10, 11, 12, 13] [Value.slice (some (Addr.mk 0 0 (some 3000))) zz6 0, zz20 at_, zz18, zz19, Value.slice (some (Addr.mk 3 0 (some 2000))) zz1 0, Value.func zz7 (Array.mk []) zz8, zz20 (fT zz4 at_ j), zz20 (laT zz4 at_ j), zz20 (↑j : Int)] [some (Sum.inr (Sum.inr (Sum.inl (actsRow a)))), some (Sum.inl ((3 : TypeId), [zz20 x])), oT (TS.alike S), rE zz2 (wsL (TS.l S))] [some zz9, some zz10, some zz11, some zz12, some zz13, some zz14, some (zz20 (fT zz4 at_ i)), some zz15, some zz16] [some (Sum.inr (Sum.inr (Sum.inl (Row.mk [zz20 0, zz20 0, zz20 0] zz6 [Col.mk (Acts.i a) [] [], Col.mk (Acts.k a) [] [], Col.mk (Acts.w a) [] []])))), some (Sum.inl (3, [zz20 x])), some (Sum.inr (Sum.inr (Sum.inr (Rt.tree (TS.alike S))))), some (Sum.inr (Sum.inl (38, Row.mk [zz20 0, zz20 0] (List.length zz2) [Col.mk zz2 [] [], Col.mk (wsL (TS.l S)) [] []])))] 75)) ∧ (decide ((↑i : Int) < at_) = false → Vc zz5 ∧ Post (∃ j, j ≤ List.length (TS.l S) ∧ List.length (TS.l S) - j < List.length (TS.l S) - i ∧ FitsM Rt 1 75 [0, 1, 5, 7, 8, 10, 11, 12, 13] [Value.slice (some (Addr.mk 0 0 (some 3000))) zz6 0, zz20 at_, zz18, zz19, Value.slice (some (Addr.mk 3 0 (some 2000))) zz1 0, Value.func zz7 (Array.mk []) zz8, zz20 (fT zz4 at_ j), zz20 (laT zz4 at_ j), zz20 (↑j : Int)] [some (Sum.inr (Sum.inr (Sum.inl (actsRow a)))), some (Sum.inl ((3 : TypeId), [zz20 x])), oT (TS.alike S), rE zz2 (wsL (TS.l S))] [some zz9, some zz10, some zz11, some zz12, some zz13, some zz14, some (zz20 (fT zz4 at_ i)), some (zz20 (laT zz4 at_ i)), some zz16] [some (Sum.inr (Sum.inr (Sum.inl (Row.mk [zz20 0, zz20 0, zz20 0] zz6 [Col.mk (Acts.i a) [] [], Col.mk (Acts.k a) [] [], Col.mk (Acts.w a) [] []])))), some (Sum.inl (3, [zz20 x])), some (Sum.inr (Sum.inr (Sum.inr (Rt.tree (TS.alike S))))), some (Sum.inr (Sum.inl (38, Row.mk [zz20 0, zz20 0] (List.length zz2) [Col.mk zz2 [] [], Col.mk (wsL (TS.l S)) [] []])))] 75)))) ∧ (decide (fT zz4 at_ i < (0 : Int)) = false → (decide ((↑i : Int) < at_) = true → Vc zz5 ∧ Post (∃ j, j ≤ List.length (TS.l S) ∧ List.length (TS.l S) - j < List.length (TS.l S) - i ∧ FitsM Rt 1 75 [0, 1, 5, 7, 8, 10, 11, 12, 13] [Value.slice (some (Addr.mk 0 0 (some 3000))) zz6 0, zz20 at_, zz18, zz19, Value.slice (some (Addr.mk 3 0 (some 2000))) zz1 0, Value.func zz7 (Array.mk []) zz8, zz20 (fT zz4 at_ j), zz20 (laT zz4 at_ j), zz20 (↑j : Int)] [some (Sum.inr (Sum.inr (Sum.inl (actsRow a)))), some (Sum.inl ((3 : TypeId), [zz20 x])), oT (TS.alike S), rE zz2 (wsL (TS.l S))] [some zz9, some zz10, some zz11, some zz12, some zz13, some zz14, some (zz20 (fT zz4 at_ i)), some zz15, some zz16] [some (Sum.inr (Sum.inr (Sum.inl (Row.mk [zz20 0, zz20 0, zz20 0] zz6 [Col.mk (Acts.i a) [] [], Col.mk (Acts.k a) [] [], Col.mk (Acts.w a) [] []])))), some (Sum.inl (3, [zz20 x])), some (Sum.inr (Sum.inr (Sum.inr (Rt.tree (TS.alike S))))), some (Sum.inr (Sum.inl (38, Row.mk [zz20 0, zz20 0] (List.length zz2) [Col.mk zz2 [] [], Col.mk (wsL (TS.l S)) [] []])))] 75)) ∧ (decide ((↑i : Int) < at_) = false → Vc zz5 ∧ Post (∃ j, j ≤ List.length (TS.l S) ∧ List.length (TS.l S) - j < List.length (TS.l S) - i ∧ FitsM Rt 1 75 [0, 1, 5, 7, 8, 10, 11, 12, 13] [Value.slice (some (Addr.mk 0 0 (some 3000))) zz6 0, zz20 at_, zz18, zz19, Value.slice (some (Addr.mk 3 0 (some 2000))) zz1 0, Value.func zz7 (Array.mk []) zz8, zz20 (fT zz4 at_ j), zz20 (laT zz4 at_ j), zz20 (↑j : Int)] [some (Sum.inr (Sum.inr (Sum.inl (actsRow a)))), some (Sum.inl ((3 : TypeId), [zz20 x])), oT (TS.alike S), rE zz2 (wsL (TS.l S))] [some zz9, some zz10, some zz11, some zz12, some zz13, some zz14, some (zz20 (fT zz4 at_ i)), some (zz20 (laT zz4 at_ i)), some zz16] [some (Sum.inr (Sum.inr (Sum.inl (Row.mk [zz20 0, zz20 0, zz20 0] zz6 [Col.mk (Acts.i a) [] [], Col.mk (Acts.k a) [] [], Col.mk (Acts.w a) [] []])))), some (Sum.inl (3, [zz20 x])), some (Sum.inr (Sum.inr (Sum.inr (Rt.tree (TS.alike S))))), some (Sum.inr (Sum.inl (38, Row.mk [zz20 0, zz20 0] (List.length zz2) [Col.mk zz2 [] [], Col.mk (wsL (TS.l S)) [] []])))] 75)))) ∧ (decide zz3 = false → Vc zz5 ∧ Post (∃ j, j ≤ List.length (TS.l S) ∧ List.length (TS.l S) - j < List.length (TS.l S) - i ∧ FitsM Rt 1 75 [0, 1, 5, 7, 8, 10, 11, 12, 13] [Value.slice (some (Addr.mk 0 0 (some 3000))) zz6 0, zz20 at_, zz18, zz19, Value.slice (some (Addr.mk 3 0 (some 2000))) zz1 0, Value.func zz7 (Array.mk []) zz8, zz20 (fT zz4 at_ j), zz20 (laT zz4 at_ j), zz20 (↑j : Int)] [some (Sum.inr (Sum.inr (Sum.inl (actsRow a)))), some (Sum.inl ((3 : TypeId), [zz20 x])), oT (TS.alike S), rE zz2 (wsL (TS.l S))] [some zz9, some zz10, some zz11, some zz12, some zz13, some zz14, some (zz20 (fT zz4 at_ i)), some (zz20 (laT zz4 at_ i)), some zz16] [some (Sum.inr (Sum.inr (Sum.inl (Row.mk [zz20 0, zz20 0, zz20 0] zz6 [Col.mk (Acts.i a) [] [], Col.mk (Acts.k a) [] [], Col.mk (Acts.w a) [] []])))), some (Sum.inl (3, [zz20 x])), some (Sum.inr (Sum.inr (Sum.inr (Rt.tree (TS.alike S))))), some (Sum.inr (Sum.inl (38, Row.mk [zz20 0, zz20 0] (List.length zz2) [Col.mk zz2 [] [], Col.mk (wsL (TS.l S)) [] []])))] 75))) ∧ (decide ((↑i : Int) < (↑zz1 : Int)) = false → Vc (TS.Few (TS.alike S)) ∧ ((TS.firstI (mayS x) (TS.alike S) at_ == fT zz4 at_ i) = true → Vc (TS.Few zz17) ∧ Post (G (Value.bool (TS.lastI (mayS x) zz17 at_ == laT zz4 at_ i)) [some (Sum.inr (Sum.inr (Sum.inl (Row.mk [zz20 0, zz20 0, zz20 0] zz6 [Col.mk (Acts.i a) [] [], Col.mk (Acts.k a) [] [], Col.mk (Acts.w a) [] []])))), some (Sum.inl (3, [zz20 x])), some (Sum.inr (Sum.inr (Sum.inr (Rt.tree (TS.last (mayS x) zz17 at_))))), some (Sum.inr (Sum.inl (38, Row.mk [zz20 0, zz20 0] (List.length zz2) [Col.mk zz2 [] [], Col.mk (wsL (TS.l S)) [] []])))])) ∧ ((TS.firstI (mayS x) (TS.alike S) at_ == fT zz4 at_ i) = false → Post (G (Value.bool false) [some (Sum.inr (Sum.inr (Sum.inl (Row.mk [zz20 0, zz20 0, zz20 0] zz6 [Col.mk (Acts.i a) [] [], Col.mk (Acts.k a) [] [], Col.mk (Acts.w a) [] []])))), some (Sum.inl (3, [zz20 x])), some (Sum.inr (Sum.inr (Sum.inr (Rt.tree zz17)))), some (Sum.inr (Sum.inl (38, Row.mk [zz20 0, zz20 0] (List.length zz2) [Col.mk zz2 [] [], Col.mk (wsL (TS.l S)) [] []])))])))) ?_ (by kernel_rfl)
  intro zz18 zz19 zz20 zz1 zz2 zz3 zz4 zz5 zz6 zz7 zz8 zz9 zz10 zz11 zz12 zz13 zz14 zz15 zz16 zz17; subst zz17 zz16 zz15 zz14 zz13 zz12 zz11 zz10 zz9 zz8 zz7 zz6 zz5 zz4 zz3 zz2 zz1 zz20 zz19 zz18
  have d0 : cut (ks S.l) 0 S.l.length = ks S.l := cut_eq l0
  have d1 : cut (wsL S.l) 0 S.l.length = wsL S.l := cut_eq l1
  simp only [d0, d1]
  have e0 : (i : Int).toNat = i := Int.toNat_natCast i
  simp only [e0]
  have fin : ∀ (f l : Int), i < S.l.length → fT (faB (wsL S.l) x) at_ (i + 1) = f → laT (faB (wsL S.l) x) at_ (i + 1) = l → ∃ j, j ≤ S.l.length ∧ S.l.length - j < S.l.length - i ∧ FitsM Rt 1 75 [0, 1, 5, 7, 8, 10, 11, 12, 13] [.slice (some ⟨0, 0, some 3000⟩) a.i.length 0, .int .i64 at_, .pointer (some ⟨1, 0, none⟩), .pointer (some ⟨2, 0, none⟩), .slice (some ⟨3, 0, some 2000⟩) S.l.length 0, .func (.func 27) ⟨[]⟩ ⟨[.pointer (some ⟨1, 0, none⟩)]⟩, .int .i64 (fT (faB (wsL S.l) x) at_ j), .int .i64 (laT (faB (wsL S.l) x) at_ j), .int .i64 j]
      [some (.inr (.inr (.inl (actsRow a)))), some (.inl (3, [.int .i64 x])), oT S.alike, rE (ks S.l) (wsL S.l)]
      [some (.slice (some ⟨0, 0, some 3000⟩) a.i.length 0), some (.int .i64 at_), some (.pointer (some ⟨1, 0, none⟩)), some (.pointer (some ⟨2, 0, none⟩)), some (.slice (some ⟨3, 0, some 2000⟩) S.l.length 0), some (.func (.func 27) ⟨[]⟩ ⟨[.pointer (some ⟨1, 0, none⟩)]⟩), some (.int .i64 f), some (.int .i64 l), some (.int .i64 ((i : Int) + 1))]
      [some (.inr (.inr (.inl (actsRow a)))), some (.inl (3, [.int .i64 x])), oT S.alike, rE (ks S.l) (wsL S.l)] 75 := by
    intro f l hlt hf hl2
    subst hf hl2
    exact ⟨i + 1, hlt, by omega, ⟨[0, 1, 2, 3], rfl, ⟨rfl, .inl rfl, rfl, ⟨_, rfl, .inl rfl⟩, trivial⟩, rfl, rfl, rfl, rfl⟩⟩
  have hPy : Ti.psum (wsL S.l) (i + 1) ≤ x → faB (wsL S.l) x i = true := fun h => decide_eq_true h
  have hPn : ¬ Ti.psum (wsL S.l) (i + 1) ≤ x → faB (wsL S.l) x i = false := fun h => decide_eq_false h
  have hf9 : i = S.l.length → TS.firstI (mayS x) S.alike at_ = fT (faB (wsL S.l) x) at_ i := fun h => by
    rw [h]; exact first_uni (TS.first_is (s := S.alike) (asks7 S.ok.good)) (fT_is _ _ _)
  have hl9 : i = S.l.length → TS.lastI (mayS x) (S.alike.first (mayS x) at_) at_ = laT (faB (wsL S.l) x) at_ i := fun h => by
    rw [h]; exact last_uni (TS.last_is (s := S.alike.first (mayS x) at_) (asks7 S.ok.good)) (laT_is _ _ _)
  have few2 : (S.alike.first (mayS x) at_).Few := few
  repeat' (first | apply And.intro | apply Vc.mk | apply fits.mk | intro h | apply Post.mk)
  all_goals (try simp only [decide_eq_true_eq, decide_eq_false_iff_not, Nat.zero_add, ge_iff_le, Int.not_le, Int.not_lt, Int.toNat_natCast, beq_iff_eq, beq_eq_false_iff_ne, bne_iff_ne, bne_eq_false_iff_eq, Bool.not_eq_true', Bool.not_eq_false'] at *)
  all_goals first | contradiction | omega | (apply congrArg Value.bool; assumption) | exact congrArg Value.bool (decide_eq_true (by assumption)) | exact congrArg Value.bool (decide_eq_false (Int.not_lt.mpr (by assumption))) | exact ⟨rfl, by omega⟩ | exact rfl | (simp [*, -List.getD_eq_getElem?_getD]; done) | skip
  all_goals first | exact hms | exact few | exact few2 | (rw [l0]; omega) | (rw [l1, l0]; done) | skip
  all_goals first
    | (have hlt : i < S.l.length := by omega
       have q := hPy ‹Ti.psum (wsL S.l) (i + 1) ≤ x›
       refine fin _ _ hlt ?_ ?_
       · simp only [fT, q, if_true]
         repeat' split
         all_goals first | rfl | (exfalso; omega)
       · simp only [laT, q, true_and]
         repeat' split
         all_goals first | rfl | (exfalso; omega))
    | (have hlt : i < S.l.length := by omega
       have q := hPn (by omega)
       refine fin _ _ hlt ?_ ?_
       · simp only [fT, q, Bool.false_eq_true, if_false]
       · simp only [laT, q, Bool.false_eq_true, false_and, if_false])
    | skip
  · rw [hl9 (by omega), beq_self_eq_true]
    exact hG _
end Go.Proofs.Ytclagkjjgmeifaa.G7


/- grove: the law GroveSearches, called. -/
namespace Go.Proofs.Ytclagkjjgmeifaa.G7
open Go.RowKit Go.Proofs.Ytclagkjjgmeifaa.Rx
set_option linter.unusedVariables false
set_option linter.unusedSimpArgs false
set_option maxRecDepth 100000
theorem srch_law {f u : Int} {p : Rx.Place} {r : Row} {W : World} (hr : r.tm = [.int .i64 0, .int .i64 0, .int .i64 0]) (hw : wfCols [.int .i64 0, .int .i64 0, .int .i64 0] r.cols r.n) (hv : ViewOk W p r) :
    Calls Try.prog 5 #[ren (viewsE [(p, r)]) (.slice (some ⟨0, 0, some 3000⟩) r.n 0), .int .i64 f, .int .i64 u] W fun e W' => e = .returned (.bool true) ∧ Below W.heap.size W W' := by
  obtain ⟨tm, n, cols⟩ := r
  simp only at hr
  subst hr
  match cols, hw with
  | [c1, c2, c3], hw =>
    obtain ⟨⟨h1, l1, _⟩, ⟨h2, l2, _⟩, ⟨h3, l3, _⟩, _⟩ := hw
    have e : (⟨[.int .i64 0, .int .i64 0, .int .i64 0], n, [c1, c2, c3]⟩ : Row) = actsRow ⟨c1.i, c2.i, c3.i⟩ := by
      simp only at l1
      rw [actsRow, l1, ← h1, ← h2, ← h3]
    rw [e] at hv ⊢
    have := law_calls (D := D2) (fn := Try.f5) (root := codeOf Try.f5) (args := [.slice (some ⟨0, 0, some 3000⟩) c1.i.length 0, .int .i64 f, .int .i64 u]) [(p, actsRow ⟨c1.i, c2.i, c3.i⟩)] Try.func5 (by kernel_rfl) (by simpa using hv) rfl
      (srch_run (a := ⟨c1.i, c2.i, c3.i⟩) ⟨by simp only at *; omega, by simp only at *; omega⟩ fun _ => rfl)
    simpa [actsRow] using this
end Go.Proofs.Ytclagkjjgmeifaa.G7


