/- ZHts: G7Sums, G7Hts, G7HtsL -/
import Derived.Test.YtclagkjjgmeifaaZh
/- grove: the law GroveSums. -/
namespace Go.Proofs.Ytclagkjjgmeifaa.G7
open Go.Proofs.Ytclagkjjgmeifaa.Rx Go.Proofs.Ytclagkjjgmeifaa.D7
set_option linter.unusedVariables false
set_option linter.unusedSimpArgs false
set_option maxRecDepth 100000
set_option maxHeartbeats 16000000
def TL7 : Tab Rt := [(9, liftC zN 2 (con1 awakeP)), (10, liftV Ti.z0 2 (con1 smallP)), (22, liftV Ti.z0 2 (con1 madeP)),
  (23, liftV Ti.z0 2 (con1 D7.wsP)), (25, liftV Ti.z0 2 (con1 D7.sumP)), (26, liftV Ti.z0 2 (con1 D7.lowP)), (28, liftV Ti.z0 2 (con1 D7.fallsP)), (19, liftV Ti.z0 2 (con1 D7.rankP)),
  (24, liftC zN 2 (con1 tbetP)),
  (37, liftC zN 2 (con1 tallP)), (20, liftC zN 2 (con1 tatP)), (17, liftC zN 2 (con1 tfindP)),
  (18, liftC zN 2 (con1 trankP)), (33, liftC zN 2 (con1 tlenP))]
theorem TL7_ok : TabOk D2 Try.prog TL7 := ⟨liftC_ok _ _ awake_ok, liftV_ok _ _ small_ok, liftV_ok _ _ made_run_ok, liftV_ok _ _ D7.ws_ok, liftV_ok _ _ D7.sum_ok, liftV_ok _ _ D7.low_ok, liftV_ok _ _ D7.falls_ok, liftV_ok _ _ D7.rank_ok, liftC_ok _ _ tbet_ok,
  liftC_ok _ _ tall_ok, liftC_ok _ _ tat_ok, liftC_ok _ _ tfind_ok, liftC_ok _ _ trank_ok, liftC_ok _ _ tlen_ok, trivial⟩
/-- acts, by their cells -/
structure Acts where
  i : List Int
  k : List Int
  w : List Int
structure Acts.Ok (a : Acts) : Prop where
  k : a.k.length = a.i.length
  w : a.w.length = a.i.length
def actsRow (a : Acts) : Row := ⟨[.int .i64 0, .int .i64 0, .int .i64 0], a.i.length, [colI a.i, colI a.k, colI a.w]⟩
theorem small_of {x : List Int} {n : Nat} {m : Int} (hn : x.length = n) (h : (decide ((n : Int) ≤ m) && smallB x x.length) = true) (hm : m ≤ 1000) : (n : Int) ≤ m ∧ Mild x := by
  simp only [Bool.and_eq_true, decide_eq_true_eq] at h
  exact ⟨h.1, small_mild h.2 (by omega)⟩
theorem sums_run {G : Value → Hp Rt → Prop} {a : Acts} {f u : Int} (ha : a.Ok) (hG : ∀ hp, G (.bool true) hp) :
    At D2 Try.prog (codeOf Try.f4) 1 (retK Try.prog Try.f4.results.toList G) [.inl []] ⟨someL [.slice (some ⟨0, 0, some 3000⟩) a.i.length 0, .int .i64 f, .int .i64 u] ++ List.replicate (Try.f4.ntmps - 3) none, [], [some (.inr (.inr (.inl (actsRow a))))]⟩ := by
  refine rx_ok (T := TL7) TL7_ok mixed 200 ?_
  refine as_text (q := let zz12 := Value.int IntKind.i64; let zz1 := (List.length (Acts.i a)); let zz2 := (cut (Acts.i a) 0 zz1); let zz3 := (cut (Acts.w a) 0 zz1); let zz4 := (G (Value.bool true) [some (Sum.inr (Sum.inr (Sum.inl (Row.mk [zz12 0, zz12 0, zz12 0] zz1 [Col.mk (Acts.i a) [] [], Col.mk (Acts.k a) [] [], Col.mk (Acts.w a) [] []]))))]); let zz5 := (madeS (50 : Int) zz2 (cut (Acts.k a) 0 zz1) zz3 (List.length zz2)); let zz6 := (cut (ks (TS.l zz5)) 0 (List.length (TS.l zz5))); let zz7 := (Gv.sub (cut (wsL (TS.l zz5)) 0 (List.length (TS.l zz5))) (Int.toNat f) (Int.toNat u)); let zz8 := (cut zz7 0 (List.length zz7)); let zz9 := (↑(List.length zz7) : Int); let zz10 := (S7 (Gv.sub (TS.l (TS.alike zz5)) (Int.toNat f) (Int.toNat u))); let zz11 := (Ti.Td.s zz10 == Ti.psum zz8 (Int.toNat zz9) && (Ti.Td.l zz10 == Ti.low zz8 && true)); Vc True ∧ (false = false → Vc ((0 + List.length (Acts.i a) ≤ List.length (Acts.i a) ∧ True) ∧ List.length (Acts.i a) = List.length zz2 ∧ List.length (Acts.i a) = List.length zz2 ∧ List.length zz3 = List.length zz2 ∧ (60 : Int) ≤ (1000 : Int)) ∧ ((!(decide ((↑(List.length zz2) : Int) ≤ (60 : Int)) && smallB zz3 (List.length zz3))) = true → Vc True ∧ Post zz4) ∧ ((!(decide ((↑(List.length zz2) : Int) ≤ (60 : Int)) && smallB zz3 (List.length zz3))) = false → Vc ((0 + List.length (Acts.i a) ≤ List.length (Acts.i a) ∧ True) ∧ List.length (Acts.i a) = List.length zz2 ∧ List.length (Acts.i a) = List.length zz2 ∧ List.length (cut (Acts.k a) 0 zz1) = List.length zz2 ∧ List.length zz3 = List.length zz2 ∧ List.length zz2 ≤ 400 ∧ Mild zz3) ∧ (false = true → Post (G (Value.bool false) [some (Sum.inr (Sum.inr (Sum.inl (Row.mk [zz12 0, zz12 0, zz12 0] zz1 [Col.mk (Acts.i a) [] [], Col.mk (Acts.k a) [] [], Col.mk (Acts.w a) [] []])))), none, some (Sum.inr (Sum.inr (Sum.inr (Rt.tree (TS.alike zz5))))), some (Sum.inr (Sum.inl (38, Row.mk [zz12 0, zz12 0] (List.length (ks (TS.l zz5))) [Col.mk (ks (TS.l zz5)) [] [], Col.mk (wsL (TS.l zz5)) [] []])))])) ∧ (false = false → Vc ((0 + List.length (TS.l zz5) ≤ List.length (ks (TS.l zz5)) ∧ True) ∧ List.length (TS.l zz5) = List.length zz6 ∧ List.length (TS.l zz5) = List.length zz6 ∧ List.length (cut (wsL (TS.l zz5)) 0 (List.length (TS.l zz5))) = List.length zz6 ∧ List.length zz6 ≤ 100000) ∧ Vc (TS.Few (TS.alike zz5)) ∧ Vc ((0 + List.length zz7 ≤ List.length zz7 ∧ True) ∧ List.length zz7 = List.length zz8 ∧ List.length zz7 = List.length zz8 ∧ Mild zz8 ∧ (0 : Int) ≤ zz9 ∧ zz9 ≤ (↑(List.length zz8) : Int)) ∧ Vc ((0 + List.length zz7 ≤ List.length zz7 ∧ True) ∧ List.length zz7 = List.length zz8 ∧ List.length zz7 = List.length zz8 ∧ Mild zz8) ∧ Post (G (Value.bool (if false = true then !(Ti.Td.n zz10 == zz9 && zz11) else Ti.Td.n zz10 == zz9 && zz11)) [some (Sum.inr (Sum.inr (Sum.inl (Row.mk [zz12 0, zz12 0, zz12 0] zz1 [Col.mk (Acts.i a) [] [], Col.mk (Acts.k a) [] [], Col.mk (Acts.w a) [] []])))), none, some (Sum.inr (Sum.inr (Sum.inr (Rt.tree (TS.bet (TS.alike zz5) f u))))), some (Sum.inr (Sum.inl (38, Row.mk [zz12 0, zz12 0] (List.length (ks (TS.l zz5))) [Col.mk (ks (TS.l zz5)) [] [], Col.mk (wsL (TS.l zz5)) [] []]))), none, some (Sum.inr (Sum.inl (3, Row.mk [zz12 0] (List.length zz7) [Col.mk zz7 [] []])))])))) ∧ (false = true → Vc True ∧ Post zz4)) ?_ (by kernel_rfl)
  intro zz12 zz1 zz2 zz3 zz4 zz5 zz6 zz7 zz8 zz9 zz10 zz11; subst zz11 zz10 zz9 zz8 zz7 zz6 zz5 zz4 zz3 zz2 zz1 zz12
  have c1 : cut a.i 0 a.i.length = a.i := cut_all _
  have c2 : cut a.k 0 a.i.length = a.k := cut_eq ha.k
  have c3 : cut a.w 0 a.i.length = a.w := cut_eq ha.w
  simp only [c1, c2, c3]
  refine ⟨⟨trivial⟩, fun _ => ⟨⟨⟨by omega, trivial⟩, trivial, trivial, ha.w, by omega⟩, fun _ => ⟨⟨trivial⟩, ⟨hG _⟩⟩, fun h => ?_⟩, fun h => by cases h⟩
  obtain ⟨hl, hm⟩ := small_of (m := 60) ha.w (by simpa using h) (by decide)
  clear h
  have hS := made_ok (mo := 50) ha.k ha.w (by omega) hm a.i.length (Nat.le_refl _)
  generalize madeS 50 a.i a.k a.w a.i.length = S at hS ⊢
  obtain ⟨hS1, hS2, hS3, hS4⟩ := hS
  have few : S.alike.Few := by show S.n < 100000; omega
  have l0 : (ks S.l).length = S.l.length := List.length_map ..
  have l1 : (wsL S.l).length = S.l.length := List.length_map ..
  have d0 : cut (ks S.l) 0 S.l.length = ks S.l := cut_eq l0
  have d1 : cut (wsL S.l) 0 S.l.length = wsL S.l := cut_eq l1
  have e1 : ∀ x : List Int, cut x 0 x.length = x := cut_all
  have hms : Mild (wsL S.l) := S.ok.good
  have hsub : wsL (Gv.sub S.l f.toNat u.toNat) = Gv.sub (wsL S.l) f.toNat u.toNat := by unfold Gv.sub wsL; rw [List.map_take, List.map_drop]
  simp only [d0, d1, e1, l0, l1]
  refine ⟨⟨⟨by omega, trivial⟩, trivial, trivial, ha.k, ha.w, by omega, hm⟩, ?_⟩
  have e2 : S7 (Gv.sub S.alike.l f.toNat u.toNat) = Ti.tideOf (Gv.sub (wsL S.l) f.toNat u.toNat) := congrArg Ti.tideOf hsub
  have hms2 : Mild (Gv.sub (wsL S.l) f.toNat u.toNat) := by
    have := Gv.good_sub laws7 f.toNat u.toNat S.ok.good
    unfold good7 at this
    rwa [show List.map El.w (Gv.sub S.l f.toNat u.toNat) = Gv.sub (wsL S.l) f.toNat u.toNat from hsub] at this
  refine ⟨(fun h => by cases h), fun _ => ⟨⟨⟨by omega, trivial⟩, trivial, trivial, trivial, by omega⟩, ⟨few⟩, ⟨⟨by omega, trivial⟩, trivial, trivial, hms2, by omega, by omega⟩, ⟨⟨by omega, trivial⟩, trivial, trivial, hms2⟩, ⟨?_⟩⟩⟩
  rw [e2]
  simp only [Ti.tideOf, Int.toNat_natCast, beq_self_eq_true, Bool.and_self, Bool.false_eq_true, if_false]
  exact hG _
end Go.Proofs.Ytclagkjjgmeifaa.G7


/- grove: the law GroveHeights. -/
namespace Go.Proofs.Ytclagkjjgmeifaa.G7
open Go.Proofs.Ytclagkjjgmeifaa.Rx Go.Proofs.Ytclagkjjgmeifaa.D7
set_option linter.unusedVariables false
set_option linter.unusedSimpArgs false
set_option maxRecDepth 100000
set_option maxHeartbeats 16000000
def TH7 : Tab Rt := [(9, liftC zN 2 (con1 awakeP)), (10, liftV Ti.z0 2 (con1 smallP)), (12, liftC zN 2 (con1 restP)), (35, liftC zN 2 (con1 D7.heightP)), (11, liftC zN 2 (con1 tnewP)),
  (13, liftC zN 2 (con1 tputP)), (15, liftC zN 2 (con1 tdropP)), (24, liftC zN 2 (con1 tbetP)),
  (17, liftC zN 2 (con1 tfindP)), (18, liftC zN 2 (con1 trankP)), (33, liftC zN 2 (con1 tlenP)),
  (36, liftC zN 2 (con1 theightP)), (34, liftC zN 2 (con1 tvisP))]
theorem TH7_ok : TabOk D2 Try.prog TH7 := ⟨liftC_ok _ _ awake_ok, liftV_ok _ _ small_ok, liftC_ok _ _ rest_ok, liftC_ok _ _ D7.height_ok, liftC_ok _ _ tnew_ok, liftC_ok _ _ tput_ok, liftC_ok _ _ tdrop_ok, liftC_ok _ _ tbet_ok,
  liftC_ok _ _ tfind_ok, liftC_ok _ _ trank_ok, liftC_ok _ _ tlen_ok, liftC_ok _ _ theight_ok, liftC_ok _ _ tvis_ok, trivial⟩
theorem putL_len1 (s : TS) (e : El) : (s.putL e).length ≤ s.l.length + 1 := by
  unfold TS.putL
  split
  · rw [Gv.put_len]; split <;> omega
  · omega
theorem vis_plain {m m' : Pl} {k : Nat} (h : Gv.Vis k m m') (h0 : 0 ≤ m.visits) (h1 : m.visits ≤ 1000000000000) (hk : k ≤ 1000000) : m.visits ≤ m'.visits ∧ m'.visits ≤ m.visits + k := by
  obtain ⟨j, hj, e | e⟩ := h
  · rw [e.1]; omega
  · rw [e, Gv.W_of (by omega)]; omega
theorem hgt_few {n : Nat} (h : n ≤ 400) : Gv.hgt n ≤ 26 := Nat.le_trans (Gv.hgt_mono h) (by decide)
/-- so many calls -/
structure HtOk (i : Nat) (s : TS) : Prop where
  n : s.n ≤ i
  len : s.l.length ≤ i
  v0 : 0 ≤ s.m.visits
  v1 : s.m.visits ≤ i * 100000
theorem hts_run {G : Value → Hp Rt → Prop} {a : Acts} {st : Int} (ha : a.Ok) (hG : ∀ hp, G (.bool true) hp) :
    At D2 Try.prog (codeOf Try.f7) 1 (retK Try.prog Try.f7.results.toList G) [.inl []] ⟨someL [.slice (some ⟨0, 0, some 3000⟩) a.i.length 0, .int .i64 st] ++ List.replicate (Try.f7.ntmps - 2) none, [], [some (.inr (.inr (.inl (actsRow a))))]⟩ := by
  refine rx_ok (T := TH7) TH7_ok mixed 200 ?_
  refine as_text (q := let zz4 := Value.int IntKind.i64; let zz1 := (List.length (Acts.i a)); let zz2 := (decide ((↑(List.length (cut (Acts.i a) 0 zz1)) : Int) ≤ (60 : Int)) && smallB (cut (Acts.w a) 0 zz1) (List.length (cut (Acts.w a) 0 zz1))); let zz3 := (G (Value.bool true) [some (Sum.inr (Sum.inr (Sum.inl (Row.mk [zz4 0, zz4 0, zz4 0] zz1 [Col.mk (Acts.i a) [] [], Col.mk (Acts.k a) [] [], Col.mk (Acts.w a) [] []]))))]); Vc True ∧ (false = false → Vc ((0 + List.length (Acts.i a) ≤ List.length (Acts.i a) ∧ True) ∧ List.length (Acts.i a) = List.length (cut (Acts.i a) 0 zz1) ∧ List.length (Acts.i a) = List.length (cut (Acts.i a) 0 zz1) ∧ List.length (cut (Acts.w a) 0 zz1) = List.length (cut (Acts.i a) 0 zz1) ∧ (60 : Int) ≤ (1000 : Int)) ∧ ((!zz2) = true → Vc True ∧ Post zz3) ∧ ((!zz2) = false → Vc True ∧ At D2 Try.prog (codeOf Try.f7) 1 (retK Try.prog (Array.toList (Func.results Try.f7)) G) [Sum.inl [1, 1, 1, 0, 1, 0], Sum.inr (Sum.inl 0), Sum.inl [1, 1, 1, 1]] (SS.mk [some (Value.slice (some (Addr.mk 0 0 (some 3000))) zz1 0), some (zz4 st), none, none, some (Value.bool false), some (Value.pointer (some (Addr.mk 1 0 none))), some (zz4 0), none, none, none, none, some (Value.bool true), some (Value.bool false), some (Value.bool false), some (Value.slice (some (Addr.mk 0 0 (some 3000))) zz1 0), some (Value.bool zz2), some (Value.bool !zz2), some (Value.bool false), none, some (Value.pointer (some (Addr.mk 1 0 none))), none, none, none, none, none, none, none, none, none, none, none, none, none, none, none, none, none, none, none, none, none, none, none, none, none, none, none, none, none, none, none, none, none, none, none, none, none, none, none, none, none, none, none, none, none, none, none, none, none, none, none, none, none, none, none, none, none, none, none, none, none, none, none, none, none, none, none, none, none, none, none, none, none, none, none, none, none, none, none, none, none, none, none, none] [(17, false), (13, false), (4, false)] [some (Sum.inr (Sum.inr (Sum.inl (Row.mk [zz4 0, zz4 0, zz4 0] zz1 [Col.mk (Acts.i a) [] [], Col.mk (Acts.k a) [] [], Col.mk (Acts.w a) [] []])))), some (Sum.inr (Sum.inr (Sum.inr (Rt.tree (TS.new (400 : Int))))))]))) ∧ (false = true → Vc True ∧ Post zz3)) ?_ (by kernel_rfl)
  intro zz4 zz1 zz2 zz3; subst zz3 zz2 zz1 zz4
  have c1 : cut a.i 0 a.i.length = a.i := cut_all _
  have c2 : cut a.k 0 a.i.length = a.k := cut_eq ha.k
  have c3 : cut a.w 0 a.i.length = a.w := cut_eq ha.w
  simp only [c1, c2, c3]
  refine ⟨⟨trivial⟩, fun _ => ⟨⟨⟨by omega, trivial⟩, trivial, trivial, ha.w, by omega⟩, fun _ => ⟨⟨trivial⟩, ⟨hG _⟩⟩, fun h => ?_⟩, fun h => ⟨⟨trivial⟩, ⟨hG _⟩⟩⟩
  obtain ⟨hl, hm⟩ := small_of (m := 60) ha.w (by simpa using h) (by decide)
  clear h
  refine ⟨⟨trivial⟩, ?_⟩
  refine loop_atM (by kernel_rfl) (ι := Nat × TS) (fun x => x.1 ≤ 6 * a.i.length ∧ HtOk x.1 x.2) [0, 1, 5, 6] (fun x => [.slice (some ⟨0, 0, some 3000⟩) a.i.length 0, .int .i64 st, .pointer (some ⟨1, 0, none⟩), .int .i64 x.1])
    (fun x => [some (.inr (.inr (.inl (actsRow a)))), oT x.2]) (fun x => 6 * a.i.length - x.1) 104 (fun i hi => ⟨rfl, rfl, by simp⟩)
    ⟨(0, TS.new 400), ⟨Nat.zero_le _, ⟨Nat.le_refl _, Nat.le_refl _, Int.le_refl _, Int.le_refl _⟩⟩, ⟨[0, 1], rfl, ⟨rfl, rfl, trivial⟩, rfl, rfl, rfl, rfl⟩⟩ fun x hx => ?_
  obtain ⟨i, s⟩ := x
  obtain ⟨hi, hs⟩ := hx
  simp only at hi hs ⊢
  refine rxS_ok (T := TH7) [[1, 1, 1, 0, 1, 0, 0, 1, 0, 0, 1, 1, 1, 0]] TH7_ok mixed 200 ?_
  refine as_text (q := let zz10 := Value.int IntKind.i64; let zz1 := (List.length (Acts.i a)); let zz2 := (↑zz1 : Int); let zz3 := (List.getD (Acts.k a) (0 + Int.toNat (Int.tmod (↑i : Int) zz2)) (0 : Int)); let zz4 := (Int.tmod zz3 (1000 : Int) + Int.tdiv (↑i : Int) zz2 * restI st (100 : Int)); let zz5 := (Value.slice (some (Addr.mk 0 0 (some 3000))) zz1 0); let zz6 := (Value.pointer (some (Addr.mk 1 0 none))); let zz7 := (zz10 (↑i : Int)); let zz8 := (List.getD (Acts.i a) (0 + Int.toNat (Int.tmod (↑i : Int) zz2)) (0 : Int)); let zz9 := (List.getD (Acts.w a) (0 + Int.toNat (Int.tmod (↑i : Int) zz2)) (0 : Int)); Vc (fits ((6 : Int) * zz2)) ∧ (decide ((↑i : Int) < (6 : Int) * zz2) = true → Vc (zz2 ≠ (0 : Int)) ∧ Vc ((0 : Int) ≤ Int.tmod (↑i : Int) zz2 ∧ Int.tmod (↑i : Int) zz2 < zz2 ∧ 0 + List.length (Acts.i a) ≤ List.length (Acts.i a)) ∧ Vc (0 + Int.toNat (Int.tmod (↑i : Int) zz2) < List.length (Acts.i a)) ∧ Vc ((1000 : Int) ≠ (0 : Int)) ∧ Vc (zz2 ≠ (0 : Int) ∧ fits (Int.tdiv (↑i : Int) zz2)) ∧ Vc ((0 : Int) < (100 : Int) ∧ (100 : Int) < (1000000 : Int)) ∧ Vc (fits (Int.tdiv (↑i : Int) zz2 * restI st (100 : Int))) ∧ Vc (fits zz4) ∧ Vc (TS.Few s) ∧ Vc True ∧ At D2 Try.prog (codeOf Try.f7) 1 (retK Try.prog (Array.toList (Func.results Try.f7)) G) [Sum.inl [1, 1, 1, 0, 1, 0, 0, 1, 0, 0, 1, 1, 1, 0], Sum.inl [1, 1, 1, 0, 1, 0, 0, 1, 0, 0, 1, 1, 1, 1], Sum.inr (Sum.inl 1), Sum.inl [1, 1, 1, 0, 1, 0, 0, 1, 1], Sum.inr (Sum.inr fun σ' => ∃ j, (Prod.fst j ≤ 6 * List.length (Acts.i a) ∧ HtOk (Prod.fst j) (Prod.snd j)) ∧ 6 * List.length (Acts.i a) - Prod.fst j < 6 * List.length (Acts.i a) - i ∧ FitsM Rt 1 104 [0, 1, 5, 6] [Value.slice (some (Addr.mk 0 0 (some 3000))) zz1 0, zz10 st, Value.pointer (some (Addr.mk 1 0 none)), zz10 (↑(Prod.fst j) : Int)] [some (Sum.inr (Sum.inr (Sum.inl (actsRow a)))), oT (Prod.snd j)] (vals (SS.tm σ') [0, 1, 5, 6]) (SS.hp σ') (List.length (SS.tm σ'))), Sum.inr (Sum.inl 0), Sum.inl [1, 1, 1, 1]] (SS.mk [some zz5, some (zz10 st), none, none, none, some zz6, some zz7, some (Value.pointer (some (Addr.mk 2 0 none))), some (Value.pointer (some (Addr.mk 3 0 none))), some (zz10 (↑(List.length (TS.l s)) : Int)), some (zz10 (Gv.PM.visits (TS.m (TS.seen s)))), none, none, none, none, none, none, none, none, none, some zz7, some zz5, some (zz10 zz2), some (zz10 ((6 : Int) * zz2)), some (Value.bool true), none, none, some zz5, some zz7, some zz5, some (zz10 zz2), some (zz10 (Int.tmod (↑i : Int) zz2)), some (Value.pointer (some (Addr.mk 0 (0 + Int.toNat (Int.tmod (↑i : Int) zz2)) (some 3000)))), some (Value.agg (Array.mk [zz10 zz8, zz10 zz3, zz10 zz9])), some (Value.pointer (some (Addr.mk 2 1 none))), some (zz10 zz3), some (zz10 (Int.tmod zz3 (1000 : Int))), some zz7, some zz5, some (zz10 zz2), some (zz10 (Int.tdiv (↑i : Int) zz2)), some (zz10 st), some (zz10 (restI st (100 : Int))), some (zz10 (Int.tdiv (↑i : Int) zz2 * restI st (100 : Int))), some (zz10 zz4), some (Value.pointer (some (Addr.mk 2 2 none))), some (zz10 zz9), some (Value.agg (Array.mk [zz10 zz4, zz10 zz9])), some zz6, some (zz10 (↑(List.length (TS.l s)) : Int)), some zz6, some (zz10 (Gv.PM.visits (TS.m (TS.seen s)))), none, none, none, none, none, none, none, none, none, none, none, none, none, none, none, none, none, none, none, none, none, none, none, none, none, none, none, none, none, none, none, none, none, none, none, none, none, none, none, none, none, none, none, none, none, none, none, none, none, none, none, none] [(24, true)] [some (Sum.inr (Sum.inr (Sum.inl (Row.mk [zz10 0, zz10 0, zz10 0] zz1 [Col.mk (Acts.i a) [] [], Col.mk (Acts.k a) [] [], Col.mk (Acts.w a) [] []])))), some (Sum.inr (Sum.inr (Sum.inr (Rt.tree (TS.seen s))))), some (Sum.inl (33, [zz10 zz8, zz10 zz3, zz10 zz9])), some (Sum.inl (28, [zz10 zz4, zz10 zz9]))])) ∧ (decide ((↑i : Int) < (6 : Int) * zz2) = false → Post (G (Value.bool true) [some (Sum.inr (Sum.inr (Sum.inl (Row.mk [zz10 0, zz10 0, zz10 0] zz1 [Col.mk (Acts.i a) [] [], Col.mk (Acts.k a) [] [], Col.mk (Acts.w a) [] []])))), some (Sum.inr (Sum.inr (Sum.inr (Rt.tree s))))]))) ?_ (by kernel_rfl)
  intro zz10 zz1 zz2 zz3 zz4 zz5 zz6 zz7 zz8 zz9; subst zz9 zz8 zz7 zz6 zz5 zz4 zz3 zz2 zz1 zz10
  refine ⟨⟨⟨by omega, by omega⟩⟩, fun h => ?_, fun h => ⟨hG _⟩⟩
  have hlt : i < 6 * a.i.length := by have := of_decide_eq_true h; omega
  clear h
  have hn0 : 0 < a.i.length := by omega
  have hm9 : i % a.i.length < a.i.length := Nat.mod_lt _ hn0
  have hq9 : i / a.i.length < 6 := Nat.div_lt_of_lt_mul (by omega)
  have m1 : (i : Int).tmod (a.i.length : Int) = ((i % a.i.length : Nat) : Int) := by rw [Int.tmod_eq_emod_of_nonneg (by omega)]; exact (Int.natCast_emod i a.i.length).symm
  have q1 : (i : Int).tdiv (a.i.length : Int) = ((i / a.i.length : Nat) : Int) := by rw [Int.tdiv_eq_ediv_of_nonneg (by omega)]; exact (Int.natCast_ediv i a.i.length).symm
  have e0 : 0 + ((i % a.i.length : Nat) : Int).toNat = i % a.i.length := by omega
  have rb := rest_bounds (a := st) (n := 100) (by omega)
  have tb1 := Int.tmod_lt_of_pos (a.k.getD (i % a.i.length) 0) (show (0 : Int) < 1000 by omega)
  have tb2 := Int.lt_tmod_of_pos (a.k.getD (i % a.i.length) 0) (show (0 : Int) < 1000 by omega)
  have wb := hm.b _ (getD_mem (l := a.w) (d := 0) (show i % a.i.length < a.w.length by rw [ha.w]; exact hm9))
  simp only [m1, q1, e0]
  generalize i % a.i.length = im at *
  generalize i / a.i.length = iq at *
  have pb : 0 ≤ (iq : Int) * restI st 100 ∧ (iq : Int) * restI st 100 ≤ 495 := by
    have : iq = 0 ∨ iq = 1 ∨ iq = 2 ∨ iq = 3 ∨ iq = 4 ∨ iq = 5 := by omega
    rcases this with rfl | rfl | rfl | rfl | rfl | rfl <;> omega
  have few : s.Few := by show s.n < 100000; have := hs.n; omega
  refine ⟨⟨by omega⟩, ⟨by omega, by omega, by omega⟩, ⟨hm9⟩, ⟨by omega⟩, ⟨⟨by omega, by omega, by omega⟩⟩, ⟨by omega, by omega⟩, ⟨⟨by omega, by omega⟩⟩, ⟨⟨by omega, by omega⟩⟩, ⟨few⟩, ⟨trivial⟩, ?_⟩
  generalize (a.k.getD im 0).tmod 1000 + (iq : Int) * restI st 100 = kk
  generalize a.w.getD im 0 = ww at *
  have hsv := vis_plain s.seen_vis hs.v0 (by have := hs.v1; omega) (by omega)
  have hs1 := hs.n
  have hs2 := hs.len
  have hs3 := hs.v1
  have hs4 := hs.v0
  have hh := hgt_few (n := s.l.length) (by omega)
  refine cut_atM (ι := TS) (fun z => z.n ≤ i + 1 ∧ z.l.length ≤ s.l.length + 1 ∧ s.seen.m.visits ≤ z.m.visits ∧ z.m.visits ≤ s.seen.m.visits + (120 * Gv.hgt s.l.length + 5 : Nat)) [0, 1, 5, 6, 8, 9, 10]
    (fun z => [.slice (some ⟨0, 0, some 3000⟩) a.i.length 0, .int .i64 st, .pointer (some ⟨1, 0, none⟩), .int .i64 i, .pointer (some ⟨2, 0, none⟩), .int .i64 s.l.length, .int .i64 s.seen.m.visits])
    (fun z => [some (.inr (.inr (.inl (actsRow a)))), oT z, some (.inl (28, [.int .i64 kk, .int .i64 ww]))]) 104 (fun z hz => ⟨rfl, rfl, by simp⟩) ?_ fun z hz => ?_
  · refine rx_ok (T := TH7) TH7_ok mixed 200 ?_
    refine as_text (q := let zz4 := Value.pointer (some (Addr.mk 1 0 none)); let zz5 := Value.int IntKind.i64; let zz1 := (restI (List.getD (Acts.i a) im (0 : Int)) (5 : Int) == (1 : Int)); let zz2 := (List.length (Acts.i a)); let zz3 := (Gv.PM.visits (TS.m (TS.seen s))); Vc ((0 : Int) < (5 : Int) ∧ (5 : Int) < (1000000 : Int)) ∧ (zz1 = true → Vc (TS.Few (TS.seen s)) ∧ Post (∃ j, (TS.n j ≤ i + 1 ∧ List.length (TS.l j) ≤ List.length (TS.l s) + 1 ∧ Gv.PM.visits (TS.m (TS.seen s)) ≤ Gv.PM.visits (TS.m j) ∧ Gv.PM.visits (TS.m j) ≤ Gv.PM.visits (TS.m (TS.seen s)) + (↑(120 * Gv.hgt (List.length (TS.l s)) + 5) : Int)) ∧ FitsM Rt 1 104 [0, 1, 5, 6, 8, 9, 10] [Value.slice (some (Addr.mk 0 0 (some 3000))) zz2 0, zz5 st, zz4, zz5 (↑i : Int), Value.pointer (some (Addr.mk 2 0 none)), zz5 (↑(List.length (TS.l s)) : Int), zz5 zz3] [some (Sum.inr (Sum.inr (Sum.inl (actsRow a)))), oT j, some (Sum.inl ((28 : TypeId), [zz5 kk, zz5 ww]))] [some (Value.slice (some (Addr.mk 0 0 (some 3000))) zz2 0), some (zz5 st), some (zz4), some (zz5 (↑i : Int)), some (Value.pointer (some (Addr.mk 3 0 none))), some (zz5 (↑(List.length (TS.l s)) : Int)), some (zz5 zz3)] [some (Sum.inr (Sum.inr (Sum.inl (Row.mk [zz5 0, zz5 0, zz5 0] zz2 [Col.mk (Acts.i a) [] [], Col.mk (Acts.k a) [] [], Col.mk (Acts.w a) [] []])))), some (Sum.inr (Sum.inr (Sum.inr (Rt.tree (TS.drop (TS.seen s) (El.mk kk ww)))))), some (Sum.inl (33, [zz5 (List.getD (Acts.i a) im (0 : Int)), zz5 (List.getD (Acts.k a) im (0 : Int)), zz5 ww])), some (Sum.inl (28, [zz5 kk, zz5 ww]))] 104)) ∧ (zz1 = false → Vc (TS.PutOk (TS.seen s) (El.mk kk ww)) ∧ Post (∃ j, (TS.n j ≤ i + 1 ∧ List.length (TS.l j) ≤ List.length (TS.l s) + 1 ∧ Gv.PM.visits (TS.m (TS.seen s)) ≤ Gv.PM.visits (TS.m j) ∧ Gv.PM.visits (TS.m j) ≤ Gv.PM.visits (TS.m (TS.seen s)) + (↑(120 * Gv.hgt (List.length (TS.l s)) + 5) : Int)) ∧ FitsM Rt 1 104 [0, 1, 5, 6, 8, 9, 10] [Value.slice (some (Addr.mk 0 0 (some 3000))) zz2 0, zz5 st, zz4, zz5 (↑i : Int), Value.pointer (some (Addr.mk 2 0 none)), zz5 (↑(List.length (TS.l s)) : Int), zz5 zz3] [some (Sum.inr (Sum.inr (Sum.inl (actsRow a)))), oT j, some (Sum.inl ((28 : TypeId), [zz5 kk, zz5 ww]))] [some (Value.slice (some (Addr.mk 0 0 (some 3000))) zz2 0), some (zz5 st), some (zz4), some (zz5 (↑i : Int)), some (Value.pointer (some (Addr.mk 3 0 none))), some (zz5 (↑(List.length (TS.l s)) : Int)), some (zz5 zz3)] [some (Sum.inr (Sum.inr (Sum.inl (Row.mk [zz5 0, zz5 0, zz5 0] zz2 [Col.mk (Acts.i a) [] [], Col.mk (Acts.k a) [] [], Col.mk (Acts.w a) [] []])))), some (Sum.inr (Sum.inr (Sum.inr (Rt.tree (TS.put (TS.seen s) (El.mk kk ww)))))), some (Sum.inl (33, [zz5 (List.getD (Acts.i a) im (0 : Int)), zz5 (List.getD (Acts.k a) im (0 : Int)), zz5 ww])), some (Sum.inl (28, [zz5 kk, zz5 ww]))] 104))) ?_ (by kernel_rfl)
    intro zz4 zz5 zz1 zz2 zz3; subst zz3 zz2 zz1 zz5 zz4
    refine ⟨⟨by omega, by omega⟩, fun _ => ⟨⟨few⟩, ⟨?_⟩⟩, fun _ => ?_⟩
    · have v := vis_plain (s.seen.drop_vis ⟨kk, ww⟩) (by omega) (by omega) (show 120 * Gv.hgt s.l.length + 5 ≤ 1000000 by omega)
      have hd : (s.seen.drop ⟨kk, ww⟩).l.length ≤ s.l.length := dropE_le ⟨kk, ww⟩ s.l
      exact ⟨s.seen.drop ⟨kk, ww⟩, ⟨Nat.succ_le_succ hs1, by omega, v.1, v.2⟩, ⟨[0, 1, 3], rfl, ⟨rfl, rfl, .inl rfl, trivial⟩, rfl, rfl, rfl, rfl⟩⟩
    · have hp : s.seen.PutOk ⟨kk, ww⟩ := ⟨by show s.n < 100000; omega, by show s.l.length < 1000; omega, wb.1, wb.2⟩
      have v := vis_plain (TS.put_vis hp) (by omega) (by omega) (show 32 * Gv.hgt s.l.length + 4 ≤ 1000000 by omega)
      have v3 : (32 * Gv.hgt s.seen.l.length + 4 : Nat) ≤ 120 * Gv.hgt s.l.length + 5 := by show 32 * Gv.hgt s.l.length + 4 ≤ _; omega
      have hd : (s.seen.put ⟨kk, ww⟩).l.length ≤ s.l.length + 1 := by rw [TS.put_l hp]; exact putL_len1 s.seen ⟨kk, ww⟩
      exact ⟨⟨hp⟩, ⟨s.seen.put ⟨kk, ww⟩, ⟨by rw [TS.put_n hp]; exact Nat.succ_le_succ hs1, hd, v.1, by have := v.2; omega⟩, ⟨[0, 1, 3], rfl, ⟨rfl, rfl, .inl rfl, trivial⟩, rfl, rfl, rfl, rfl⟩⟩⟩
  · obtain ⟨z1, z2, z3, z4⟩ := hz
    refine rx_ok (T := TH7) TH7_ok mixed 200 ?_
    refine as_text (q := let zz8 := Value.int IntKind.i64; let zz1 := (↑(List.length (TS.l s)) : Int); let zz2 := (fits ((↑(Gv.hgt (Int.toNat (zz1 + (1 : Int)))) : Int) + (4 : Int))); let zz3 := (Gv.PM.visits (TS.m z) - Gv.PM.visits (TS.m (TS.seen s)) > (200 : Int) * ((↑(Gv.hgt (Int.toNat (zz1 + (1 : Int)))) : Int) + (4 : Int))); let zz4 := (↑(List.length (TS.l (TS.seen z))) : Int); let zz5 := (TS.find (TS.rank (TS.seen (TS.seen z)) (El.mk kk ww)) (El.mk kk ww)); let zz6 := (TS.bet zz5 (Int.tdiv zz1 (3 : Int)) (Int.tdiv zz1 (2 : Int))); let zz7 := (Gv.PM.visits (TS.m zz6) - Gv.PM.visits (TS.m (TS.seen (TS.seen z))) > (600 : Int) * ((↑(Gv.hgt (Int.toNat (zz1 + (1 : Int)))) : Int) + (4 : Int))); Vc True ∧ Vc (fits (Gv.PM.visits (TS.m z) - Gv.PM.visits (TS.m (TS.seen s)))) ∧ Vc (fits (zz1 + (1 : Int))) ∧ Vc ((0 : Int) ≤ zz1 + (1 : Int) ∧ zz1 + (1 : Int) ≤ (100000 : Int)) ∧ Vc zz2 ∧ Vc (fits ((200 : Int) * ((↑(Gv.hgt (Int.toNat (zz1 + (1 : Int)))) : Int) + (4 : Int)))) ∧ (decide zz3 = false → Vc (TS.Few z) ∧ Vc (TS.Few (TS.seen z)) ∧ Vc ((0 : Int) ≤ zz4 ∧ zz4 ≤ (100000 : Int)) ∧ (decide (TS.h z > (↑(Gv.hgt (Int.toNat zz4)) : Int)) = true → Post (G (Value.bool false) [some (Sum.inr (Sum.inr (Sum.inl (Row.mk [zz8 0, zz8 0, zz8 0] (List.length (Acts.i a)) [Col.mk (Acts.i a) [] [], Col.mk (Acts.k a) [] [], Col.mk (Acts.w a) [] []])))), some (Sum.inr (Sum.inr (Sum.inr (Rt.tree (TS.seen (TS.seen z)))))), some (Sum.inl (28, [zz8 kk, zz8 ww]))])) ∧ (decide (TS.h z > (↑(Gv.hgt (Int.toNat zz4)) : Int)) = false → Vc True ∧ Vc (TS.Few (TS.seen (TS.seen z))) ∧ Vc (TS.Few (TS.rank (TS.seen (TS.seen z)) (El.mk kk ww))) ∧ Vc ((3 : Int) ≠ (0 : Int) ∧ fits (Int.tdiv zz1 (3 : Int))) ∧ Vc ((2 : Int) ≠ (0 : Int) ∧ fits (Int.tdiv zz1 (2 : Int))) ∧ Vc (TS.Few zz5) ∧ Vc True ∧ Vc (fits (Gv.PM.visits (TS.m zz6) - Gv.PM.visits (TS.m (TS.seen (TS.seen z))))) ∧ Vc (fits (zz1 + (1 : Int))) ∧ Vc ((0 : Int) ≤ zz1 + (1 : Int) ∧ zz1 + (1 : Int) ≤ (100000 : Int)) ∧ Vc zz2 ∧ Vc (fits ((600 : Int) * ((↑(Gv.hgt (Int.toNat (zz1 + (1 : Int)))) : Int) + (4 : Int)))) ∧ (decide zz7 = true → Post (G (Value.bool false) [some (Sum.inr (Sum.inr (Sum.inl (Row.mk [zz8 0, zz8 0, zz8 0] (List.length (Acts.i a)) [Col.mk (Acts.i a) [] [], Col.mk (Acts.k a) [] [], Col.mk (Acts.w a) [] []])))), some (Sum.inr (Sum.inr (Sum.inr (Rt.tree zz6)))), some (Sum.inl (28, [zz8 kk, zz8 ww]))])) ∧ (decide zz7 = false → Vc (fits ((↑i : Int) + (1 : Int))) ∧ Post (∃ j, (Prod.fst j ≤ 6 * List.length (Acts.i a) ∧ HtOk (Prod.fst j) (Prod.snd j)) ∧ 6 * List.length (Acts.i a) - Prod.fst j < 6 * List.length (Acts.i a) - i ∧ FitsM Rt 1 104 [0, 1, 5, 6] [Value.slice (some (Addr.mk 0 0 (some 3000))) (List.length (Acts.i a)) 0, zz8 st, Value.pointer (some (Addr.mk 1 0 none)), zz8 (↑(Prod.fst j) : Int)] [some (Sum.inr (Sum.inr (Sum.inl (actsRow a)))), oT (Prod.snd j)] [some (Value.slice (some (Addr.mk 0 0 (some 3000))) (List.length (Acts.i a)) 0), some (zz8 st), some (Value.pointer (some (Addr.mk 1 0 none))), some (zz8 ((↑i : Int) + (1 : Int)))] [some (Sum.inr (Sum.inr (Sum.inl (Row.mk [zz8 0, zz8 0, zz8 0] (List.length (Acts.i a)) [Col.mk (Acts.i a) [] [], Col.mk (Acts.k a) [] [], Col.mk (Acts.w a) [] []])))), some (Sum.inr (Sum.inr (Sum.inr (Rt.tree zz6)))), some (Sum.inl (28, [zz8 kk, zz8 ww]))] 104)))) ∧ (decide zz3 = true → Post (G (Value.bool false) [some (Sum.inr (Sum.inr (Sum.inl (Row.mk [zz8 0, zz8 0, zz8 0] (List.length (Acts.i a)) [Col.mk (Acts.i a) [] [], Col.mk (Acts.k a) [] [], Col.mk (Acts.w a) [] []])))), some (Sum.inr (Sum.inr (Sum.inr (Rt.tree z)))), some (Sum.inl (28, [zz8 kk, zz8 ww]))]))) ?_ (by kernel_rfl)
    intro zz8 zz1 zz2 zz3 zz4 zz5 zz6 zz7; subst zz7 zz6 zz5 zz4 zz3 zz2 zz1 zz8
    have w1 : ((s.l.length : Int) + 1).toNat = s.l.length + 1 := by omega
    have w2 : ((z.seen.l.length : Nat) : Int).toNat = z.l.length := Int.toNat_natCast _
    have w3 : (s.l.length : Int).tdiv 3 = ((s.l.length / 3 : Nat) : Int) := by rw [Int.tdiv_eq_ediv_of_nonneg (by omega)]; omega
    have w4 : (s.l.length : Int).tdiv 2 = ((s.l.length / 2 : Nat) : Int) := by rw [Int.tdiv_eq_ediv_of_nonneg (by omega)]; omega
    simp only [w1, w2, w3, w4]
    have hm1 : Gv.hgt s.l.length ≤ Gv.hgt (s.l.length + 1) := Gv.hgt_mono (by omega)
    have hm2 : Gv.hgt z.l.length ≤ Gv.hgt (s.l.length + 1) := Gv.hgt_mono z2
    have hm3 := hgt_few (n := s.l.length + 1) (by omega)
    have fz : z.Few := by show z.n < 100000; omega
    have zh := z.h_le
    have u1 := vis_plain z.seen_vis (by omega) (by omega) (by omega)
    have u2 := vis_plain z.seen.seen_vis (by omega) (by omega) (by omega)
    have u3 := vis_plain (z.seen.seen.rank_vis ⟨kk, ww⟩) (by omega) (by omega) (show 2 * Gv.hgt z.l.length + 1 ≤ 1000000 by omega)
    have k3 : (2 * Gv.hgt z.seen.seen.l.length + 1 : Nat) = 2 * Gv.hgt z.l.length + 1 := rfl
    rw [k3] at u3
    have u4 := vis_plain ((z.seen.seen.rank ⟨kk, ww⟩).find_vis ⟨kk, ww⟩) (by omega) (by omega) (show Gv.hgt z.l.length + 1 ≤ 1000000 by omega)
    have k4 : (Gv.hgt (z.seen.seen.rank ⟨kk, ww⟩).l.length + 1 : Nat) = Gv.hgt z.l.length + 1 := rfl
    rw [k4] at u4
    have u5 := vis_plain (((z.seen.seen.rank ⟨kk, ww⟩).find ⟨kk, ww⟩).bet_vis ((s.l.length / 3 : Nat) : Int) ((s.l.length / 2 : Nat) : Int)) (by omega) (by omega) (show 4 * Gv.hgt z.l.length + 1 ≤ 1000000 by omega)
    have k5 : (4 * Gv.hgt ((z.seen.seen.rank ⟨kk, ww⟩).find ⟨kk, ww⟩).l.length + 1 : Nat) = 4 * Gv.hgt z.l.length + 1 := rfl
    rw [k5] at u5
    have zl : z.seen.l.length = z.l.length := rfl
    have hZ1 : (((z.seen.seen.rank ⟨kk, ww⟩).find ⟨kk, ww⟩).bet ((s.l.length / 3 : Nat) : Int) ((s.l.length / 2 : Nat) : Int)).n = z.n := rfl
    have hZ2 : (((z.seen.seen.rank ⟨kk, ww⟩).find ⟨kk, ww⟩).bet ((s.l.length / 3 : Nat) : Int) ((s.l.length / 2 : Nat) : Int)).l = z.l := rfl
    have f2 : z.seen.Few := fz
    have f3 : z.seen.seen.Few := fz
    have f4 : (z.seen.seen.rank ⟨kk, ww⟩).Few := fz
    have f5 : ((z.seen.seen.rank ⟨kk, ww⟩).find ⟨kk, ww⟩).Few := fz
    generalize (((z.seen.seen.rank ⟨kk, ww⟩).find ⟨kk, ww⟩).bet ((s.l.length / 3 : Nat) : Int) ((s.l.length / 2 : Nat) : Int)) = Z at *
    repeat' (first | apply And.intro | apply Vc.mk | apply fits.mk | intro h | apply Post.mk)
    all_goals (try simp only [decide_eq_true_eq, decide_eq_false_iff_not, Nat.zero_add, ge_iff_le, Int.not_le, Int.not_lt, Int.toNat_natCast, beq_iff_eq, beq_eq_false_iff_ne, bne_iff_ne, bne_eq_false_iff_eq, Bool.not_eq_true', Bool.not_eq_false'] at *)
    all_goals first | contradiction | omega | (apply congrArg Value.bool; assumption) | exact congrArg Value.bool (decide_eq_true (by assumption)) | exact congrArg Value.bool (decide_eq_false (Int.not_lt.mpr (by assumption))) | exact ⟨rfl, by omega⟩ | exact rfl | (simp [*, -List.getD_eq_getElem?_getD]; done) | skip
    all_goals first | exact fz | exact f2 | exact f3 | exact f4 | exact f5 | skip
    refine ⟨(i + 1, Z), ⟨by simp only; omega, ⟨by simp only; omega, by simp only; rw [hZ2]; omega, by simp only; omega, by simp only; push_cast; omega⟩⟩, by simp only; omega, ⟨[0, 1], rfl, ⟨rfl, rfl, trivial⟩, rfl, rfl, rfl, rfl⟩⟩
end Go.Proofs.Ytclagkjjgmeifaa.G7


/- grove: the law GroveHeights, called. -/
namespace Go.Proofs.Ytclagkjjgmeifaa.G7
open Go.RowKit Go.Proofs.Ytclagkjjgmeifaa.Rx
set_option linter.unusedVariables false
set_option linter.unusedSimpArgs false
set_option maxRecDepth 100000
theorem hts_law {f : Int} {p : Rx.Place} {r : Row} {W : World} (hr : r.tm = [.int .i64 0, .int .i64 0, .int .i64 0]) (hw : wfCols [.int .i64 0, .int .i64 0, .int .i64 0] r.cols r.n) (hv : ViewOk W p r) :
    Calls Try.prog 7 #[ren (viewsE [(p, r)]) (.slice (some ⟨0, 0, some 3000⟩) r.n 0), .int .i64 f] W fun e W' => e = .returned (.bool true) ∧ Below W.heap.size W W' := by
  obtain ⟨tm, n, cols⟩ := r
  simp only at hr
  subst hr
  match cols, hw with
  | [c1, c2, c3], hw =>
    obtain ⟨⟨h1, l1, _⟩, ⟨h2, l2, _⟩, ⟨h3, l3, _⟩, _⟩ := hw
    have e : (⟨[.int .i64 0, .int .i64 0, .int .i64 0], n, [c1, c2, c3]⟩ : Row) = actsRow ⟨c1.i, c2.i, c3.i⟩ := by
      simp only at l1
      rw [actsRow, l1, ← h1, ← h2, ← h3]
    rw [e] at hv ⊢
    have := law_calls (D := D2) (fn := Try.f7) (root := codeOf Try.f7) (args := [.slice (some ⟨0, 0, some 3000⟩) c1.i.length 0, .int .i64 f]) [(p, actsRow ⟨c1.i, c2.i, c3.i⟩)] Try.func7 (by kernel_rfl) (by simpa using hv) rfl
      (hts_run (a := ⟨c1.i, c2.i, c3.i⟩) ⟨by simp only at *; omega, by simp only at *; omega⟩ fun _ => rfl)
    simpa [actsRow] using this
end Go.Proofs.Ytclagkjjgmeifaa.G7


