/- ZOrd: G7Sums, G7Ord, G7OrdL -/
import Derived.Test.YtclagkjjgmeifaaZh
/- grove: the law GroveSums. -/
namespace Go.Proofs.Ytclagkjjgmeifaa.G7
open Go.Proofs.Ytclagkjjgmeifaa.Rx Go.Proofs.Ytclagkjjgmeifaa.D7
set_option linter.unusedVariables false
set_option linter.unusedSimpArgs false
set_option maxRecDepth 100000
set_option maxHeartbeats 16000000
def TL7 : Tab Rt := [(9, liftC zN 2 (con1 awakeP)), (10, liftV Ti.z0 2 (con1 smallP)), (22, liftV Ti.z0 2 (con1 madeP)),
  (23, liftV Ti.z0 2 (con1 D7.wsP)), (25, liftV Ti.z0 2 (con1 D7.sumP)), (26, liftV Ti.z0 2 (con1 D7.lowP)), (28, liftV Ti.z0 2 (con1 D7.fallsP)), (19, liftV Ti.z0 2 (con1 D7.rankP)),
  (24, liftC zN 2 (con1 tbetP)),
  (37, liftC zN 2 (con1 tallP)), (20, liftC zN 2 (con1 tatP)), (17, liftC zN 2 (con1 tfindP)),
  (18, liftC zN 2 (con1 trankP)), (33, liftC zN 2 (con1 tlenP))]
theorem TL7_ok : TabOk D2 Try.prog TL7 := ⟨liftC_ok _ _ awake_ok, liftV_ok _ _ small_ok, liftV_ok _ _ made_run_ok, liftV_ok _ _ D7.ws_ok, liftV_ok _ _ D7.sum_ok, liftV_ok _ _ D7.low_ok, liftV_ok _ _ D7.falls_ok, liftV_ok _ _ D7.rank_ok, liftC_ok _ _ tbet_ok,
  liftC_ok _ _ tall_ok, liftC_ok _ _ tat_ok, liftC_ok _ _ tfind_ok, liftC_ok _ _ trank_ok, liftC_ok _ _ tlen_ok, trivial⟩
/-- acts, by their cells -/
structure Acts where
  i : List Int
  k : List Int
  w : List Int
structure Acts.Ok (a : Acts) : Prop where
  k : a.k.length = a.i.length
  w : a.w.length = a.i.length
def actsRow (a : Acts) : Row := ⟨[.int .i64 0, .int .i64 0, .int .i64 0], a.i.length, [colI a.i, colI a.k, colI a.w]⟩
theorem small_of {x : List Int} {n : Nat} {m : Int} (hn : x.length = n) (h : (decide ((n : Int) ≤ m) && smallB x x.length) = true) (hm : m ≤ 1000) : (n : Int) ≤ m ∧ Mild x := by
  simp only [Bool.and_eq_true, decide_eq_true_eq] at h
  exact ⟨h.1, small_mild h.2 (by omega)⟩
theorem sums_run {G : Value → Hp Rt → Prop} {a : Acts} {f u : Int} (ha : a.Ok) (hG : ∀ hp, G (.bool true) hp) :
    At D2 Try.prog (codeOf Try.f4) 1 (retK Try.prog Try.f4.results.toList G) [.inl []] ⟨someL [.slice (some ⟨0, 0, some 3000⟩) a.i.length 0, .int .i64 f, .int .i64 u] ++ List.replicate (Try.f4.ntmps - 3) none, [], [some (.inr (.inr (.inl (actsRow a))))]⟩ := by
  refine rx_ok (T := TL7) TL7_ok mixed 200 ?_
  refine as_text (q := let zz12 := Value.int IntKind.i64; let zz1 := (List.length (Acts.i a)); let zz2 := (cut (Acts.i a) 0 zz1); let zz3 := (cut (Acts.w a) 0 zz1); let zz4 := (G (Value.bool true) [some (Sum.inr (Sum.inr (Sum.inl (Row.mk [zz12 0, zz12 0, zz12 0] zz1 [Col.mk (Acts.i a) [] [], Col.mk (Acts.k a) [] [], Col.mk (Acts.w a) [] []]))))]); let zz5 := (madeS (50 : Int) zz2 (cut (Acts.k a) 0 zz1) zz3 (List.length zz2)); let zz6 := (cut (ks (TS.l zz5)) 0 (List.length (TS.l zz5))); let zz7 := (Gv.sub (cut (wsL (TS.l zz5)) 0 (List.length (TS.l zz5))) (Int.toNat f) (Int.toNat u)); let zz8 := (cut zz7 0 (List.length zz7)); let zz9 := (↑(List.length zz7) : Int); let zz10 := (S7 (Gv.sub (TS.l (TS.alike zz5)) (Int.toNat f) (Int.toNat u))); let zz11 := (Ti.Td.s zz10 == Ti.psum zz8 (Int.toNat zz9) && (Ti.Td.l zz10 == Ti.low zz8 && true)); Vc True ∧ (false = false → Vc ((0 + List.length (Acts.i a) ≤ List.length (Acts.i a) ∧ True) ∧ List.length (Acts.i a) = List.length zz2 ∧ List.length (Acts.i a) = List.length zz2 ∧ List.length zz3 = List.length zz2 ∧ (60 : Int) ≤ (1000 : Int)) ∧ ((!(decide ((↑(List.length zz2) : Int) ≤ (60 : Int)) && smallB zz3 (List.length zz3))) = true → Vc True ∧ Post zz4) ∧ ((!(decide ((↑(List.length zz2) : Int) ≤ (60 : Int)) && smallB zz3 (List.length zz3))) = false → Vc ((0 + List.length (Acts.i a) ≤ List.length (Acts.i a) ∧ True) ∧ List.length (Acts.i a) = List.length zz2 ∧ List.length (Acts.i a) = List.length zz2 ∧ List.length (cut (Acts.k a) 0 zz1) = List.length zz2 ∧ List.length zz3 = List.length zz2 ∧ List.length zz2 ≤ 400 ∧ Mild zz3) ∧ (false = true → Post (G (Value.bool false) [some (Sum.inr (Sum.inr (Sum.inl (Row.mk [zz12 0, zz12 0, zz12 0] zz1 [Col.mk (Acts.i a) [] [], Col.mk (Acts.k a) [] [], Col.mk (Acts.w a) [] []])))), none, some (Sum.inr (Sum.inr (Sum.inr (Rt.tree (TS.alike zz5))))), some (Sum.inr (Sum.inl (38, Row.mk [zz12 0, zz12 0] (List.length (ks (TS.l zz5))) [Col.mk (ks (TS.l zz5)) [] [], Col.mk (wsL (TS.l zz5)) [] []])))])) ∧ (false = false → Vc ((0 + List.length (TS.l zz5) ≤ List.length (ks (TS.l zz5)) ∧ True) ∧ List.length (TS.l zz5) = List.length zz6 ∧ List.length (TS.l zz5) = List.length zz6 ∧ List.length (cut (wsL (TS.l zz5)) 0 (List.length (TS.l zz5))) = List.length zz6 ∧ List.length zz6 ≤ 100000) ∧ Vc (TS.Few (TS.alike zz5)) ∧ Vc ((0 + List.length zz7 ≤ List.length zz7 ∧ True) ∧ List.length zz7 = List.length zz8 ∧ List.length zz7 = List.length zz8 ∧ Mild zz8 ∧ (0 : Int) ≤ zz9 ∧ zz9 ≤ (↑(List.length zz8) : Int)) ∧ Vc ((0 + List.length zz7 ≤ List.length zz7 ∧ True) ∧ List.length zz7 = List.length zz8 ∧ List.length zz7 = List.length zz8 ∧ Mild zz8) ∧ Post (G (Value.bool (if false = true then !(Ti.Td.n zz10 == zz9 && zz11) else Ti.Td.n zz10 == zz9 && zz11)) [some (Sum.inr (Sum.inr (Sum.inl (Row.mk [zz12 0, zz12 0, zz12 0] zz1 [Col.mk (Acts.i a) [] [], Col.mk (Acts.k a) [] [], Col.mk (Acts.w a) [] []])))), none, some (Sum.inr (Sum.inr (Sum.inr (Rt.tree (TS.bet (TS.alike zz5) f u))))), some (Sum.inr (Sum.inl (38, Row.mk [zz12 0, zz12 0] (List.length (ks (TS.l zz5))) [Col.mk (ks (TS.l zz5)) [] [], Col.mk (wsL (TS.l zz5)) [] []]))), none, some (Sum.inr (Sum.inl (3, Row.mk [zz12 0] (List.length zz7) [Col.mk zz7 [] []])))])))) ∧ (false = true → Vc True ∧ Post zz4)) ?_ (by kernel_rfl)
  intro zz12 zz1 zz2 zz3 zz4 zz5 zz6 zz7 zz8 zz9 zz10 zz11; subst zz11 zz10 zz9 zz8 zz7 zz6 zz5 zz4 zz3 zz2 zz1 zz12
  have c1 : cut a.i 0 a.i.length = a.i := cut_all _
  have c2 : cut a.k 0 a.i.length = a.k := cut_eq ha.k
  have c3 : cut a.w 0 a.i.length = a.w := cut_eq ha.w
  simp only [c1, c2, c3]
  refine ⟨⟨trivial⟩, fun _ => ⟨⟨⟨by omega, trivial⟩, trivial, trivial, ha.w, by omega⟩, fun _ => ⟨⟨trivial⟩, ⟨hG _⟩⟩, fun h => ?_⟩, fun h => by cases h⟩
  obtain ⟨hl, hm⟩ := small_of (m := 60) ha.w (by simpa using h) (by decide)
  clear h
  have hS := made_ok (mo := 50) ha.k ha.w (by omega) hm a.i.length (Nat.le_refl _)
  generalize madeS 50 a.i a.k a.w a.i.length = S at hS ⊢
  obtain ⟨hS1, hS2, hS3, hS4⟩ := hS
  have few : S.alike.Few := by show S.n < 100000; omega
  have l0 : (ks S.l).length = S.l.length := List.length_map ..
  have l1 : (wsL S.l).length = S.l.length := List.length_map ..
  have d0 : cut (ks S.l) 0 S.l.length = ks S.l := cut_eq l0
  have d1 : cut (wsL S.l) 0 S.l.length = wsL S.l := cut_eq l1
  have e1 : ∀ x : List Int, cut x 0 x.length = x := cut_all
  have hms : Mild (wsL S.l) := S.ok.good
  have hsub : wsL (Gv.sub S.l f.toNat u.toNat) = Gv.sub (wsL S.l) f.toNat u.toNat := by unfold Gv.sub wsL; rw [List.map_take, List.map_drop]
  simp only [d0, d1, e1, l0, l1]
  refine ⟨⟨⟨by omega, trivial⟩, trivial, trivial, ha.k, ha.w, by omega, hm⟩, ?_⟩
  have e2 : S7 (Gv.sub S.alike.l f.toNat u.toNat) = Ti.tideOf (Gv.sub (wsL S.l) f.toNat u.toNat) := congrArg Ti.tideOf hsub
  have hms2 : Mild (Gv.sub (wsL S.l) f.toNat u.toNat) := by
    have := Gv.good_sub laws7 f.toNat u.toNat S.ok.good
    unfold good7 at this
    rwa [show List.map El.w (Gv.sub S.l f.toNat u.toNat) = Gv.sub (wsL S.l) f.toNat u.toNat from hsub] at this
  refine ⟨(fun h => by cases h), fun _ => ⟨⟨⟨by omega, trivial⟩, trivial, trivial, trivial, by omega⟩, ⟨few⟩, ⟨⟨by omega, trivial⟩, trivial, trivial, hms2, by omega, by omega⟩, ⟨⟨by omega, trivial⟩, trivial, trivial, hms2⟩, ⟨?_⟩⟩⟩
  rw [e2]
  simp only [Ti.tideOf, Int.toNat_natCast, beq_self_eq_true, Bool.and_self, Bool.false_eq_true, if_false]
  exact hG _
end Go.Proofs.Ytclagkjjgmeifaa.G7


/- grove: the law GroveOrder. -/
namespace Go.Proofs.Ytclagkjjgmeifaa.G7
open Go.Proofs.Ytclagkjjgmeifaa.Rx Go.Proofs.Ytclagkjjgmeifaa.D7
set_option linter.unusedVariables false
set_option linter.unusedSimpArgs false
set_option maxRecDepth 100000
set_option maxHeartbeats 16000000
def ordS (S : TS) : Nat → TS
  | 0 => S.alike.all
  | i + 1 => ((((ordS S i).at_ i).find ⟨(ks S.l).getD i 0, 0⟩).rank ⟨(ks S.l).getD i 0, (wsL S.l).getD i 0⟩)
theorem ordS_eq (S : TS) : ∀ i, (ordS S i).l = S.l ∧ (ordS S i).n = S.n
  | 0 => ⟨rfl, rfl⟩
  | i + 1 => ordS_eq S i
theorem ord_run {G : Value → Hp Rt → Prop} {a : Acts} (ha : a.Ok) (hG : ∀ hp, G (.bool true) hp) :
    At D2 Try.prog (codeOf Try.f8) 1 (retK Try.prog Try.f8.results.toList G) [.inl []] ⟨someL [.slice (some ⟨0, 0, some 3000⟩) a.i.length 0] ++ List.replicate (Try.f8.ntmps - 1) none, [], [some (.inr (.inr (.inl (actsRow a))))]⟩ := by
  refine rx_ok (T := TL7) TL7_ok mixed 200 ?_
  refine as_text (q := let zz12 := Value.int IntKind.i64; let zz1 := (List.length (Acts.i a)); let zz2 := (cut (Acts.i a) 0 zz1); let zz3 := (cut (Acts.w a) 0 zz1); let zz4 := (decide ((↑(List.length zz2) : Int) ≤ (60 : Int)) && smallB zz3 (List.length zz3)); let zz5 := (G (Value.bool true) [some (Sum.inr (Sum.inr (Sum.inl (Row.mk [zz12 0, zz12 0, zz12 0] zz1 [Col.mk (Acts.i a) [] [], Col.mk (Acts.k a) [] [], Col.mk (Acts.w a) [] []]))))]); let zz6 := (madeS (50 : Int) zz2 (cut (Acts.k a) 0 zz1) zz3 (List.length zz2)); let zz7 := (Value.slice (some (Addr.mk 0 0 (some 3000))) zz1 0); let zz8 := (Value.pointer (some (Addr.mk 2 0 none))); let zz9 := (Value.slice (some (Addr.mk 3 0 (some 2000))) (List.length (TS.l zz6)) 0); let zz10 := (Value.slice (some (Addr.mk 4 0 (some 2000))) (List.length (TS.l (TS.alike zz6))) 0); let zz11 := (Value.tuple (Array.mk [Value.pointer (some (Addr.mk 2 0 none)), Value.slice (some (Addr.mk 3 0 (some 2000))) (List.length (TS.l zz6)) 0, Value.bool true])); Vc True ∧ (false = false → Vc ((0 + List.length (Acts.i a) ≤ List.length (Acts.i a) ∧ True) ∧ List.length (Acts.i a) = List.length zz2 ∧ List.length (Acts.i a) = List.length zz2 ∧ List.length zz3 = List.length zz2 ∧ (60 : Int) ≤ (1000 : Int)) ∧ ((!zz4) = true → Vc True ∧ Post zz5) ∧ ((!zz4) = false → Vc ((0 + List.length (Acts.i a) ≤ List.length (Acts.i a) ∧ True) ∧ List.length (Acts.i a) = List.length zz2 ∧ List.length (Acts.i a) = List.length zz2 ∧ List.length (cut (Acts.k a) 0 zz1) = List.length zz2 ∧ List.length zz3 = List.length zz2 ∧ List.length zz2 ≤ 400 ∧ Mild zz3) ∧ Vc (TS.Few (TS.alike zz6)) ∧ At D2 Try.prog (codeOf Try.f8) 1 (retK Try.prog (Array.toList (Func.results Try.f8)) G) [Sum.inl [1, 1, 1, 1, 0, 1, 0], Sum.inr (Sum.inl 0), Sum.inl [1, 1, 1, 1, 1]] (SS.mk [some zz7, none, some (Value.bool false), some zz8, some zz9, some (Value.bool true), some zz10, some (zz12 0), none, none, none, none, some (Value.bool true), some (Value.bool false), some (Value.bool false), some zz7, some (Value.bool zz4), some (Value.bool !zz4), some (Value.bool false), none, some zz11, some zz7, some zz11, some zz8, some zz9, some (Value.bool true), some zz8, some zz10, none, none, none, none, none, none, none, none, none, none, none, none, none, none, none, none, none, none, none, none, none, none, none, none, none, none, none, none, none, none, none, none, none, none, none, none, none, none, none, none, none, none, none, none, none, none, none, none, none, none, none, none, none, none, none, none, none, none, none, none, none, none, none, none, none, none, none, none, none, none, none, none, none, none, none, none, none, none, none, none, none, none] [(18, false), (14, false), (2, false)] [some (Sum.inr (Sum.inr (Sum.inl (Row.mk [zz12 0, zz12 0, zz12 0] zz1 [Col.mk (Acts.i a) [] [], Col.mk (Acts.k a) [] [], Col.mk (Acts.w a) [] []])))), none, some (Sum.inr (Sum.inr (Sum.inr (Rt.tree (TS.all (TS.alike zz6)))))), some (Sum.inr (Sum.inl (38, Row.mk [zz12 0, zz12 0] (List.length (ks (TS.l zz6))) [Col.mk (ks (TS.l zz6)) [] [], Col.mk (wsL (TS.l zz6)) [] []]))), some (Sum.inr (Sum.inl (28, Row.mk [zz12 0, zz12 0] (List.length (TS.l (TS.alike zz6))) [Col.mk (ks (TS.l (TS.alike zz6))) [] [], Col.mk (wsL (TS.l (TS.alike zz6))) [] []])))]))) ∧ (false = true → Vc True ∧ Post zz5)) ?_ (by kernel_rfl)
  intro zz12 zz1 zz2 zz3 zz4 zz5 zz6 zz7 zz8 zz9 zz10 zz11; subst zz11 zz10 zz9 zz8 zz7 zz6 zz5 zz4 zz3 zz2 zz1 zz12
  have c1 : cut a.i 0 a.i.length = a.i := cut_all _
  have c2 : cut a.k 0 a.i.length = a.k := cut_eq ha.k
  have c3 : cut a.w 0 a.i.length = a.w := cut_eq ha.w
  simp only [c1, c2, c3]
  refine ⟨⟨trivial⟩, fun _ => ⟨⟨⟨by omega, trivial⟩, trivial, trivial, ha.w, by omega⟩, fun _ => ⟨⟨trivial⟩, ⟨hG _⟩⟩, fun h => ?_⟩, fun h => ⟨⟨trivial⟩, ⟨hG _⟩⟩⟩
  obtain ⟨hl, hm⟩ := small_of (m := 60) ha.w (by simpa using h) (by decide)
  clear h
  have hS := made_ok (mo := 50) ha.k ha.w (by omega) hm a.i.length (Nat.le_refl _)
  generalize madeS 50 a.i a.k a.w a.i.length = S at hS ⊢
  obtain ⟨hS1, hS2, hS3, hS4⟩ := hS
  have few : S.alike.Few := by show S.n < 100000; omega
  have l0 : (ks S.l).length = S.l.length := List.length_map ..
  have l1 : (wsL S.l).length = S.l.length := List.length_map ..
  refine ⟨⟨⟨by omega, trivial⟩, trivial, trivial, ha.k, ha.w, by omega, hm⟩, ⟨few⟩, ?_⟩
  refine loop_atM (by kernel_rfl) (ι := Nat) (fun i => i ≤ S.l.length) [3, 5, 6, 7] (fun i => [.pointer (some ⟨1, 0, none⟩), .bool true, .slice (some ⟨2, 0, some 2000⟩) S.l.length 0, .int .i64 i])
    (fun i => [some (.inr (.inr (.inl (actsRow a)))), oT (ordS S i), some (.inr (.inl (28, ⟨[.int .i64 0, .int .i64 0], S.l.length, [⟨ks S.l, [], []⟩, ⟨wsL S.l, [], []⟩]⟩)))]) (fun i => S.l.length - i) 110 (fun i hi => ⟨rfl, rfl, by simp⟩)
    ⟨0, Nat.zero_le _, ⟨[0, 2, 4], rfl, ⟨rfl, rfl, ⟨_, rfl, .inl rfl⟩, trivial⟩, rfl, rfl, rfl, rfl⟩⟩ fun i hi => ?_
  obtain ⟨o1, o2⟩ := ordS_eq S i
  have srt : Gv.SrtE O7 S.l := S.ok.srt
  have fi : (ordS S i).Few := by show (ordS S i).n < 100000; rw [o2]; exact few
  refine At.know [(5, true)] (fun x hx => ?_) ?_
  · simp only [List.mem_cons, List.not_mem_nil, or_false] at hx
    subst hx
    rfl
  refine rxS_ok (T := TL7) [[1, 1, 1, 1, 0, 1, 0, 0, 1, 0, 0, 1, 1]] TL7_ok mixed 200 ?_
  refine as_text (q := let zz11 := Value.int IntKind.i64; let zz1 := (List.length (TS.l S)); let zz2 := (Value.pointer (some (Addr.mk 1 0 none))); let zz3 := (Value.slice (some (Addr.mk 2 0 (some 2000))) zz1 0); let zz4 := (zz11 (↑i : Int)); let zz5 := (Value.bool (Prod.snd (Gv.nthE O7 (↑i : Int) (TS.l (ordS S i))))); let zz6 := (List.getD (ks (TS.l S)) (0 + Int.toNat (↑i : Int)) (0 : Int)); let zz7 := (Gv.fndE O7 (El.mk zz6 (0 : Int)) (TS.l (TS.at_ (ordS S i) (↑i : Int)))); let zz8 := (Value.tuple (Array.mk [Value.agg (Array.mk [zz11 (El.k (Prod.fst (Gv.nthE O7 (↑i : Int) (TS.l (ordS S i))))), zz11 (El.w (Prod.fst (Gv.nthE O7 (↑i : Int) (TS.l (ordS S i)))))]), Value.bool (Prod.snd (Gv.nthE O7 (↑i : Int) (TS.l (ordS S i))))])); let zz9 := (Value.tuple (Array.mk [Value.agg (Array.mk [zz11 (El.k (Prod.fst zz7)), zz11 (El.w (Prod.fst zz7))]), Value.bool (Prod.snd zz7)])); let zz10 := (Value.pointer (some (Addr.mk 2 (0 + Int.toNat (↑i : Int)) (some 2000)))); (decide ((↑i : Int) < (↑zz1 : Int)) = true → Vc (TS.Few (ordS S i)) ∧ Vc ((0 : Int) ≤ (↑i : Int) ∧ (↑i : Int) < (↑zz1 : Int) ∧ 0 + List.length (TS.l S) ≤ List.length (TS.l S)) ∧ Vc (0 + Int.toNat (↑i : Int) < List.length (TS.l S)) ∧ Vc (TS.Few (TS.at_ (ordS S i) (↑i : Int))) ∧ At D2 Try.prog (codeOf Try.f8) 1 (retK Try.prog (Array.toList (Func.results Try.f8)) G) [Sum.inl [1, 1, 1, 1, 0, 1, 0, 0, 1, 0, 0, 1, 1], Sum.inr (Sum.inl 1), Sum.inl [1, 1, 1, 1, 0, 1, 0, 0, 1, 1], Sum.inr (Sum.inr fun σ' => ∃ j, j ≤ List.length (TS.l S) ∧ List.length (TS.l S) - j < List.length (TS.l S) - i ∧ FitsM Rt 1 110 [3, 5, 6, 7] [Value.pointer (some (Addr.mk 1 0 none)), Value.bool true, Value.slice (some (Addr.mk 2 0 (some 2000))) zz1 0, zz11 (↑j : Int)] [some (Sum.inr (Sum.inr (Sum.inl (actsRow a)))), oT (ordS S j), some (Sum.inr (Sum.inl ((28 : TypeId), Row.mk [zz11 0, zz11 0] zz1 [Col.mk (ks (TS.l S)) [] [], Col.mk (wsL (TS.l S)) [] []])))] (vals (SS.tm σ') [3, 5, 6, 7]) (SS.hp σ') (List.length (SS.tm σ'))), Sum.inr (Sum.inl 0), Sum.inl [1, 1, 1, 1, 1]] (SS.mk [none, none, none, some zz2, none, some (Value.bool true), some zz3, some zz4, some (Value.pointer (some (Addr.mk 3 0 none))), some zz5, some (Value.pointer (some (Addr.mk 4 0 none))), some (Value.bool (Prod.snd zz7)), none, none, none, none, none, none, none, none, none, none, none, none, none, none, none, none, some zz4, some zz3, some (zz11 (↑zz1 : Int)), some (Value.bool true), none, none, some zz8, some zz2, some zz4, some zz8, some (Value.agg (Array.mk [zz11 (El.k (Prod.fst (Gv.nthE O7 (↑i : Int) (TS.l (ordS S i))))), zz11 (El.w (Prod.fst (Gv.nthE O7 (↑i : Int) (TS.l (ordS S i)))))])), some zz5, some zz9, some zz2, some zz3, some zz4, some zz10, some zz10, some (zz11 zz6), some (Value.agg (Array.mk [zz11 zz6, zz11 0])), some zz9, some (Value.agg (Array.mk [zz11 (El.k (Prod.fst zz7)), zz11 (El.w (Prod.fst zz7))])), some (Value.bool (Prod.snd zz7)), none, none, none, none, none, none, none, none, none, none, none, none, none, none, none, none, none, none, none, none, none, none, none, none, none, none, none, none, none, none, none, none, none, none, none, none, none, none, none, none, none, none, none, none, none, none, none, none, none, none, none, none, none, none, none, none, none, none, none] [(31, true), (5, true)] [some (Sum.inr (Sum.inr (Sum.inl (Row.mk [zz11 0, zz11 0, zz11 0] (List.length (Acts.i a)) [Col.mk (Acts.i a) [] [], Col.mk (Acts.k a) [] [], Col.mk (Acts.w a) [] []])))), some (Sum.inr (Sum.inr (Sum.inr (Rt.tree (TS.find (TS.at_ (ordS S i) (↑i : Int)) (El.mk zz6 (0 : Int))))))), some (Sum.inr (Sum.inl (28, Row.mk [zz11 0, zz11 0] zz1 [Col.mk (ks (TS.l S)) [] [], Col.mk (wsL (TS.l S)) [] []]))), some (Sum.inl (28, [zz11 (El.k (Prod.fst (Gv.nthE O7 (↑i : Int) (TS.l (ordS S i))))), zz11 (El.w (Prod.fst (Gv.nthE O7 (↑i : Int) (TS.l (ordS S i)))))])), some (Sum.inl (28, [zz11 (El.k (Prod.fst zz7)), zz11 (El.w (Prod.fst zz7))]))])) ∧ (decide ((↑i : Int) < (↑zz1 : Int)) = false → Vc (TS.Few (ordS S i)) ∧ (((↑(List.length (TS.l (ordS S i))) : Int) == (↑zz1 : Int)) = true → Vc (TS.Few (TS.seen (ordS S i))) ∧ Post (G (Value.bool (Ti.Td.n (S7 (Gv.sub (TS.l (TS.seen (ordS S i))) 0 (Int.toNat (↑zz1 : Int)))) == (↑zz1 : Int))) [some (Sum.inr (Sum.inr (Sum.inl (Row.mk [zz11 0, zz11 0, zz11 0] (List.length (Acts.i a)) [Col.mk (Acts.i a) [] [], Col.mk (Acts.k a) [] [], Col.mk (Acts.w a) [] []])))), some (Sum.inr (Sum.inr (Sum.inr (Rt.tree (TS.bet (TS.seen (ordS S i)) (0 : Int) (↑zz1 : Int)))))), some (Sum.inr (Sum.inl (28, Row.mk [zz11 0, zz11 0] zz1 [Col.mk (ks (TS.l S)) [] [], Col.mk (wsL (TS.l S)) [] []])))])) ∧ (((↑(List.length (TS.l (ordS S i))) : Int) == (↑zz1 : Int)) = false → Post (G (Value.bool false) [some (Sum.inr (Sum.inr (Sum.inl (Row.mk [zz11 0, zz11 0, zz11 0] (List.length (Acts.i a)) [Col.mk (Acts.i a) [] [], Col.mk (Acts.k a) [] [], Col.mk (Acts.w a) [] []])))), some (Sum.inr (Sum.inr (Sum.inr (Rt.tree (TS.seen (ordS S i)))))), some (Sum.inr (Sum.inl (28, Row.mk [zz11 0, zz11 0] zz1 [Col.mk (ks (TS.l S)) [] [], Col.mk (wsL (TS.l S)) [] []])))])))) ?_ (by kernel_rfl)
  intro zz11 zz1 zz2 zz3 zz4 zz5 zz6 zz7 zz8 zz9 zz10; subst zz10 zz9 zz8 zz7 zz6 zz5 zz4 zz3 zz2 zz1 zz11
  have e0 : 0 + (i : Int).toNat = i := by omega
  simp only [e0, o1]
  refine ⟨fun h => ?_, fun h => ?_⟩
  · have hlt : i < S.l.length := by have := of_decide_eq_true h; omega
    clear h
    have o3 : ((ordS S i).at_ (i : Int)).l = S.l := o1
    have q1 := nth_in hlt
    have q2 := fnd_in (w := 0) srt hlt
    simp only [o3, q1, q2]
    refine ⟨⟨fi⟩, ⟨⟨by omega, by omega, by omega⟩⟩, ⟨hlt⟩, ⟨fi⟩, ?_⟩
    have hz : ordS S (i + 1) = (((ordS S i).at_ (i : Int)).find ⟨(ks S.l).getD i 0, 0⟩).rank ⟨(ks S.l).getD i 0, (wsL S.l).getD i 0⟩ := rfl
    have z1 : (((ordS S i).at_ (i : Int)).find ⟨(ks S.l).getD i 0, 0⟩).l = S.l := o1
    have z2 : (((ordS S i).at_ (i : Int)).find ⟨(ks S.l).getD i 0, 0⟩).Few := fi
    generalize (((ordS S i).at_ (i : Int)).find ⟨(ks S.l).getD i 0, 0⟩) = Z at hz z1 z2 ⊢
    refine At.fit [3, 5, 6, 7, 8, 9, 10, 11] [.pointer (some ⟨1, 0, none⟩), .bool true, .slice (some ⟨2, 0, some 2000⟩) S.l.length 0, .int .i64 i, .pointer (some ⟨3, 0, none⟩), .bool true, .pointer (some ⟨4, 0, none⟩), .bool true]
      [some (.inr (.inr (.inl (actsRow a)))), oT Z, some (.inr (.inl (28, ⟨[.int .i64 0, .int .i64 0], S.l.length, [⟨ks S.l, [], []⟩, ⟨wsL S.l, [], []⟩]⟩))), some (.inl (28, [.int .i64 ((ks S.l).getD i 0), .int .i64 ((wsL S.l).getD i 0)])), some (.inl (28, [.int .i64 ((ks S.l).getD i 0), .int .i64 ((wsL S.l).getD i 0)]))] 110 ⟨rfl, rfl, by simp⟩
      ⟨[0, 1, 2, 3, 4], rfl, ⟨rfl, rfl, ⟨_, rfl, .inl rfl⟩, .inl rfl, .inl rfl, trivial⟩, rfl, rfl, rfl, rfl⟩ ?_
    refine At.know [(5, true), (9, true), (11, true)] (fun x hx => ?_) ?_
    · simp only [List.mem_cons, List.not_mem_nil, or_false] at hx
      rcases hx with rfl | rfl | rfl <;> rfl
    refine rx_ok (T := TL7) TL7_ok mixed 200 ?_
    refine as_text (q := let zz12 := Value.pointer (some (Addr.mk 1 0 none)); let zz13 := Value.int IntKind.i64; let zz1 := (0 : Int); let zz2 := (List.length (TS.l S)); let zz3 := (ks (TS.l S)); let zz4 := (List.getD (wsL (TS.l S)) i zz1 == List.getD (wsL (TS.l S)) (0 + Int.toNat (↑i : Int)) zz1 && true); let zz5 := (if true = true then !(List.getD zz3 i zz1 == List.getD zz3 (0 + Int.toNat (↑i : Int)) zz1 && zz4) else List.getD zz3 i zz1 == List.getD zz3 (0 + Int.toNat (↑i : Int)) zz1 && zz4); let zz6 := (Value.bool zz5 = Value.bool false); let zz7 := (List.getD (wsL (TS.l S)) i zz1 == List.getD (wsL (TS.l S)) i zz1 && true); let zz8 := (if true = true then !(List.getD zz3 i zz1 == List.getD zz3 i zz1 && zz7) else List.getD zz3 i zz1 == List.getD zz3 i zz1 && zz7); let zz9 := (Value.bool zz8 = Value.bool false); let zz10 := (Value.bool ((↑(rk (TS.l Z) (List.getD zz3 i zz1)) : Int) != (↑i : Int)) = Value.bool false); let zz11 := (List.getD zz3 (0 + Int.toNat ((↑i : Int) - (1 : Int))) zz1 ≥ List.getD zz3 i zz1); Vc (zz1 ≤ (↑i : Int) ∧ (↑i : Int) < (↑zz2 : Int) ∧ 0 + List.length (TS.l S) ≤ List.length (TS.l S)) ∧ Vc (0 + Int.toNat (↑i : Int) < List.length (TS.l S)) ∧ (zz5 = true → Vc (zz1 ≤ (↑i : Int) ∧ (↑i : Int) < (↑zz2 : Int) ∧ 0 + List.length (TS.l S) ≤ List.length (TS.l S)) ∧ Vc (0 + Int.toNat (↑i : Int) < List.length (TS.l S)) ∧ Vc (Value.bool zz5 = Value.bool true) ∧ Post (G (Value.bool false) [some (Sum.inr (Sum.inr (Sum.inl (Row.mk [zz13 0, zz13 0, zz13 0] (List.length (Acts.i a)) [Col.mk (Acts.i a) [] [], Col.mk (Acts.k a) [] [], Col.mk (Acts.w a) [] []])))), some (Sum.inr (Sum.inr (Sum.inr (Rt.tree Z)))), some (Sum.inr (Sum.inl (28, Row.mk [zz13 0, zz13 0] zz2 [Col.mk zz3 [] [], Col.mk (wsL (TS.l S)) [] []]))), some (Sum.inl (28, [zz13 (List.getD zz3 i zz1), zz13 (List.getD (wsL (TS.l S)) i zz1)])), some (Sum.inl (28, [zz13 (List.getD zz3 i zz1), zz13 (List.getD (wsL (TS.l S)) i zz1)]))])) ∧ (zz5 = false → Vc (zz1 ≤ (↑i : Int) ∧ (↑i : Int) < (↑zz2 : Int) ∧ 0 + List.length (TS.l S) ≤ List.length (TS.l S)) ∧ Vc (0 + Int.toNat (↑i : Int) < List.length (TS.l S)) ∧ Vc zz6 ∧ (zz8 = true → Vc (zz1 ≤ (↑i : Int) ∧ (↑i : Int) < (↑zz2 : Int) ∧ 0 + List.length (TS.l S) ≤ List.length (TS.l S)) ∧ Vc (0 + Int.toNat (↑i : Int) < List.length (TS.l S)) ∧ Vc zz6 ∧ Vc (Value.bool zz8 = Value.bool true) ∧ Post (G (Value.bool false) [some (Sum.inr (Sum.inr (Sum.inl (Row.mk [zz13 0, zz13 0, zz13 0] (List.length (Acts.i a)) [Col.mk (Acts.i a) [] [], Col.mk (Acts.k a) [] [], Col.mk (Acts.w a) [] []])))), some (Sum.inr (Sum.inr (Sum.inr (Rt.tree Z)))), some (Sum.inr (Sum.inl (28, Row.mk [zz13 0, zz13 0] zz2 [Col.mk zz3 [] [], Col.mk (wsL (TS.l S)) [] []]))), some (Sum.inl (28, [zz13 (List.getD zz3 i zz1), zz13 (List.getD (wsL (TS.l S)) i zz1)])), some (Sum.inl (28, [zz13 (List.getD zz3 i zz1), zz13 (List.getD (wsL (TS.l S)) i zz1)]))])) ∧ (zz8 = false → Vc (zz1 ≤ (↑i : Int) ∧ (↑i : Int) < (↑zz2 : Int) ∧ 0 + List.length (TS.l S) ≤ List.length (TS.l S)) ∧ Vc (0 + Int.toNat (↑i : Int) < List.length (TS.l S)) ∧ Vc zz6 ∧ Vc zz9 ∧ Vc (TS.Few Z) ∧ (((↑(rk (TS.l Z) (List.getD zz3 i zz1)) : Int) != (↑i : Int)) = true → Vc (zz1 ≤ (↑i : Int) ∧ (↑i : Int) < (↑zz2 : Int) ∧ 0 + List.length (TS.l S) ≤ List.length (TS.l S)) ∧ Vc (0 + Int.toNat (↑i : Int) < List.length (TS.l S)) ∧ Vc zz6 ∧ Vc zz9 ∧ Vc (TS.Few Z) ∧ Vc (Value.bool ((↑(rk (TS.l Z) (List.getD zz3 i zz1)) : Int) != (↑i : Int)) = Value.bool true) ∧ Post (G (Value.bool false) [some (Sum.inr (Sum.inr (Sum.inl (Row.mk [zz13 0, zz13 0, zz13 0] (List.length (Acts.i a)) [Col.mk (Acts.i a) [] [], Col.mk (Acts.k a) [] [], Col.mk (Acts.w a) [] []])))), some (Sum.inr (Sum.inr (Sum.inr (Rt.tree (TS.rank Z (El.mk (List.getD zz3 i zz1) (List.getD (wsL (TS.l S)) i zz1))))))), some (Sum.inr (Sum.inl (28, Row.mk [zz13 0, zz13 0] zz2 [Col.mk zz3 [] [], Col.mk (wsL (TS.l S)) [] []]))), some (Sum.inl (28, [zz13 (List.getD zz3 i zz1), zz13 (List.getD (wsL (TS.l S)) i zz1)])), some (Sum.inl (28, [zz13 (List.getD zz3 i zz1), zz13 (List.getD (wsL (TS.l S)) i zz1)]))])) ∧ (((↑(rk (TS.l Z) (List.getD zz3 i zz1)) : Int) != (↑i : Int)) = false → Vc (zz1 ≤ (↑i : Int) ∧ (↑i : Int) < (↑zz2 : Int) ∧ 0 + List.length (TS.l S) ≤ List.length (TS.l S)) ∧ Vc (0 + Int.toNat (↑i : Int) < List.length (TS.l S)) ∧ Vc zz6 ∧ Vc zz9 ∧ Vc (TS.Few Z) ∧ Vc zz10 ∧ (decide ((↑i : Int) > zz1) = true → Vc (zz1 ≤ (↑i : Int) ∧ (↑i : Int) < (↑zz2 : Int) ∧ 0 + List.length (TS.l S) ≤ List.length (TS.l S)) ∧ Vc (0 + Int.toNat (↑i : Int) < List.length (TS.l S)) ∧ Vc zz6 ∧ Vc zz9 ∧ Vc (TS.Few Z) ∧ Vc zz10 ∧ Vc (Value.bool (decide ((↑i : Int) > zz1)) = Value.bool true) ∧ Vc (fits ((↑i : Int) - (1 : Int))) ∧ Vc (zz1 ≤ (↑i : Int) - (1 : Int) ∧ (↑i : Int) - (1 : Int) < (↑zz2 : Int) ∧ 0 + List.length (TS.l S) ≤ List.length (TS.l S)) ∧ Vc (0 + Int.toNat ((↑i : Int) - (1 : Int)) < List.length (TS.l S)) ∧ (decide zz11 = true → Post (G (Value.bool false) [some (Sum.inr (Sum.inr (Sum.inl (Row.mk [zz13 0, zz13 0, zz13 0] (List.length (Acts.i a)) [Col.mk (Acts.i a) [] [], Col.mk (Acts.k a) [] [], Col.mk (Acts.w a) [] []])))), some (Sum.inr (Sum.inr (Sum.inr (Rt.tree (TS.rank Z (El.mk (List.getD zz3 i zz1) (List.getD (wsL (TS.l S)) i zz1))))))), some (Sum.inr (Sum.inl (28, Row.mk [zz13 0, zz13 0] zz2 [Col.mk zz3 [] [], Col.mk (wsL (TS.l S)) [] []]))), some (Sum.inl (28, [zz13 (List.getD zz3 i zz1), zz13 (List.getD (wsL (TS.l S)) i zz1)])), some (Sum.inl (28, [zz13 (List.getD zz3 i zz1), zz13 (List.getD (wsL (TS.l S)) i zz1)]))])) ∧ (decide zz11 = false → Vc (fits ((↑i : Int) + (1 : Int))) ∧ Post (∃ j, j ≤ List.length (TS.l S) ∧ List.length (TS.l S) - j < List.length (TS.l S) - i ∧ FitsM Rt 1 110 [3, 5, 6, 7] [zz12, Value.bool true, Value.slice (some (Addr.mk 2 0 (some 2000))) zz2 0, zz13 (↑j : Int)] [some (Sum.inr (Sum.inr (Sum.inl (actsRow a)))), oT (ordS S j), some (Sum.inr (Sum.inl ((28 : TypeId), Row.mk [zz13 0, zz13 0] zz2 [Col.mk zz3 [] [], Col.mk (wsL (TS.l S)) [] []])))] [some (zz12), some (Value.bool true), some (Value.slice (some (Addr.mk 2 0 (some 2000))) zz2 0), some (zz13 ((↑i : Int) + (1 : Int)))] [some (Sum.inr (Sum.inr (Sum.inl (Row.mk [zz13 0, zz13 0, zz13 0] (List.length (Acts.i a)) [Col.mk (Acts.i a) [] [], Col.mk (Acts.k a) [] [], Col.mk (Acts.w a) [] []])))), some (Sum.inr (Sum.inr (Sum.inr (Rt.tree (TS.rank Z (El.mk (List.getD zz3 i zz1) (List.getD (wsL (TS.l S)) i zz1))))))), some (Sum.inr (Sum.inl (28, Row.mk [zz13 0, zz13 0] zz2 [Col.mk zz3 [] [], Col.mk (wsL (TS.l S)) [] []]))), some (Sum.inl (28, [zz13 (List.getD zz3 i zz1), zz13 (List.getD (wsL (TS.l S)) i zz1)])), some (Sum.inl (28, [zz13 (List.getD zz3 i zz1), zz13 (List.getD (wsL (TS.l S)) i zz1)]))] 110))) ∧ (decide ((↑i : Int) > zz1) = false → Vc (zz1 ≤ (↑i : Int) ∧ (↑i : Int) < (↑zz2 : Int) ∧ 0 + List.length (TS.l S) ≤ List.length (TS.l S)) ∧ Vc (0 + Int.toNat (↑i : Int) < List.length (TS.l S)) ∧ Vc zz6 ∧ Vc zz9 ∧ Vc (TS.Few Z) ∧ Vc zz10 ∧ Vc (Value.bool (decide ((↑i : Int) > zz1)) = Value.bool false) ∧ Vc (fits ((↑i : Int) + (1 : Int))) ∧ Post (∃ j, j ≤ List.length (TS.l S) ∧ List.length (TS.l S) - j < List.length (TS.l S) - i ∧ FitsM Rt 1 110 [3, 5, 6, 7] [zz12, Value.bool true, Value.slice (some (Addr.mk 2 0 (some 2000))) zz2 0, zz13 (↑j : Int)] [some (Sum.inr (Sum.inr (Sum.inl (actsRow a)))), oT (ordS S j), some (Sum.inr (Sum.inl ((28 : TypeId), Row.mk [zz13 0, zz13 0] zz2 [Col.mk zz3 [] [], Col.mk (wsL (TS.l S)) [] []])))] [some (zz12), some (Value.bool true), some (Value.slice (some (Addr.mk 2 0 (some 2000))) zz2 0), some (zz13 ((↑i : Int) + (1 : Int)))] [some (Sum.inr (Sum.inr (Sum.inl (Row.mk [zz13 0, zz13 0, zz13 0] (List.length (Acts.i a)) [Col.mk (Acts.i a) [] [], Col.mk (Acts.k a) [] [], Col.mk (Acts.w a) [] []])))), some (Sum.inr (Sum.inr (Sum.inr (Rt.tree (TS.rank Z (El.mk (List.getD zz3 i zz1) (List.getD (wsL (TS.l S)) i zz1))))))), some (Sum.inr (Sum.inl (28, Row.mk [zz13 0, zz13 0] zz2 [Col.mk zz3 [] [], Col.mk (wsL (TS.l S)) [] []]))), some (Sum.inl (28, [zz13 (List.getD zz3 i zz1), zz13 (List.getD (wsL (TS.l S)) i zz1)])), some (Sum.inl (28, [zz13 (List.getD zz3 i zz1), zz13 (List.getD (wsL (TS.l S)) i zz1)]))] 110)))))) ?_ (by kernel_rfl)
    intro zz12 zz13 zz1 zz2 zz3 zz4 zz5 zz6 zz7 zz8 zz9 zz10 zz11; subst zz11 zz10 zz9 zz8 zz7 zz6 zz5 zz4 zz3 zz2 zz1 zz13 zz12
    have hr : rk Z.l ((ks S.l).getD i 0) = i := by rw [z1]; exact rk_srt srt hlt
    have hs : 0 < i → (ks S.l).getD (i - 1) 0 < (ks S.l).getD i 0 := fun h0 => by
      have := srt_next srt (i := i - 1) (by omega)
      rwa [show i - 1 + 1 = i by omega] at this
    have e1 : 0 + ((i : Int) - 1).toNat = i - 1 := by omega
    have fin : ∃ j, j ≤ S.l.length ∧ S.l.length - j < S.l.length - i ∧ FitsM Rt 1 110 [3, 5, 6, 7] [.pointer (some ⟨1, 0, none⟩), .bool true, .slice (some ⟨2, 0, some 2000⟩) S.l.length 0, .int .i64 j]
        [some (.inr (.inr (.inl (actsRow a)))), oT (ordS S j), some (.inr (.inl (28, ⟨[.int .i64 0, .int .i64 0], S.l.length, [⟨ks S.l, [], []⟩, ⟨wsL S.l, [], []⟩]⟩)))]
        [some (.pointer (some ⟨1, 0, none⟩)), some (.bool true), some (.slice (some ⟨2, 0, some 2000⟩) S.l.length 0), some (.int .i64 ((i : Int) + 1))]
        [some (.inr (.inr (.inl (actsRow a)))), oT (Z.rank ⟨(ks S.l).getD i 0, (wsL S.l).getD i 0⟩), some (.inr (.inl (28, ⟨[.int .i64 0, .int .i64 0], S.l.length, [⟨ks S.l, [], []⟩, ⟨wsL S.l, [], []⟩]⟩))), some (.inl (28, [.int .i64 ((ks S.l).getD i 0), .int .i64 ((wsL S.l).getD i 0)])), some (.inl (28, [.int .i64 ((ks S.l).getD i 0), .int .i64 ((wsL S.l).getD i 0)]))] 110 := by
      rw [← hz]
      exact ⟨i + 1, hlt, by omega, ⟨[0, 1, 2], rfl, ⟨rfl, rfl, ⟨_, rfl, .inl rfl⟩, trivial⟩, rfl, rfl, rfl, rfl⟩⟩
    simp only [e0, e1, hr, beq_self_eq_true, Bool.and_self, Bool.not_true, if_true, bne_self_eq_false, Bool.false_eq_true, false_implies, and_true, true_and, forall_const, reduceCtorEq, true_implies]
    repeat' (first | apply And.intro | apply Vc.mk | apply fits.mk | intro h | apply Post.mk)
    all_goals (try simp only [decide_eq_true_eq, decide_eq_false_iff_not, Nat.zero_add, ge_iff_le, Int.not_le, Int.not_lt, Int.toNat_natCast, beq_iff_eq, beq_eq_false_iff_ne, bne_iff_ne, bne_eq_false_iff_eq, Bool.not_eq_true', Bool.not_eq_false'] at *)
    all_goals first | contradiction | omega | (apply congrArg Value.bool; assumption) | exact congrArg Value.bool (decide_eq_true (by assumption)) | exact congrArg Value.bool (decide_eq_false (Int.not_lt.mpr (by assumption))) | exact ⟨rfl, by omega⟩ | exact rfl | (simp [*, -List.getD_eq_getElem?_getD]; done) | skip
    all_goals first | exact z2 | exact fin | (have := hs (by omega); omega) | skip
    trace_state
  · have hie : i = S.l.length := by have := of_decide_eq_false h; omega
    have f2 : (ordS S i).seen.Few := fi
    have g1 : (S7 (Gv.sub (ordS S i).seen.l 0 (S.l.length : Int).toNat)).n = (S.l.length : Int) := by
      show ((wsL (Gv.sub (ordS S i).l 0 (S.l.length : Int).toNat)).length : Int) = _
      rw [o1, List.length_map, Int.toNat_natCast]
      unfold Gv.sub
      simp
    simp only [g1, beq_self_eq_true]
    exact ⟨⟨fi⟩, fun _ => ⟨⟨f2⟩, ⟨hG _⟩⟩, fun h => by cases h⟩
end Go.Proofs.Ytclagkjjgmeifaa.G7


/- grove: the law GroveOrder, called. -/
namespace Go.Proofs.Ytclagkjjgmeifaa.G7
open Go.RowKit Go.Proofs.Ytclagkjjgmeifaa.Rx
set_option linter.unusedVariables false
set_option linter.unusedSimpArgs false
set_option maxRecDepth 100000
theorem ord_law {p : Rx.Place} {r : Row} {W : World} (hr : r.tm = [.int .i64 0, .int .i64 0, .int .i64 0]) (hw : wfCols [.int .i64 0, .int .i64 0, .int .i64 0] r.cols r.n) (hv : ViewOk W p r) :
    Calls Try.prog 8 #[ren (viewsE [(p, r)]) (.slice (some ⟨0, 0, some 3000⟩) r.n 0)] W fun e W' => e = .returned (.bool true) ∧ Below W.heap.size W W' := by
  obtain ⟨tm, n, cols⟩ := r
  simp only at hr
  subst hr
  match cols, hw with
  | [c1, c2, c3], hw =>
    obtain ⟨⟨h1, l1, _⟩, ⟨h2, l2, _⟩, ⟨h3, l3, _⟩, _⟩ := hw
    have e : (⟨[.int .i64 0, .int .i64 0, .int .i64 0], n, [c1, c2, c3]⟩ : Row) = actsRow ⟨c1.i, c2.i, c3.i⟩ := by
      simp only at l1
      rw [actsRow, l1, ← h1, ← h2, ← h3]
    rw [e] at hv ⊢
    have := law_calls (D := D2) (fn := Try.f8) (root := codeOf Try.f8) (args := [.slice (some ⟨0, 0, some 3000⟩) c1.i.length 0]) [(p, actsRow ⟨c1.i, c2.i, c3.i⟩)] Try.func8 (by kernel_rfl) (by simpa using hv) rfl
      (ord_run (a := ⟨c1.i, c2.i, c3.i⟩) ⟨by simp only at *; omega, by simp only at *; omega⟩ fun _ => rfl)
    simpa [actsRow] using this
end Go.Proofs.Ytclagkjjgmeifaa.G7


