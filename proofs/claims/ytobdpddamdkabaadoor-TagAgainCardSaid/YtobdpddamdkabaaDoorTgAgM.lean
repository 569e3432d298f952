/- tag: what a table tells, a table can be made of. -/
import Derived.Test.YtobdpddamdkabaaDoorTgSt
import Derived.Test.YtobdpddamdkabaaDoorTgMk5
import Derived.Test.YtobdpddamdkabaaDoorTgAlk
import Derived.Test.YtobdpddamdkabaaDoorRxV
import Derived.Test.YtobdpddamdkabaaDoorRxQ
import Derived.Test.YtobdpddamdkabaaDoorTgOnceL
import Derived.Test.YtobdpddamdkabaaDoorRxC
namespace Go.Proofs.YtobdpddamdkabaaDoor.Tg
open Go.Proofs.YtobdpddamdkabaaDoor.Rx
set_option linter.unusedVariables false
set_option linter.unusedSimpArgs false
/-- of slots that were ever used the last one was; a deletion has no key -/
structure Xt (m : Md) : Prop where
  e : endB m.la = false
  k : ∀ y ∈ m.l, y.ins = true ∨ y.key = 0
theorem end_no {la : List Int} (h : la.length = 0 ∨ la.getD (la.length - 1) 0 ≠ 0) : endB la = false := by
  unfold endB
  rcases h with h | h
  · rw [decide_eq_false (by omega)]; rfl
  · rw [decide_eq_false h, Bool.and_false]
theorem end_of {la : List Int} (h : endB la = false) (h0 : 0 < la.length) : la.getD (la.length - 1) 0 ≠ 0 := fun e => by
  unfold endB at h
  rw [decide_eq_true h0, decide_eq_true e] at h; cases h
theorem las_nn {m : Md} (h : MOk m) (k : Nat) : 0 ≤ m.la.getD k 0 := by
  rcases Nat.lt_or_ge k m.la.length with hk | hk
  · exact (h.las _ (Rx.getD_mem hk)).1
  · rw [List.getD_eq_getElem?_getD, List.getElem?_eq_none hk]; exact Int.le_refl _
theorem Xt.new {m : Md} (h : Xt m) (hm : MOk m) (tm : Int) (ins : Bool) (key : Int) : Xt (newM m tm ins key) where
  e := by
    refine end_no (.inr ?_)
    show (laN m).getD ((laN m).length - 1) 0 ≠ 0
    have h1 := laG_len m
    have h2 := las_nn hm ((laN m).length - 1)
    rw [laN_get]
    rw [laN_len] at *
    by_cases hs : slotN m = (laG m).length - 1
    · rw [if_pos hs]; omega
    · rw [if_neg hs]
      have e : laG m = m.la := by
        unfold laG
        by_cases hh : slotN m < m.la.length
        · rw [if_pos hh]
        · exfalso
          have e2 : (laG m).length = m.la.length + 1 := by unfold laG; rw [if_neg hh, List.length_append]; rfl
          have := slotN_le m
          omega
      rw [e] at hs h1 ⊢
      exact end_of h.e (by omega)
  k y hy := by
    rcases mem_addL.1 hy with rfl | hy
    · show ins = true ∨ (if ins = true then key else 0) = 0
      cases ins
      · exact .inr (if_neg (by simp))
      · exact .inl rfl
    · exact h.k y hy
theorem do_x (kd : Int) {t : TT} {x : Ls} (h : Xt t.m) (hx : LsOk x) (hq : t.m.la.length < 64) : Xt (doT kd t x).m := by
  unfold doT
  split
  · rw [issue_m t _ _ hx.tm hq]
    unfold issM
    split
    · exact h.new t.ok _ _ _
    · exact h
  · split
    · rw [drop_m]
      unfold dropM
      split
      · exact ⟨h.e, fun y hy => h.k y (mem_erase hy)⟩
      · exact h
    · split
      · rw [revive_m t hx.tm]
        unfold revM
        split
        · rename_i hr
          have hb := (revE_0.1 hr).2.2.2
          unfold beM at hb
          simp only [Bool.and_eq_true, Bool.or_eq_true, decide_eq_true_eq] at hb
          refine ⟨h.e, fun y hy => ?_⟩
          rcases mem_addL.1 hy with rfl | hy
          · exact hb.2
          · exact h.k y hy
        · exact h
      · rw [move_m t hx.tm]
        unfold movM2
        split
        · rename_i hr
          have hg := of_get (mov_free hr).1
          refine ⟨h.e, fun y hy => ?_⟩
          rcases mem_addL.1 hy with rfl | hy
          · have q := h.k _ hg.1; exact q
          · exact h.k y (mem_erase hy)
        · exact h
theorem pw_take {R : Ls → Ls → Prop} {l : List Ls} (h : l.Pairwise R) {i : Nat} (hi : i < l.length) : ∀ y ∈ l.take i, R y (l.getD i ls0) := by
  have e := List.take_append_drop i l
  rw [← e] at h
  obtain ⟨_, _, h3⟩ := List.pairwise_append.1 h
  refine fun y hy => h3 y hy _ ?_
  rw [getD_at hi]
  exact List.mem_drop_iff_getElem.2 ⟨0, by omega, by simp⟩
theorem right_tt (t : TT) (h : Xt t.m) : rightB t.m = true := by
  have hm := t.ok
  have hc : capB t.m = true := by
    have h1 := hm.cap0; have h2 := hm.cap1; have h3 := hm.ser0
    unfold capB; rw [decide_eq_true h1, decide_eq_true h2, decide_eq_true h3]; rfl
  have hl : lasB t.m.la = true := by
    unfold lasB
    rw [h.e, allI_iff.2 fun i hi => by
      have := hm.las _ (Rx.getD_mem (d := 0) hi)
      unfold gOk; rw [decide_eq_true this.1, decide_eq_true this.2]; rfl]; rfl
  unfold rightB
  rw [hc, hl, decide_eq_true hm.len, allI_iff.2 fun i hi => ?_]; · rfl
  have hx : t.m.l.getD i ls0 ∈ t.m.l := Rx.getD_mem hi
  obtain ⟨e1, e2, e3, e4, e5, e6, e7⟩ := hm.each _ hx
  have s1 : slotB (t.m.l.take i) (t.m.l.getD i ls0).ix = false := slotB_no.2 (pw_take hm.ix hi)
  have s2 : idB (t.m.l.take i) (t.m.l.getD i ls0).id = false := idB_no.2 (pw_take hm.id hi)
  have s3 : (decide (i = 0) || decide ((t.m.l.getD (i - 1) ls0).tm < (t.m.l.getD i ls0).tm)) = true := by
    rcases Nat.eq_zero_or_pos i with h0 | h0
    · rw [decide_eq_true h0]; rfl
    · rw [decide_eq_true (pw_take hm.srt hi _ (ahead_mem hi h0)), Bool.or_true]
  have s4 : ((t.m.l.getD i ls0).ins || decide ((t.m.l.getD i ls0).key = 0)) = true := by
    rcases h.k _ hx with q | q
    · rw [q]; rfl
    · rw [decide_eq_true q, Bool.or_true]
  unfold goodB haveM beM
  show (_ && (_ && _ && !slotB (t.m.l.take i) _ && _ && decide (_ ≤ t.m.la.getD _ 0)) && (_ && decide (_ < t.m.ser) && !idB (t.m.l.take i) _ && _)) = true
  rw [s1, s2, s3, s4, decide_eq_true e1, decide_eq_true (show (t.m.l.getD i ls0).ix < (upM t.m i).la.length from e2), decide_eq_true e3, decide_eq_true e4, decide_eq_true e5, decide_eq_true e6]; rfl
/-- where a law's loop stands, after so many acts already -/
structure StD.Ok2 (n b : Nat) (s : StD) : Prop where
  i : s.i ≤ n
  la : s.t.m.la.length ≤ b + s.i
  ser : s.t.m.ser ≤ ((b + s.i : Nat) : Int)
  few : s.told.length ≤ b + s.i
  told : ∀ y ∈ s.told, LsOk y
  x : Xt s.t.m
theorem StD.Ok2.start (n : Nat) (c : Int) : StD.Ok2 n 0 ⟨0, newT c, []⟩ := ⟨Nat.zero_le _, Nat.le_refl _, Int.le_refl _, Nat.le_refl _, (fun y hy => by cases hy), ⟨rfl, fun y hy => by cases hy⟩⟩
theorem StD.Ok2.next {a : Acts} {b : Nat} {s : StD} (h : s.Ok2 a.k.length b) (ha : a.Ok) (hi : s.i < a.k.length) (hn : b + a.k.length ≤ 50) : StD.Ok2 a.k.length b ⟨s.i + 1, nT a s, nL a s⟩ := by
  obtain ⟨h1, h2, h3, h4, h5, h6⟩ := h
  unfold nT nL
  rw [Nat.zero_add, Int.toNat_natCast, aX_is, uL_rowL]
  have hq := xO_ok (kd := restI (a.k.getD s.i 0) 4) (pl := a.pl.getD s.i 0) (td := a.t.getD s.i false) (ha.x s.i) h5
  have g1 := do_len (restI (a.k.getD s.i 0) 4) s.t hq (by omega)
  have g2 := doL_len (restI (a.k.getD s.i 0) 4) s.t (xO (restI (a.k.getD s.i 0) 4) (a.pl.getD s.i 0) (a.t.getD s.i false) (a.x s.i) s.told) s.told
  exact ⟨hi, by show (doT _ _ _).m.la.length ≤ b + (s.i + 1); omega, by show (doT _ _ _).m.ser ≤ ((b + (s.i + 1) : Nat) : Int); omega, by show (doL _ _ _ _).length ≤ b + (s.i + 1); omega, doL_ok _ _ hq (by omega) (by omega) h5, do_x _ h6 hq (by omega)⟩
end Go.Proofs.YtobdpddamdkabaaDoor.Tg
namespace Go.Proofs.YtobdpddamdkabaaDoor.Tg
open Go.Proofs.YtobdpddamdkabaaDoor.Rx
set_option linter.unusedVariables false
set_option linter.unusedSimpArgs false
set_option maxRecDepth 100000
def z23 : Nat → Bool := fun j => Nat.beq j 2 || Nat.beq j 3
def TAg : Tab Rs := [(8, liftC zN 2 (con1 awkP)), (9, liftC zN 2 (con1 newP)), (11, liftC zN 2 (con1 do_P)), (25, liftC zN 2 (con1 capP)), (22, liftC zN 2 (con1 serialP)), (26, liftC zN 2 (con1 tlastsP)), (27, liftC zN 2 (con1 tlistP)), (23, liftV z23 2 makeC), (12, liftC zN 2 (con1 alkP))]
theorem TAg_ok : TabOk D Tryd.prog TAg := ⟨liftC_ok _ _ awk_ok, liftC_ok _ _ new_ok, liftC_ok _ _ do__ok, liftC_ok _ _ cap_ok, liftC_ok _ _ serial_ok, liftC_ok _ _ tlasts_ok, liftC_ok _ _ tlist_ok, liftV_ok _ _ make_ok, liftC_ok _ _ alk_ok, trivial⟩
def agV (a b : Acts) (s : StD) : List Value := [.slice (some ⟨0, 0, some 9000⟩) a.k.length 0, .slice (some ⟨1, 0, some 9000⟩) b.k.length 0, .pointer (some ⟨2, 0, none⟩), .pointer (some ⟨3, 0, none⟩), .slice (some ⟨4, 0, some 6000⟩) s.told.length 0, .int .i64 s.i]
def agW (b : Acts) (s : StD) : List Value := [.slice (some ⟨1, 0, some 9000⟩) b.k.length 0, .pointer (some ⟨3, 0, none⟩), .slice (some ⟨4, 0, some 6000⟩) s.told.length 0, .pointer (some ⟨2, 0, none⟩), .int .i64 s.i]
def agH (a b : Acts) (s : StD) : Hp Rs := [some (.inr (.inr (.inl (actsRow a)))), some (.inr (.inr (.inl (actsRow b)))), some (.inr (.inr (.inr (.tab s.t)))), refC s.t.m 5 6, lC s.told, laC s.t.m, lC s.t.m.l]
set_option maxHeartbeats 4000000 in
theorem again_in {G : Value → Hp Rs → Prop} {a b : Acts} (hb : b.Ok) (hn2 : b.k.length ≤ 20) (hG : ∀ hp, G (.bool true) hp) {u : TT} {told : List Ls} (hu : StD.Ok2 b.k.length 30 ⟨0, u, told⟩) :
    At D Tryd.prog (codeOf Tryd.f6) 2 (retK Tryd.prog Tryd.f6.results.toList G) [.inl [1, 1, 1, 1, 1, 1, 1, 1, 0], .inl [1, 1, 1, 1, 1, 1, 1, 1, 1]] ⟨frame [1, 6, 7, 10] [.slice (some ⟨1, 0, some 9000⟩) b.k.length 0, .pointer (some ⟨3, 0, none⟩), .slice (some ⟨4, 0, some 6000⟩) told.length 0, .pointer (some ⟨2, 0, none⟩)] 0 92, [], agH a b ⟨0, u, told⟩⟩ := by
  refine rx_okQ (T := TAg) TAg_ok mixed 200 (q := let zz1 := Value.int IntKind.i64; At D Tryd.prog (codeOf Tryd.f6) 2 (retK Tryd.prog (Array.toList (Func.results Tryd.f6)) G) [Sum.inl [1, 1, 1, 1, 1, 1, 1, 1, 0, 1, 0], Sum.inr (Sum.inl 2), Sum.inl [1, 1, 1, 1, 1, 1, 1, 1, 1]] (SS.mk [none, some (Value.slice (some (Addr.mk 1 0 (some 9000))) (List.length (Acts.k b)) 0), none, none, none, none, some (Value.pointer (some (Addr.mk 3 0 none))), some (Value.slice (some (Addr.mk 4 0 (some 6000))) (List.length told) 0), none, none, some (Value.pointer (some (Addr.mk 2 0 none))), none, some (zz1 0), none, none, none, none, none, none, none, none, none, none, none, none, none, none, none, none, none, none, none, none, none, none, none, none, none, none, none, none, none, none, none, none, none, none, none, none, none, none, none, none, none, none, none, none, none, none, none, none, none, none, none, none, none, none, none, none, none, none, none, none, none, none, none, none, none, none, none, none, none, none, none, none, none, none, none, none, none, none, none] [] [some (Sum.inr (Sum.inr (Sum.inl (Row.mk [zz1 0, zz1 0, Value.bool false, zz1 0, zz1 0, zz1 0, Value.bool false, zz1 0, zz1 0] (List.length (Acts.k a)) [Col.mk (Acts.k a) [] [], Col.mk (Acts.pl a) [] [], Col.mk [] (Acts.t a) [], Col.mk (Acts.ix a) [] [], Col.mk (Acts.gn a) [] [], Col.mk (Acts.tm a) [] [], Col.mk [] (Acts.ins a) [], Col.mk (Acts.key a) [] [], Col.mk (Acts.id a) [] []])))), some (Sum.inr (Sum.inr (Sum.inl (Row.mk [zz1 0, zz1 0, Value.bool false, zz1 0, zz1 0, zz1 0, Value.bool false, zz1 0, zz1 0] (List.length (Acts.k b)) [Col.mk (Acts.k b) [] [], Col.mk (Acts.pl b) [] [], Col.mk [] (Acts.t b) [], Col.mk (Acts.ix b) [] [], Col.mk (Acts.gn b) [] [], Col.mk (Acts.tm b) [] [], Col.mk [] (Acts.ins b) [], Col.mk (Acts.key b) [] [], Col.mk (Acts.id b) [] []])))), some (Sum.inr (Sum.inr (Sum.inr (Rs.tab u)))), some (Sum.inl (31, [zz1 (Md.cap (TT.m u)), zz1 (Md.ser (TT.m u)), Value.slice (some (Addr.mk 5 0 (some 1000))) (List.length (Md.la (TT.m u))) 0, Value.slice (some (Addr.mk 6 0 (some 6000))) (List.length (Md.l (TT.m u))) 0])), some (Sum.inr (Sum.inl (41, rowL told))), some (Sum.inr (Sum.inl (3, Row.mk [zz1 0] (List.length (Md.la (TT.m u))) [Col.mk (Md.la (TT.m u)) [] []]))), some (Sum.inr (Sum.inl (41, rowL (Md.l (TT.m u)))))])) ?_ (by kernel_rfl)
  intro zz1; subst zz1
  refine loop_atM (by kernel_rfl) (ι := StD) (StD.Ok2 b.k.length 30) [1, 6, 7, 10, 12] (agW b) (agH a b) (fun s => b.k.length - s.i) 92 (fun s hs => ⟨rfl, rfl, Nat.le_of_ble_eq_true rfl⟩) ⟨⟨0, u, told⟩, hu, ⟨[0, 1, 2, 3, 4, 5, 6], rfl, ⟨rfl, rfl, rfl, .inl rfl, ⟨_, rfl, .inl rfl⟩, ⟨_, rfl, .inl rfl⟩, ⟨_, rfl, .inl rfl⟩, trivial⟩, rfl, rfl, rfl, rfl⟩⟩ fun s hs => ?_
  refine rx_okQ (T := TAg) TAg_ok mixed 200 (q := let zz4 := Value.int IntKind.i64; let zz1 := (List.length (Acts.k b)); let zz2 := (TT.m (StD.t s)); let zz3 := (TT.m (nT b s)); (decide ((↑(StD.i s) : Int) < (↑zz1 : Int)) = true → Vc ((0 : Int) ≤ (↑(StD.i s) : Int) ∧ (↑(StD.i s) : Int) < (↑zz1 : Int) ∧ 0 + List.length (Acts.k b) ≤ List.length (Acts.k b)) ∧ Vc (0 + Int.toNat (↑(StD.i s) : Int) < List.length (Acts.k b)) ∧ Vc ((Md.cap zz2 = Md.cap zz2 ∧ Md.ser zz2 = Md.ser zz2 ∧ Md.la zz2 = Md.la zz2 ∧ rowL (Md.l zz2) = rowL (Md.l zz2) ∧ List.length (Md.la zz2) = List.length (Md.la zz2) ∧ List.length (Md.l zz2) = List.length (Md.l zz2) ∧ List.length (Md.la zz2) = List.length (Md.la zz2)) ∧ (rowL (StD.told s) = rowL (uL (rowL (StD.told s))) ∧ List.length (StD.told s) = List.length (uL (rowL (StD.told s))) ∧ List.length (uL (rowL (StD.told s))) < 1000 ∧ ∀ (y : Ls), y ∈ uL (rowL (StD.told s)) → LsOk y) ∧ LsOk (aX b (StD.i s)) ∧ List.length (Md.la zz2) < 64 ∧ Md.ser zz2 < (1000000 : Int)) ∧ (false = false → Vc (Md.cap zz3 = Md.cap zz3 ∧ Md.ser zz3 = Md.ser zz3 ∧ Md.la zz3 = Md.la zz3 ∧ rowL (Md.l zz3) = rowL (Md.l zz3) ∧ List.length (Md.la zz3) = List.length (Md.la zz3) ∧ List.length (Md.l zz3) = List.length (Md.l zz3) ∧ List.length (Md.la zz3) = List.length (Md.la zz3)) ∧ (false = true → Post (G (Value.bool false) [some (Sum.inr (Sum.inr (Sum.inl (Row.mk [zz4 0, zz4 0, Value.bool false, zz4 0, zz4 0, zz4 0, Value.bool false, zz4 0, zz4 0] (List.length (Acts.k a)) [Col.mk (Acts.k a) [] [], Col.mk (Acts.pl a) [] [], Col.mk [] (Acts.t a) [], Col.mk (Acts.ix a) [] [], Col.mk (Acts.gn a) [] [], Col.mk (Acts.tm a) [] [], Col.mk [] (Acts.ins a) [], Col.mk (Acts.key a) [] [], Col.mk (Acts.id a) [] []])))), some (Sum.inr (Sum.inr (Sum.inl (Row.mk [zz4 0, zz4 0, Value.bool false, zz4 0, zz4 0, zz4 0, Value.bool false, zz4 0, zz4 0] zz1 [Col.mk (Acts.k b) [] [], Col.mk (Acts.pl b) [] [], Col.mk [] (Acts.t b) [], Col.mk (Acts.ix b) [] [], Col.mk (Acts.gn b) [] [], Col.mk (Acts.tm b) [] [], Col.mk [] (Acts.ins b) [], Col.mk (Acts.key b) [] [], Col.mk (Acts.id b) [] []])))), some (Sum.inr (Sum.inr (Sum.inr (Rs.tab (nT b s))))), some (Sum.inl (31, [zz4 (Md.cap zz3), zz4 (Md.ser zz3), Value.slice (some (Addr.mk 7 0 (some 1000))) (List.length (Md.la zz3)) 0, Value.slice (some (Addr.mk 8 0 (some 6000))) (List.length (Md.l zz3)) 0])), none, none, none, some (Sum.inr (Sum.inl (3, Row.mk [zz4 0] (List.length (Md.la zz3)) [Col.mk (Md.la zz3) [] []]))), some (Sum.inr (Sum.inl (41, rowL (Md.l zz3)))), some (Sum.inr (Sum.inl (41, rowL (nL b s))))])) ∧ (false = false → Vc (fits ((↑(StD.i s) : Int) + (1 : Int))) ∧ Post (∃ j, StD.Ok2 zz1 30 j ∧ List.length (Acts.k b) - StD.i j < List.length (Acts.k b) - StD.i s ∧ FitsM Rs 2 92 [1, 6, 7, 10, 12] (agW b j) (agH a b j) [some (Value.slice (some (Addr.mk 1 0 (some 9000))) zz1 0), some (Value.pointer (some (Addr.mk 3 0 none))), some (Value.slice (some (Addr.mk 9 0 (some 6000))) (List.length (nL b s)) 0), some (Value.pointer (some (Addr.mk 2 0 none))), some (zz4 ((↑(StD.i s) : Int) + (1 : Int)))] [some (Sum.inr (Sum.inr (Sum.inl (Row.mk [zz4 0, zz4 0, Value.bool false, zz4 0, zz4 0, zz4 0, Value.bool false, zz4 0, zz4 0] (List.length (Acts.k a)) [Col.mk (Acts.k a) [] [], Col.mk (Acts.pl a) [] [], Col.mk [] (Acts.t a) [], Col.mk (Acts.ix a) [] [], Col.mk (Acts.gn a) [] [], Col.mk (Acts.tm a) [] [], Col.mk [] (Acts.ins a) [], Col.mk (Acts.key a) [] [], Col.mk (Acts.id a) [] []])))), some (Sum.inr (Sum.inr (Sum.inl (Row.mk [zz4 0, zz4 0, Value.bool false, zz4 0, zz4 0, zz4 0, Value.bool false, zz4 0, zz4 0] zz1 [Col.mk (Acts.k b) [] [], Col.mk (Acts.pl b) [] [], Col.mk [] (Acts.t b) [], Col.mk (Acts.ix b) [] [], Col.mk (Acts.gn b) [] [], Col.mk (Acts.tm b) [] [], Col.mk [] (Acts.ins b) [], Col.mk (Acts.key b) [] [], Col.mk (Acts.id b) [] []])))), some (Sum.inr (Sum.inr (Sum.inr (Rs.tab (nT b s))))), some (Sum.inl (31, [zz4 (Md.cap zz3), zz4 (Md.ser zz3), Value.slice (some (Addr.mk 7 0 (some 1000))) (List.length (Md.la zz3)) 0, Value.slice (some (Addr.mk 8 0 (some 6000))) (List.length (Md.l zz3)) 0])), none, none, none, some (Sum.inr (Sum.inl (3, Row.mk [zz4 0] (List.length (Md.la zz3)) [Col.mk (Md.la zz3) [] []]))), some (Sum.inr (Sum.inl (41, rowL (Md.l zz3)))), some (Sum.inr (Sum.inl (41, rowL (nL b s))))] 92))) ∧ (false = true → Post (G (Value.bool false) [some (Sum.inr (Sum.inr (Sum.inl (Row.mk [zz4 0, zz4 0, Value.bool false, zz4 0, zz4 0, zz4 0, Value.bool false, zz4 0, zz4 0] (List.length (Acts.k a)) [Col.mk (Acts.k a) [] [], Col.mk (Acts.pl a) [] [], Col.mk [] (Acts.t a) [], Col.mk (Acts.ix a) [] [], Col.mk (Acts.gn a) [] [], Col.mk (Acts.tm a) [] [], Col.mk [] (Acts.ins a) [], Col.mk (Acts.key a) [] [], Col.mk (Acts.id a) [] []])))), some (Sum.inr (Sum.inr (Sum.inl (Row.mk [zz4 0, zz4 0, Value.bool false, zz4 0, zz4 0, zz4 0, Value.bool false, zz4 0, zz4 0] zz1 [Col.mk (Acts.k b) [] [], Col.mk (Acts.pl b) [] [], Col.mk [] (Acts.t b) [], Col.mk (Acts.ix b) [] [], Col.mk (Acts.gn b) [] [], Col.mk (Acts.tm b) [] [], Col.mk [] (Acts.ins b) [], Col.mk (Acts.key b) [] [], Col.mk (Acts.id b) [] []])))), some (Sum.inr (Sum.inr (Sum.inr (Rs.tab (nT b s))))), some (Sum.inl (31, [zz4 (Md.cap zz3), zz4 (Md.ser zz3), Value.slice (some (Addr.mk 7 0 (some 1000))) (List.length (Md.la zz3)) 0, Value.slice (some (Addr.mk 8 0 (some 6000))) (List.length (Md.l zz3)) 0])), none, none, none, some (Sum.inr (Sum.inl (3, Row.mk [zz4 0] (List.length (Md.la zz3)) [Col.mk (Md.la zz3) [] []]))), some (Sum.inr (Sum.inl (41, rowL (Md.l zz3)))), some (Sum.inr (Sum.inl (41, rowL (nL b s))))]))) ∧ (decide ((↑(StD.i s) : Int) < (↑zz1 : Int)) = false → Post (G (Value.bool true) [some (Sum.inr (Sum.inr (Sum.inl (Row.mk [zz4 0, zz4 0, Value.bool false, zz4 0, zz4 0, zz4 0, Value.bool false, zz4 0, zz4 0] (List.length (Acts.k a)) [Col.mk (Acts.k a) [] [], Col.mk (Acts.pl a) [] [], Col.mk [] (Acts.t a) [], Col.mk (Acts.ix a) [] [], Col.mk (Acts.gn a) [] [], Col.mk (Acts.tm a) [] [], Col.mk [] (Acts.ins a) [], Col.mk (Acts.key a) [] [], Col.mk (Acts.id a) [] []])))), some (Sum.inr (Sum.inr (Sum.inl (Row.mk [zz4 0, zz4 0, Value.bool false, zz4 0, zz4 0, zz4 0, Value.bool false, zz4 0, zz4 0] zz1 [Col.mk (Acts.k b) [] [], Col.mk (Acts.pl b) [] [], Col.mk [] (Acts.t b) [], Col.mk (Acts.ix b) [] [], Col.mk (Acts.gn b) [] [], Col.mk (Acts.tm b) [] [], Col.mk [] (Acts.ins b) [], Col.mk (Acts.key b) [] [], Col.mk (Acts.id b) [] []])))), some (Sum.inr (Sum.inr (Sum.inr (Rs.tab (StD.t s))))), some (Sum.inl (31, [zz4 (Md.cap zz2), zz4 (Md.ser zz2), Value.slice (some (Addr.mk 5 0 (some 1000))) (List.length (Md.la zz2)) 0, Value.slice (some (Addr.mk 6 0 (some 6000))) (List.length (Md.l zz2)) 0])), some (Sum.inr (Sum.inl (41, rowL (StD.told s)))), some (Sum.inr (Sum.inl (3, Row.mk [zz4 0] (List.length (Md.la zz2)) [Col.mk (Md.la zz2) [] []]))), some (Sum.inr (Sum.inl (41, rowL (Md.l zz2))))]))) ?_ (by kernel_rfl)
  intro zz4 zz1 zz2 zz3; subst zz3 zz2 zz1 zz4
  simp only [rLx_all, uL_rowL, cmL, euL, Nat.zero_add, Int.toNat_natCast]
  have hok := s.t.ok
  have s0 := s.t.ok.ser0
  have hx := hb.x s.i
  have o2 := hs.la; have o3 := hs.ser; have o4 := hs.few; have o5 := hs.told; have o6 := hs.x
  refine ⟨fun h => ?_, fun h => ⟨hG _⟩⟩
  have hi : s.i < b.k.length := by simp at h; omega
  clear h
  have hq := hs.next hb hi (by omega)
  refine ⟨⟨by omega, by omega, by omega⟩, ⟨hi⟩, ⟨by first | (simp only [and_self]; done) | (simp only [and_self, true_and, and_true]; rfl), ⟨by first | trivial | rfl, by first | trivial | rfl, by omega, o5⟩, by first | (rw [aX_is]; exact hx) | exact ⟨hx.ix, hx.tm, hx.id⟩, by omega, by omega⟩, (fun _ => ⟨⟨by first | (simp only [and_self]; done) | (simp only [and_self, true_and, and_true]; rfl)⟩, (fun h => by cases h), fun _ => ⟨⟨by omega, by omega⟩, ?_⟩⟩), fun h => by cases h⟩
  exact ⟨⟨s.i + 1, nT b s, nL b s⟩, hq, by show b.k.length - (s.i + 1) < _; omega, ⟨[0, 1, 2, 3, 9, 7, 8], rfl, ⟨rfl, rfl, rfl, .inl rfl, ⟨_, rfl, .inl rfl⟩, ⟨_, rfl, .inl rfl⟩, ⟨_, rfl, .inl rfl⟩, trivial⟩, rfl, rfl, rfl, rfl⟩⟩
set_option maxHeartbeats 4000000 in
theorem again_run {G : Value → Hp Rs → Prop} {a b : Acts} (ha : a.Ok) (hb : b.Ok) (hG : ∀ hp, G (.bool true) hp) :
    At D Tryd.prog (codeOf Tryd.f6) 2 (retK Tryd.prog Tryd.f6.results.toList G) [.inl []] ⟨someL [.slice (some ⟨0, 0, some 9000⟩) a.k.length 0, .slice (some ⟨1, 0, some 9000⟩) b.k.length 0] ++ List.replicate (Tryd.f6.ntmps - 2) none, [], [some (.inr (.inr (.inl (actsRow a)))), some (.inr (.inr (.inl (actsRow b))))]⟩ := by
  refine rx_okQ (T := TAg) TAg_ok mixed 200 (q := let zz4 := Value.int IntKind.i64; let zz1 := (Value.slice (some (Addr.mk 0 0 (some 9000))) (List.length (Acts.k a)) 0); let zz2 := (Value.slice (some (Addr.mk 1 0 (some 9000))) (List.length (Acts.k b)) 0); let zz3 := (Value.bool (decide ((↑(List.length (Acts.k a)) : Int) > (30 : Int)))); Vc True ∧ (false = false → (decide ((↑(List.length (Acts.k a)) : Int) > (30 : Int)) = false → (decide ((↑(List.length (Acts.k b)) : Int) > (20 : Int)) = true → Vc True ∧ Post (G (Value.bool true) [some (Sum.inr (Sum.inr (Sum.inl (Row.mk [zz4 0, zz4 0, Value.bool false, zz4 0, zz4 0, zz4 0, Value.bool false, zz4 0, zz4 0] (List.length (Acts.k a)) [Col.mk (Acts.k a) [] [], Col.mk (Acts.pl a) [] [], Col.mk [] (Acts.t a) [], Col.mk (Acts.ix a) [] [], Col.mk (Acts.gn a) [] [], Col.mk (Acts.tm a) [] [], Col.mk [] (Acts.ins a) [], Col.mk (Acts.key a) [] [], Col.mk (Acts.id a) [] []])))), some (Sum.inr (Sum.inr (Sum.inl (Row.mk [zz4 0, zz4 0, Value.bool false, zz4 0, zz4 0, zz4 0, Value.bool false, zz4 0, zz4 0] (List.length (Acts.k b)) [Col.mk (Acts.k b) [] [], Col.mk (Acts.pl b) [] [], Col.mk [] (Acts.t b) [], Col.mk (Acts.ix b) [] [], Col.mk (Acts.gn b) [] [], Col.mk (Acts.tm b) [] [], Col.mk [] (Acts.ins b) [], Col.mk (Acts.key b) [] [], Col.mk (Acts.id b) [] []]))))])) ∧ (decide ((↑(List.length (Acts.k b)) : Int) > (20 : Int)) = false → Vc True ∧ At D Tryd.prog (codeOf Tryd.f6) 2 (retK Tryd.prog (Array.toList (Func.results Tryd.f6)) G) [Sum.inl [1, 1, 1, 1, 1, 0, 1, 0], Sum.inr (Sum.inl 0), Sum.inl [1, 1, 1, 1, 1, 1]] (SS.mk [some zz1, some zz2, none, none, some (Value.bool false), some (Value.pointer (some (Addr.mk 2 0 none))), some (Value.pointer (some (Addr.mk 3 0 none))), some (Value.slice (some (Addr.mk 4 0 (some 6000))) 0 0), some (zz4 0), none, none, none, none, none, some (Value.bool true), some (Value.bool false), some (Value.bool false), some zz1, some (zz4 (↑(List.length (Acts.k a)) : Int)), some zz3, some zz3, some (Value.bool false), some zz2, some (zz4 (↑(List.length (Acts.k b)) : Int)), some (Value.bool (decide ((↑(List.length (Acts.k b)) : Int) > (20 : Int)))), some (Value.bool false), none, some (Value.pointer (some (Addr.mk 2 0 none))), some (Value.agg (Array.mk [zz4 20, zz4 0, Value.slice none 0 0, Value.slice none 0 0])), some (Value.pointer (some (Addr.mk 3 0 none))), none, none, none, none, none, none, none, none, none, none, none, none, none, none, none, none, none, none, none, none, none, none, none, none, none, none, none, none, none, none, none, none, none, none, none, none, none, none, none, none, none, none, none, none, none, none, none, none, none, none, none, none, none, none, none, none, none, none, none, none, none, none] [(25, false), (21, false), (16, false), (4, false)] [some (Sum.inr (Sum.inr (Sum.inl (Row.mk [zz4 0, zz4 0, Value.bool false, zz4 0, zz4 0, zz4 0, Value.bool false, zz4 0, zz4 0] (List.length (Acts.k a)) [Col.mk (Acts.k a) [] [], Col.mk (Acts.pl a) [] [], Col.mk [] (Acts.t a) [], Col.mk (Acts.ix a) [] [], Col.mk (Acts.gn a) [] [], Col.mk (Acts.tm a) [] [], Col.mk [] (Acts.ins a) [], Col.mk (Acts.key a) [] [], Col.mk (Acts.id a) [] []])))), some (Sum.inr (Sum.inr (Sum.inl (Row.mk [zz4 0, zz4 0, Value.bool false, zz4 0, zz4 0, zz4 0, Value.bool false, zz4 0, zz4 0] (List.length (Acts.k b)) [Col.mk (Acts.k b) [] [], Col.mk (Acts.pl b) [] [], Col.mk [] (Acts.t b) [], Col.mk (Acts.ix b) [] [], Col.mk (Acts.gn b) [] [], Col.mk (Acts.tm b) [] [], Col.mk [] (Acts.ins b) [], Col.mk (Acts.key b) [] [], Col.mk (Acts.id b) [] []])))), some (Sum.inr (Sum.inr (Sum.inr (Rs.tab (newT (20 : Int)))))), some (Sum.inl (31, [zz4 20, zz4 0, Value.slice none 0 0, Value.slice none 0 0])), some (Sum.inr (Sum.inl (41, Row.mk [zz4 0, zz4 0, zz4 0, Value.bool false, zz4 0, zz4 0] 0 [Col.mk [] [] [], Col.mk [] [] [], Col.mk [] [] [], Col.mk [] [] [], Col.mk [] [] [], Col.mk [] [] []])))]))) ∧ (decide ((↑(List.length (Acts.k a)) : Int) > (30 : Int)) = true → Vc True ∧ Post (G (Value.bool true) [some (Sum.inr (Sum.inr (Sum.inl (Row.mk [zz4 0, zz4 0, Value.bool false, zz4 0, zz4 0, zz4 0, Value.bool false, zz4 0, zz4 0] (List.length (Acts.k a)) [Col.mk (Acts.k a) [] [], Col.mk (Acts.pl a) [] [], Col.mk [] (Acts.t a) [], Col.mk (Acts.ix a) [] [], Col.mk (Acts.gn a) [] [], Col.mk (Acts.tm a) [] [], Col.mk [] (Acts.ins a) [], Col.mk (Acts.key a) [] [], Col.mk (Acts.id a) [] []])))), some (Sum.inr (Sum.inr (Sum.inl (Row.mk [zz4 0, zz4 0, Value.bool false, zz4 0, zz4 0, zz4 0, Value.bool false, zz4 0, zz4 0] (List.length (Acts.k b)) [Col.mk (Acts.k b) [] [], Col.mk (Acts.pl b) [] [], Col.mk [] (Acts.t b) [], Col.mk (Acts.ix b) [] [], Col.mk (Acts.gn b) [] [], Col.mk (Acts.tm b) [] [], Col.mk [] (Acts.ins b) [], Col.mk (Acts.key b) [] [], Col.mk (Acts.id b) [] []]))))]))) ∧ (false = true → Vc True ∧ Post (G (Value.bool true) [some (Sum.inr (Sum.inr (Sum.inl (Row.mk [zz4 0, zz4 0, Value.bool false, zz4 0, zz4 0, zz4 0, Value.bool false, zz4 0, zz4 0] (List.length (Acts.k a)) [Col.mk (Acts.k a) [] [], Col.mk (Acts.pl a) [] [], Col.mk [] (Acts.t a) [], Col.mk (Acts.ix a) [] [], Col.mk (Acts.gn a) [] [], Col.mk (Acts.tm a) [] [], Col.mk [] (Acts.ins a) [], Col.mk (Acts.key a) [] [], Col.mk (Acts.id a) [] []])))), some (Sum.inr (Sum.inr (Sum.inl (Row.mk [zz4 0, zz4 0, Value.bool false, zz4 0, zz4 0, zz4 0, Value.bool false, zz4 0, zz4 0] (List.length (Acts.k b)) [Col.mk (Acts.k b) [] [], Col.mk (Acts.pl b) [] [], Col.mk [] (Acts.t b) [], Col.mk (Acts.ix b) [] [], Col.mk (Acts.gn b) [] [], Col.mk (Acts.tm b) [] [], Col.mk [] (Acts.ins b) [], Col.mk (Acts.key b) [] [], Col.mk (Acts.id b) [] []]))))]))) ?_ (by kernel_rfl)
  intro zz4 zz1 zz2 zz3; subst zz3 zz2 zz1 zz4
  refine ⟨⟨trivial⟩, fun _ => ⟨fun h => ⟨fun h2 => ⟨⟨trivial⟩, ⟨hG _⟩⟩, fun h2 => ⟨⟨trivial⟩, ?_⟩⟩, fun h => ⟨⟨trivial⟩, ⟨hG _⟩⟩⟩, fun h => by cases h⟩
  have hn : a.k.length ≤ 30 := by simp at h; omega
  have hn2 : b.k.length ≤ 20 := by simp at h2; omega
  clear h h2
  refine loop_atM (by kernel_rfl) (ι := StD) (StD.Ok2 a.k.length 0) [0, 1, 5, 6, 7, 8] (agV a b) (agH a b) (fun s => a.k.length - s.i) 92 (fun s hs => ⟨rfl, rfl, Nat.le_of_ble_eq_true rfl⟩) ⟨⟨0, newT 20, []⟩, StD.Ok2.start _ 20, ⟨[0, 1, 2, 3, 4, 9, 9], rfl, ⟨rfl, rfl, rfl, .inl rfl, ⟨_, rfl, .inl rfl⟩, ⟨rfl, Nat.zero_lt_succ _, rfl⟩, ⟨rfl, Nat.zero_lt_succ _, rfl⟩, trivial⟩, rfl, rfl, rfl, rfl⟩⟩ fun s hs => ?_
  refine rxK_okQ (T := TAg) [([1, 1, 1, 1, 1, 1, 0], [1, 5, 6, 7])] TAg_ok mixed 200 (q := let zz4 := Value.int IntKind.i64; let zz1 := (List.length (Acts.k a)); let zz2 := (TT.m (StD.t s)); let zz3 := (Value.slice (some (Addr.mk 1 0 (some 9000))) (List.length (Acts.k b)) 0); (decide ((↑(StD.i s) : Int) < (↑zz1 : Int)) = true → Vc ((0 : Int) ≤ (↑(StD.i s) : Int) ∧ (↑(StD.i s) : Int) < (↑zz1 : Int) ∧ 0 + List.length (Acts.k a) ≤ List.length (Acts.k a)) ∧ Vc (0 + Int.toNat (↑(StD.i s) : Int) < List.length (Acts.k a)) ∧ Vc ((Md.cap zz2 = Md.cap zz2 ∧ Md.ser zz2 = Md.ser zz2 ∧ Md.la zz2 = Md.la zz2 ∧ rowL (Md.l zz2) = rowL (Md.l zz2) ∧ List.length (Md.la zz2) = List.length (Md.la zz2) ∧ List.length (Md.l zz2) = List.length (Md.l zz2) ∧ List.length (Md.la zz2) = List.length (Md.la zz2)) ∧ (rowL (StD.told s) = rowL (uL (rowL (StD.told s))) ∧ List.length (StD.told s) = List.length (uL (rowL (StD.told s))) ∧ List.length (uL (rowL (StD.told s))) < 1000 ∧ ∀ (y : Ls), y ∈ uL (rowL (StD.told s)) → LsOk y) ∧ LsOk (aX a (StD.i s)) ∧ List.length (Md.la zz2) < 64 ∧ Md.ser zz2 < (1000000 : Int)) ∧ (false = true → Post (G (Value.bool false) [some (Sum.inr (Sum.inr (Sum.inl (Row.mk [zz4 0, zz4 0, Value.bool false, zz4 0, zz4 0, zz4 0, Value.bool false, zz4 0, zz4 0] zz1 [Col.mk (Acts.k a) [] [], Col.mk (Acts.pl a) [] [], Col.mk [] (Acts.t a) [], Col.mk (Acts.ix a) [] [], Col.mk (Acts.gn a) [] [], Col.mk (Acts.tm a) [] [], Col.mk [] (Acts.ins a) [], Col.mk (Acts.key a) [] [], Col.mk (Acts.id a) [] []])))), some (Sum.inr (Sum.inr (Sum.inl (Row.mk [zz4 0, zz4 0, Value.bool false, zz4 0, zz4 0, zz4 0, Value.bool false, zz4 0, zz4 0] (List.length (Acts.k b)) [Col.mk (Acts.k b) [] [], Col.mk (Acts.pl b) [] [], Col.mk [] (Acts.t b) [], Col.mk (Acts.ix b) [] [], Col.mk (Acts.gn b) [] [], Col.mk (Acts.tm b) [] [], Col.mk [] (Acts.ins b) [], Col.mk (Acts.key b) [] [], Col.mk (Acts.id b) [] []])))), some (Sum.inr (Sum.inr (Sum.inr (Rs.tab (nT a s))))), some (Sum.inl (31, [zz4 (Md.cap (TT.m (nT a s))), zz4 (Md.ser (TT.m (nT a s))), Value.slice (some (Addr.mk 7 0 (some 1000))) (List.length (Md.la (TT.m (nT a s)))) 0, Value.slice (some (Addr.mk 8 0 (some 6000))) (List.length (Md.l (TT.m (nT a s)))) 0])), none, none, none, some (Sum.inr (Sum.inl (3, Row.mk [zz4 0] (List.length (Md.la (TT.m (nT a s)))) [Col.mk (Md.la (TT.m (nT a s))) [] []]))), some (Sum.inr (Sum.inl (41, rowL (Md.l (TT.m (nT a s)))))), some (Sum.inr (Sum.inl (41, rowL (nL a s))))])) ∧ (false = false → Vc (fits ((↑(StD.i s) : Int) + (1 : Int))) ∧ Post (∃ j, StD.Ok2 zz1 0 j ∧ List.length (Acts.k a) - StD.i j < List.length (Acts.k a) - StD.i s ∧ FitsM Rs 2 92 [0, 1, 5, 6, 7, 8] (agV a b j) (agH a b j) [some (Value.slice (some (Addr.mk 0 0 (some 9000))) zz1 0), some zz3, some (Value.pointer (some (Addr.mk 2 0 none))), some (Value.pointer (some (Addr.mk 3 0 none))), some (Value.slice (some (Addr.mk 9 0 (some 6000))) (List.length (nL a s)) 0), some (zz4 ((↑(StD.i s) : Int) + (1 : Int)))] [some (Sum.inr (Sum.inr (Sum.inl (Row.mk [zz4 0, zz4 0, Value.bool false, zz4 0, zz4 0, zz4 0, Value.bool false, zz4 0, zz4 0] zz1 [Col.mk (Acts.k a) [] [], Col.mk (Acts.pl a) [] [], Col.mk [] (Acts.t a) [], Col.mk (Acts.ix a) [] [], Col.mk (Acts.gn a) [] [], Col.mk (Acts.tm a) [] [], Col.mk [] (Acts.ins a) [], Col.mk (Acts.key a) [] [], Col.mk (Acts.id a) [] []])))), some (Sum.inr (Sum.inr (Sum.inl (Row.mk [zz4 0, zz4 0, Value.bool false, zz4 0, zz4 0, zz4 0, Value.bool false, zz4 0, zz4 0] (List.length (Acts.k b)) [Col.mk (Acts.k b) [] [], Col.mk (Acts.pl b) [] [], Col.mk [] (Acts.t b) [], Col.mk (Acts.ix b) [] [], Col.mk (Acts.gn b) [] [], Col.mk (Acts.tm b) [] [], Col.mk [] (Acts.ins b) [], Col.mk (Acts.key b) [] [], Col.mk (Acts.id b) [] []])))), some (Sum.inr (Sum.inr (Sum.inr (Rs.tab (nT a s))))), some (Sum.inl (31, [zz4 (Md.cap (TT.m (nT a s))), zz4 (Md.ser (TT.m (nT a s))), Value.slice (some (Addr.mk 7 0 (some 1000))) (List.length (Md.la (TT.m (nT a s)))) 0, Value.slice (some (Addr.mk 8 0 (some 6000))) (List.length (Md.l (TT.m (nT a s)))) 0])), none, none, none, some (Sum.inr (Sum.inl (3, Row.mk [zz4 0] (List.length (Md.la (TT.m (nT a s)))) [Col.mk (Md.la (TT.m (nT a s))) [] []]))), some (Sum.inr (Sum.inl (41, rowL (Md.l (TT.m (nT a s)))))), some (Sum.inr (Sum.inl (41, rowL (nL a s))))] 92))) ∧ (decide ((↑(StD.i s) : Int) < (↑zz1 : Int)) = false → At D Tryd.prog (codeOf Tryd.f6) 2 (retK Tryd.prog (Array.toList (Func.results Tryd.f6)) G) [Sum.inl [1, 1, 1, 1, 1, 1, 0], Sum.inl [1, 1, 1, 1, 1, 1, 1]] (SS.mk [none, some zz3, none, none, none, some (Value.pointer (some (Addr.mk 2 0 none))), some (Value.pointer (some (Addr.mk 3 0 none))), some (Value.slice (some (Addr.mk 4 0 (some 6000))) (List.length (StD.told s)) 0), none, none, none, none, none, none, none, none, none, none, none, none, none, none, none, none, none, none, none, none, none, none, none, none, none, none, none, none, none, none, none, none, none, none, none, none, none, none, none, none, none, none, none, none, none, none, none, none, none, none, none, none, none, none, none, none, none, none, none, none, none, none, none, none, none, none, none, none, none, none, none, none, none, none, none, none, none, none, none, none, none, none, none, none] [] [some (Sum.inr (Sum.inr (Sum.inl (Row.mk [zz4 0, zz4 0, Value.bool false, zz4 0, zz4 0, zz4 0, Value.bool false, zz4 0, zz4 0] zz1 [Col.mk (Acts.k a) [] [], Col.mk (Acts.pl a) [] [], Col.mk [] (Acts.t a) [], Col.mk (Acts.ix a) [] [], Col.mk (Acts.gn a) [] [], Col.mk (Acts.tm a) [] [], Col.mk [] (Acts.ins a) [], Col.mk (Acts.key a) [] [], Col.mk (Acts.id a) [] []])))), some (Sum.inr (Sum.inr (Sum.inl (Row.mk [zz4 0, zz4 0, Value.bool false, zz4 0, zz4 0, zz4 0, Value.bool false, zz4 0, zz4 0] (List.length (Acts.k b)) [Col.mk (Acts.k b) [] [], Col.mk (Acts.pl b) [] [], Col.mk [] (Acts.t b) [], Col.mk (Acts.ix b) [] [], Col.mk (Acts.gn b) [] [], Col.mk (Acts.tm b) [] [], Col.mk [] (Acts.ins b) [], Col.mk (Acts.key b) [] [], Col.mk (Acts.id b) [] []])))), some (Sum.inr (Sum.inr (Sum.inr (Rs.tab (StD.t s))))), some (Sum.inl (31, [zz4 (Md.cap zz2), zz4 (Md.ser zz2), Value.slice (some (Addr.mk 5 0 (some 1000))) (List.length (Md.la zz2)) 0, Value.slice (some (Addr.mk 6 0 (some 6000))) (List.length (Md.l zz2)) 0])), some (Sum.inr (Sum.inl (41, rowL (StD.told s)))), some (Sum.inr (Sum.inl (3, Row.mk [zz4 0] (List.length (Md.la zz2)) [Col.mk (Md.la zz2) [] []]))), some (Sum.inr (Sum.inl (41, rowL (Md.l zz2))))]))) ?_ (by kernel_rfl)
  intro zz4 zz1 zz2 zz3; subst zz3 zz2 zz1 zz4
  simp only [rLx_all, uL_rowL, cmL, euL, Nat.zero_add, Int.toNat_natCast]
  have hok := s.t.ok
  have s0 := s.t.ok.ser0
  have hx := ha.x s.i
  have o2 := hs.la; have o3 := hs.ser; have o4 := hs.few; have o5 := hs.told; have o6 := hs.x
  refine ⟨fun h => ?_, fun h => ?_⟩
  · have hi : s.i < a.k.length := by simp at h; omega
    clear h
    have hq := hs.next ha hi (by omega)
    refine ⟨⟨by omega, by omega, by omega⟩, ⟨by omega⟩, ⟨by first | (simp only [and_self]; done) | (simp only [and_self, true_and, and_true]; rfl), ⟨by first | trivial | rfl, by first | trivial | rfl, by omega, o5⟩, by first | (rw [aX_is]; exact hx) | exact ⟨hx.ix, hx.tm, hx.id⟩, by omega, by omega⟩, (fun h => by cases h), fun _ => ⟨⟨by omega, by omega⟩, ?_⟩⟩
    exact ⟨⟨s.i + 1, nT a s, nL a s⟩, hq, by show a.k.length - (s.i + 1) < _; omega, ⟨[0, 1, 2, 3, 9, 7, 8], rfl, ⟨rfl, rfl, rfl, .inl rfl, ⟨_, rfl, .inl rfl⟩, ⟨_, rfl, .inl rfl⟩, ⟨_, rfl, .inl rfl⟩, trivial⟩, rfl, rfl, rfl, rfl⟩⟩
  clear h
  refine At.fit [1, 5, 6, 7] [.slice (some ⟨1, 0, some 9000⟩) b.k.length 0, .pointer (some ⟨2, 0, none⟩), .pointer (some ⟨3, 0, none⟩), .slice (some ⟨4, 0, some 6000⟩) s.told.length 0] (agH a b s) 92 ⟨rfl, rfl, Nat.le_of_ble_eq_true rfl⟩ ⟨[0, 1, 2, 3, 4, 5, 6], rfl, ⟨rfl, rfl, rfl, .inl rfl, ⟨_, rfl, .inl rfl⟩, ⟨_, rfl, .inl rfl⟩, ⟨_, rfl, .inl rfl⟩, trivial⟩, rfl, rfl, rfl, rfl⟩ ?_
  refine rxK_okQ (T := TAg) [([1, 1, 1, 1, 1, 1, 1, 1, 0], [1, 6, 7, 10])] TAg_ok mixed 200 (q := let zz6 := Value.int IntKind.i64; let zz1 := (Md.la (TT.m (StD.t s))); let zz2 := (cut zz1 0 (List.length zz1)); let zz3 := (Md.l (TT.m (StD.t s))); let zz4 := (List.length zz3); let zz5 := (Md.mk (Md.cap (TT.m (StD.t s))) (Md.ser (TT.m (StD.t s))) zz2 (uL (rLx zz3 0 zz4))); Vc True ∧ Vc True ∧ Vc True ∧ Vc True ∧ (rightB zz5 = true → Vc ((0 + List.length zz1 ≤ List.length zz1 ∧ 0 + List.length zz3 ≤ List.length zz3 ∧ True) ∧ (List.length zz1 = List.length zz2 ∧ List.length zz1 = List.length zz2 ∧ List.length zz2 ≤ 64) ∧ (rLx zz3 0 zz4 = rowL (uL (rLx zz3 0 zz4)) ∧ List.length zz3 = List.length (uL (rLx zz3 0 zz4)) ∧ List.length (uL (rLx zz3 0 zz4)) < 1000000) ∧ ∀ (y : Ls), y ∈ uL (Row.mk [zz6 0, zz6 0, zz6 0, Value.bool false, zz6 0, zz6 0] zz4 [Col.mk (cut (Col.i (Col.mk (List.map (fun x => Ls.ix x) zz3) [] [])) 0 zz4) [] [], Col.mk (cut (Col.i (Col.mk (List.map (fun x => Ls.gn x) zz3) [] [])) 0 zz4) [] [], Col.mk (cut (Col.i (Col.mk (List.map (fun x => Ls.tm x) zz3) [] [])) 0 zz4) [] [], Col.mk [] (cut (Col.b (Col.mk [] (List.map (fun x => Ls.ins x) zz3) [])) 0 zz4) [], Col.mk (cut (Col.i (Col.mk (List.map (fun x => Ls.key x) zz3) [] [])) 0 zz4) [] [], Col.mk (cut (Col.i (Col.mk (List.map (fun x => Ls.id x) zz3) [] [])) 0 zz4) [] []]) → LsOk y) ∧ (false = true → Post (G (Value.bool false) [some (Sum.inr (Sum.inr (Sum.inl (Row.mk [zz6 0, zz6 0, Value.bool false, zz6 0, zz6 0, zz6 0, Value.bool false, zz6 0, zz6 0] (List.length (Acts.k a)) [Col.mk (Acts.k a) [] [], Col.mk (Acts.pl a) [] [], Col.mk [] (Acts.t a) [], Col.mk (Acts.ix a) [] [], Col.mk (Acts.gn a) [] [], Col.mk (Acts.tm a) [] [], Col.mk [] (Acts.ins a) [], Col.mk (Acts.key a) [] [], Col.mk (Acts.id a) [] []])))), some (Sum.inr (Sum.inr (Sum.inl (Row.mk [zz6 0, zz6 0, Value.bool false, zz6 0, zz6 0, zz6 0, Value.bool false, zz6 0, zz6 0] (List.length (Acts.k b)) [Col.mk (Acts.k b) [] [], Col.mk (Acts.pl b) [] [], Col.mk [] (Acts.t b) [], Col.mk (Acts.ix b) [] [], Col.mk (Acts.gn b) [] [], Col.mk (Acts.tm b) [] [], Col.mk [] (Acts.ins b) [], Col.mk (Acts.key b) [] [], Col.mk (Acts.id b) [] []])))), some (Sum.inr (Sum.inr (Sum.inr (Rs.tab (StD.t s))))), some (Sum.inl (31, [zz6 (Md.cap (TT.m (StD.t s))), zz6 (Md.ser (TT.m (StD.t s))), Value.slice (some (Addr.mk 5 0 (some 1000))) (List.length zz1) 0, Value.slice (some (Addr.mk 6 0 (some 6000))) zz4 0])), some (Sum.inr (Sum.inl (41, rowL (StD.told s)))), some (Sum.inr (Sum.inl (3, Row.mk [zz6 0] (List.length zz1) [Col.mk zz1 [] []]))), some (Sum.inr (Sum.inl (41, rowL zz3))), some (Sum.inr (Sum.inl (3, Row.mk [zz6 0] (List.length zz1) [Col.mk zz1 [] []]))), some (Sum.inr (Sum.inl (41, rowL zz3))), none, none, some (Sum.inr (Sum.inr (Sum.inr (Rs.tab (mkT zz5)))))])) ∧ (false = false → At D Tryd.prog (codeOf Tryd.f6) 2 (retK Tryd.prog (Array.toList (Func.results Tryd.f6)) G) [Sum.inl [1, 1, 1, 1, 1, 1, 1, 1, 0], Sum.inl [1, 1, 1, 1, 1, 1, 1, 1, 1]] (SS.mk [none, some (Value.slice (some (Addr.mk 1 0 (some 9000))) (List.length (Acts.k b)) 0), none, none, none, none, some (Value.pointer (some (Addr.mk 3 0 none))), some (Value.slice (some (Addr.mk 4 0 (some 6000))) (List.length (StD.told s)) 0), none, none, some (Value.pointer (some (Addr.mk 11 0 none))), none, none, none, none, none, none, none, none, none, none, none, none, none, none, none, none, none, none, none, none, none, none, none, none, none, none, none, none, none, none, none, none, none, none, none, none, none, none, none, none, none, none, none, none, none, none, none, none, none, none, none, none, none, none, none, none, none, none, none, none, none, none, none, none, none, none, none, none, none, none, none, none, none, none, none, none, none, none, none, none, none] [] [some (Sum.inr (Sum.inr (Sum.inl (Row.mk [zz6 0, zz6 0, Value.bool false, zz6 0, zz6 0, zz6 0, Value.bool false, zz6 0, zz6 0] (List.length (Acts.k a)) [Col.mk (Acts.k a) [] [], Col.mk (Acts.pl a) [] [], Col.mk [] (Acts.t a) [], Col.mk (Acts.ix a) [] [], Col.mk (Acts.gn a) [] [], Col.mk (Acts.tm a) [] [], Col.mk [] (Acts.ins a) [], Col.mk (Acts.key a) [] [], Col.mk (Acts.id a) [] []])))), some (Sum.inr (Sum.inr (Sum.inl (Row.mk [zz6 0, zz6 0, Value.bool false, zz6 0, zz6 0, zz6 0, Value.bool false, zz6 0, zz6 0] (List.length (Acts.k b)) [Col.mk (Acts.k b) [] [], Col.mk (Acts.pl b) [] [], Col.mk [] (Acts.t b) [], Col.mk (Acts.ix b) [] [], Col.mk (Acts.gn b) [] [], Col.mk (Acts.tm b) [] [], Col.mk [] (Acts.ins b) [], Col.mk (Acts.key b) [] [], Col.mk (Acts.id b) [] []])))), some (Sum.inr (Sum.inr (Sum.inr (Rs.tab (StD.t s))))), some (Sum.inl (31, [zz6 (Md.cap (TT.m (StD.t s))), zz6 (Md.ser (TT.m (StD.t s))), Value.slice (some (Addr.mk 5 0 (some 1000))) (List.length zz1) 0, Value.slice (some (Addr.mk 6 0 (some 6000))) zz4 0])), some (Sum.inr (Sum.inl (41, rowL (StD.told s)))), some (Sum.inr (Sum.inl (3, Row.mk [zz6 0] (List.length zz1) [Col.mk zz1 [] []]))), some (Sum.inr (Sum.inl (41, rowL zz3))), some (Sum.inr (Sum.inl (3, Row.mk [zz6 0] (List.length zz1) [Col.mk zz1 [] []]))), some (Sum.inr (Sum.inl (41, rowL zz3))), none, none, some (Sum.inr (Sum.inr (Sum.inr (Rs.tab (mkT zz5)))))]))) ∧ (rightB zz5 = false → Vc ((0 + List.length zz1 ≤ List.length zz1 ∧ 0 + List.length zz3 ≤ List.length zz3 ∧ True) ∧ (List.length zz1 = List.length zz2 ∧ List.length zz1 = List.length zz2 ∧ List.length zz2 ≤ 64) ∧ (rLx zz3 0 zz4 = rowL (uL (rLx zz3 0 zz4)) ∧ List.length zz3 = List.length (uL (rLx zz3 0 zz4)) ∧ List.length (uL (rLx zz3 0 zz4)) < 1000000) ∧ ∀ (y : Ls), y ∈ uL (Row.mk [zz6 0, zz6 0, zz6 0, Value.bool false, zz6 0, zz6 0] zz4 [Col.mk (cut (Col.i (Col.mk (List.map (fun x => Ls.ix x) zz3) [] [])) 0 zz4) [] [], Col.mk (cut (Col.i (Col.mk (List.map (fun x => Ls.gn x) zz3) [] [])) 0 zz4) [] [], Col.mk (cut (Col.i (Col.mk (List.map (fun x => Ls.tm x) zz3) [] [])) 0 zz4) [] [], Col.mk [] (cut (Col.b (Col.mk [] (List.map (fun x => Ls.ins x) zz3) [])) 0 zz4) [], Col.mk (cut (Col.i (Col.mk (List.map (fun x => Ls.key x) zz3) [] [])) 0 zz4) [] [], Col.mk (cut (Col.i (Col.mk (List.map (fun x => Ls.id x) zz3) [] [])) 0 zz4) [] []]) → LsOk y) ∧ Post (G (Value.bool false) [some (Sum.inr (Sum.inr (Sum.inl (Row.mk [zz6 0, zz6 0, Value.bool false, zz6 0, zz6 0, zz6 0, Value.bool false, zz6 0, zz6 0] (List.length (Acts.k a)) [Col.mk (Acts.k a) [] [], Col.mk (Acts.pl a) [] [], Col.mk [] (Acts.t a) [], Col.mk (Acts.ix a) [] [], Col.mk (Acts.gn a) [] [], Col.mk (Acts.tm a) [] [], Col.mk [] (Acts.ins a) [], Col.mk (Acts.key a) [] [], Col.mk (Acts.id a) [] []])))), some (Sum.inr (Sum.inr (Sum.inl (Row.mk [zz6 0, zz6 0, Value.bool false, zz6 0, zz6 0, zz6 0, Value.bool false, zz6 0, zz6 0] (List.length (Acts.k b)) [Col.mk (Acts.k b) [] [], Col.mk (Acts.pl b) [] [], Col.mk [] (Acts.t b) [], Col.mk (Acts.ix b) [] [], Col.mk (Acts.gn b) [] [], Col.mk (Acts.tm b) [] [], Col.mk [] (Acts.ins b) [], Col.mk (Acts.key b) [] [], Col.mk (Acts.id b) [] []])))), some (Sum.inr (Sum.inr (Sum.inr (Rs.tab (StD.t s))))), some (Sum.inl (31, [zz6 (Md.cap (TT.m (StD.t s))), zz6 (Md.ser (TT.m (StD.t s))), Value.slice (some (Addr.mk 5 0 (some 1000))) (List.length zz1) 0, Value.slice (some (Addr.mk 6 0 (some 6000))) zz4 0])), some (Sum.inr (Sum.inl (41, rowL (StD.told s)))), some (Sum.inr (Sum.inl (3, Row.mk [zz6 0] (List.length zz1) [Col.mk zz1 [] []]))), some (Sum.inr (Sum.inl (41, rowL zz3))), some (Sum.inr (Sum.inl (3, Row.mk [zz6 0] (List.length zz1) [Col.mk zz1 [] []]))), some (Sum.inr (Sum.inl (41, rowL zz3)))]))) ?_ (by kernel_rfl)
  intro zz6 zz1 zz2 zz3 zz4 zz5; subst zz5 zz4 zz3 zz2 zz1 zz6
  simp only [rLx_all, uL_rowL, cmL, euL, Nat.zero_add, Int.toNat_natCast, cut_all]
  have f2 := s.t.few
  have f3 := hok.len; have f4 := hok.cap1
  have hr0 : rightB ⟨s.t.m.cap, s.t.m.ser, s.t.m.la, s.t.m.l⟩ = true := right_tt s.t o6
  have o1 := hs.i
  have hl : ∀ y ∈ s.t.m.l, LsOk y := fun y hy => by
    obtain ⟨e1, e2, e3, e4, e5, e6, e7⟩ := hok.each y hy
    exact ⟨⟨by omega, by omega⟩, e7, ⟨by omega, by omega⟩⟩
  refine ⟨⟨trivial⟩, ⟨trivial⟩, ⟨trivial⟩, ⟨trivial⟩, fun _ => ?_, fun h => by rw [hr0] at h; cases h⟩
  refine ⟨⟨⟨Nat.le_refl _, Nat.le_refl _, trivial⟩, ⟨by first | trivial | rfl, by first | trivial | rfl, by omega⟩, ⟨by first | trivial | rfl, by first | trivial | rfl, by omega⟩, hl⟩, (fun h => by cases h), fun _ => ?_⟩
  have em : (mkT ⟨s.t.m.cap, s.t.m.ser, s.t.m.la, s.t.m.l⟩).m = s.t.m := mkT_m hr0 (by show s.t.m.la.length ≤ 64; omega) hl
  have hu : StD.Ok2 b.k.length 30 ⟨0, mkT ⟨s.t.m.cap, s.t.m.ser, s.t.m.la, s.t.m.l⟩, s.told⟩ := ⟨Nat.zero_le _, by show (mkT _).m.la.length ≤ _; rw [em]; have := hs.i; omega, by show (mkT _).m.ser ≤ _; rw [em]; have := hs.i; omega, by have := hs.i; show s.told.length ≤ _; omega, o5, by show Xt (mkT _).m; rw [em]; exact o6⟩
  generalize mkT _ = u at *
  rw [← em]
  refine At.fit [1, 6, 7, 10] [.slice (some ⟨1, 0, some 9000⟩) b.k.length 0, .pointer (some ⟨3, 0, none⟩), .slice (some ⟨4, 0, some 6000⟩) s.told.length 0, .pointer (some ⟨2, 0, none⟩)] (agH a b ⟨0, u, s.told⟩) 92 ⟨rfl, rfl, Nat.le_of_ble_eq_true rfl⟩ ⟨[0, 1, 11, 3, 4, 5, 6], rfl, ⟨rfl, rfl, rfl, .inl rfl, ⟨_, rfl, .inl rfl⟩, ⟨_, rfl, .inl rfl⟩, ⟨_, rfl, .inl rfl⟩, trivial⟩, rfl, rfl, rfl, rfl⟩ ?_
  exact again_in hb hn2 hG hu
end Go.Proofs.YtobdpddamdkabaaDoor.Tg
namespace Go.Proofs.YtobdpddamdkabaaDoor.Tg
open Go.RowKit Go.Proofs.YtobdpddamdkabaaDoor.Rx
set_option linter.unusedVariables false
set_option linter.unusedSimpArgs false
set_option maxRecDepth 100000
theorem again_law {p p2 : Rx.Place} {r r2 : Row} {W : World} (hg : Glob W fun _ => False) (hr : r.tm = actTm) (hw : wfCols actTm r.cols r.n) (hv : ViewOk W p r) (hr2 : r2.tm = actTm) (hw2 : wfCols actTm r2.cols r2.n) (hv2 : ViewOk W p2 r2) :
    Calls Tryd.prog 6 #[ren (viewsE [(p, r), (p2, r2)]) (.slice (some ⟨0, 0, some 9000⟩) r.n 0), ren (viewsE [(p, r), (p2, r2)]) (.slice (some ⟨1, 0, some 9000⟩) r2.n 0)] W fun e W' => e = .returned (.bool true) ∧ Below W.heap.size W W' := by
  obtain ⟨a, ha, rfl⟩ := acts_of hr hw
  obtain ⟨b, hb, rfl⟩ := acts_of hr2 hw2
  exact law_calls (D := D) (fn := Tryd.f6) (root := codeOf Tryd.f6) (args := [.slice (some ⟨0, 0, some 9000⟩) a.k.length 0, .slice (some ⟨1, 0, some 9000⟩) b.k.length 0]) [(p, actsRow a), (p2, actsRow b)] Tryd.func6 (by kernel_rfl) (fun x hx => (List.mem_cons.1 hx).elim (fun e => e ▸ hv) fun hx => List.mem_singleton.1 hx ▸ hv2) hg rfl
      (again_run (a := a) (b := b) ha hb fun _ => rfl)
end Go.Proofs.YtobdpddamdkabaaDoor.Tg
