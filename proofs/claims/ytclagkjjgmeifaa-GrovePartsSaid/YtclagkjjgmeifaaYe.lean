/- Ye: G7Lay, G7Res, G7Res2, G7El, G7May, G7Visit, G7Pool, G7Put, G7Set, G7Tie, G7Hang -/
import Derived.Test.YtclagkjjgmeifaaYd
/- grove: a pool of nodes of keys and numbers: where it lies. -/
namespace Go.Proofs.Ytclagkjjgmeifaa.G7
open Go.Proofs.Ytclagkjjgmeifaa.Rx
set_option linter.unusedVariables false
set_option linter.unusedSimpArgs false
set_option maxRecDepth 100000
structure El where
  k : Int
  w : Int
/-- keys and numbers, by keys; tides -/
def O7 : Gv.Ops El Ti.Td := ⟨⟨0, 0⟩, ⟨0, 0, 0⟩, fun a b => if a.k < b.k then -1 else if a.k > b.k then 1 else 0, fun e => ⟨1, e.w, e.w⟩, Ti.Td.plus⟩
abbrev Nd := Gv.Node El Ti.Td
abbrev Pl := Gv.PM Nd
def layPool (m : Pl) : Hp Empty :=
  [some (.inl (94, [.slice (some ⟨1, 0, some 13000⟩) m.vs.length 0, .slice (some ⟨2, 0, some 1000⟩) m.free.length 0, .int .i64 m.held, .int .i64 m.cap, .int .i64 m.visits])),
   some (.inr (.inl (98, ⟨[.int .i64 0, .int .i64 0, .int .i64 0, .int .i64 0, .int .i64 0, .int .i64 0, .int .i64 0, .int .i64 0, .int .i64 0, .int .i64 0, .int .i64 0, .int .i64 0, .bool false], m.vs.length, [colI (m.vs.map fun n => n.e.k), colI (m.vs.map fun n => n.e.w), colI (m.vs.map fun n => n.l.i), colI (m.vs.map fun n => n.l.g), colI (m.vs.map fun n => n.r.i), colI (m.vs.map fun n => n.r.g), colI (m.vs.map fun n => n.all.n), colI (m.vs.map fun n => n.all.sum.n), colI (m.vs.map fun n => n.all.sum.s), colI (m.vs.map fun n => n.all.sum.l), colI (m.vs.map fun n => n.h), colI m.gens, colB m.live]⟩))),
   some (.inr (.inl (3, ⟨[.int .i64 0], m.free.length, [colI m.free]⟩)))]
end Go.Proofs.Ytclagkjjgmeifaa.G7


/- grove: the things of its laws. -/
namespace Go.Proofs.Ytclagkjjgmeifaa.G7
open Go.Proofs.Ytclagkjjgmeifaa.Rx
set_option linter.unusedVariables false
inductive Rs
  | pool (m : Pl)
def lay : Rs → Hp Empty
  | .pool m => layPool m
def L : Lay Rs Empty where
  lay := lay
  ne x := by cases x <;> exact Nat.succ_pos _
  own x b X h := by cases x <;> exact noViews_get rfl h
  ins x := by cases x <;> rfl
def D : Res Rs := resOf NoR L
end Go.Proofs.Ytclagkjjgmeifaa.G7


/- grove: the things of its laws. -/
namespace Go.Proofs.Ytclagkjjgmeifaa.G7
open Go.Proofs.Ytclagkjjgmeifaa.Rx
set_option linter.unusedVariables false
/-- ints wrap; the things' first blocks are cells -/
def rdP : Con Rs := ⟨fun _ _ => some true, fun _ _ => none, fun _ _ => some ⟨True, .bool false, none, [], [], []⟩⟩
theorem rdP_ok : RdOk D rdP := by
  refine ⟨fun _ X p F w h => ?_, fun e X x p F w hx => by cases hx⟩
  obtain ⟨ρl, ftl, h1, h2, h3⟩ := h
  obtain ⟨t, cs, tl, hl⟩ : ∃ t cs tl, L.lay X = some (.inl (t, cs)) :: tl := by cases X; exact ⟨_, _, _, rfl⟩
  obtain ⟨g1, g2, g3⟩ := (h3.at_ 0 (.inl (t, cs)) (by rw [hl]; rfl)).1
  subst h1
  exact ⟨(h2 _).2 ⟨0, (g2 _).2 rfl⟩, _, _, g3⟩
end Go.Proofs.Ytclagkjjgmeifaa.G7


/- grove: the law's elements. -/
namespace Go.Proofs.Ytclagkjjgmeifaa.G7
open Go.Proofs.Ytclagkjjgmeifaa.Rx
set_option linter.unusedVariables false
set_option linter.unusedSimpArgs false
set_option maxRecDepth 100000
def cmpP {R : Type} : Prim R := fun args hh => match args, hh with
  | [.agg ⟨[.int .i64 k, .int .i64 w]⟩, .agg ⟨[.int .i64 k', .int .i64 w']⟩], [] => some ⟨True, .int .i64 (O7.cmp ⟨k, w⟩ ⟨k', w'⟩), none, hh, [], []⟩
  | _, _ => none
theorem cmp_ok {R : Type} {D : Res R} : ConOk D Try.prog 82 (con1 cmpP) := by
  refine con1_ok (prim_at (fn := Try.f82) (root := codeOf Try.f82) (by kernel_rfl) (by kernel_rfl) (by kernel_rfl) fun args hh x hx => ?_)
  unfold cmpP at hx
  split at hx
  · rename_i k w k' w'
    injection hx with hx
    subst hx
    refine ⟨by first | exact Nat.le_refl _ | exact Nat.zero_le _ | exact Nat.le_succ _, noLit rfl, (fun hw => by first | rfl | cases hw), fun _ hv => ?_⟩
    generalize hG : Rx.Ends (R := R) _ _ = G
    refine rx_ok (T := []) trivial mixed 200 ?_
    refine as_text (q := let zz1 := Value.int IntKind.i64; (decide (k < k') = true → Post (G (zz1 (-1 : Int)) [some (Sum.inl (28, [zz1 k, zz1 w])), some (Sum.inl (28, [zz1 k', zz1 w']))])) ∧ (decide (k < k') = false → (decide (k > k') = true → Post (G (zz1 1) [some (Sum.inl (28, [zz1 k, zz1 w])), some (Sum.inl (28, [zz1 k', zz1 w']))])) ∧ (decide (k > k') = false → Post (G (zz1 0) [some (Sum.inl (28, [zz1 k, zz1 w])), some (Sum.inl (28, [zz1 k', zz1 w']))])))) ?_ (by kernel_rfl)
    intro zz1; subst zz1
    have fin : ∀ (t : Int) (hp : Hp R), t = O7.cmp ⟨k, w⟩ ⟨k', w'⟩ → G (.int .i64 t) hp := by
      intro t hp ht
      subst ht
      subst hG
      exact ⟨⟨[], rfl, rfl, trivial, rfl, rfl, rfl, rfl⟩⟩
    clear hG
    repeat' (first | apply And.intro | apply Vc.mk | apply fits.mk | intro h | apply Post.mk)
    all_goals (try simp only [decide_eq_true_eq, decide_eq_false_iff_not, Nat.zero_add, ge_iff_le, Int.not_le, Int.not_lt, Int.toNat_natCast, beq_iff_eq, beq_eq_false_iff_ne, bne_iff_ne, bne_eq_false_iff_eq, Bool.not_eq_true', Bool.not_eq_false'] at *)
    all_goals first | contradiction | omega | (apply congrArg Value.bool; assumption) | exact congrArg Value.bool (decide_eq_true (by assumption)) | exact congrArg Value.bool (decide_eq_false (Int.not_lt.mpr (by assumption))) | exact ⟨rfl, by omega⟩ | exact rfl | (simp [*, -List.getD_eq_getElem?_getD]; done) | skip
    · have h : k < k' := by assumption
      exact fin _ _ (by show _ = if k < k' then _ else _; rw [if_pos h])
    · have h2 : k > k' := by assumption
      exact fin _ _ (by show _ = if k < k' then _ else if k > k' then _ else _; rw [if_neg (by omega), if_pos h2])
    · exact fin _ _ (by show _ = if k < k' then _ else if k > k' then _ else _; rw [if_neg (by omega), if_neg (by omega)])
  · cases hx
/-- of one number, whatever it is -/
def of1P {R : Type} : Prim R := fun args hh => match args, hh with
  | [.slice (some ⟨0, 0, some 1000⟩) n c], [some (.inr (.inr (.inl ⟨[.int .i64 0], n', [⟨[w], [], []⟩]⟩)))] => some ⟨n = 1 ∧ n' = 1, .agg ⟨[.int .i64 1, .int .i64 w, .int .i64 w]⟩, none, hh, [], []⟩
  | _, _ => none
theorem of1_ok {R : Type} {D : Res R} : ConOk D Try.prog 84 (con1 of1P) := by
  refine con1_ok (prim_at (fn := Try.f84) (root := codeOf Try.f84) (by kernel_rfl) (by kernel_rfl) (by kernel_rfl) fun args hh x hx => ?_)
  unfold of1P at hx
  split at hx
  · rename_i n c n' w
    injection hx with hx
    subst hx
    refine ⟨by first | exact Nat.le_refl _ | exact Nat.zero_le _ | exact Nat.le_succ _, noLit rfl, (fun hw => by first | rfl | cases hw), fun _ hv => ?_⟩
    obtain ⟨rfl, rfl⟩ := hv
    generalize hG : Rx.Ends (R := R) _ _ = G
    refine rx_ok (T := Ti.TP) Ti.TP_ok mixed 200 ?_
    refine as_text (q := let zz1 := Value.int IntKind.i64; At D Try.prog (codeOf Try.f84) 1 (retK Try.prog (Array.toList (Func.results Try.f84)) G) [Sum.inl [1, 1, 0, 1, 0], Sum.inr (Sum.inl 0), Sum.inl [1, 1, 1]] (SS.mk [some (Value.slice (some (Addr.mk 0 0 (some 1000))) 1 c), none, some (Value.pointer (some (Addr.mk 1 0 none))), some (Value.pointer (some (Addr.mk 2 0 none))), none, none, some (Value.slice (some (Addr.mk 0 0 (some 1000))) 1 c), some (zz1 1), some (zz1 0), none, none, none, none, none, none, none, none, none, none] [] [some (Sum.inr (Sum.inr (Sum.inl (Row.mk [zz1 0] 1 [Col.mk [w] [] []])))), some (Sum.inl (30, [zz1 0, zz1 0, zz1 0])), some (Sum.inl (30, [zz1 0, zz1 0, zz1 0]))])) ?_ (by kernel_rfl)
    intro zz1; subst zz1
    refine loop_atM (by kernel_rfl) (ι := Nat × Ti.Td) (fun x => x.1 ≤ 1 ∧ x.2 = if x.1 = 0 then ⟨0, 0, 0⟩ else ⟨1, w, w⟩) [2, 3, 6, 7, 8] (fun x => [.pointer (some ⟨1, 0, none⟩), .pointer (some ⟨2, 0, none⟩), .slice (some ⟨0, 0, some 1000⟩) 1 c, .int .i64 1, .int .i64 x.1]) (fun x => [some (.inr (.inr (.inl ⟨[.int .i64 0], 1, [⟨[w], [], []⟩]⟩))), some (.inl (30, [.int .i64 0, .int .i64 0, .int .i64 0])), some (.inl (30, [.int .i64 x.2.n, .int .i64 x.2.s, .int .i64 x.2.l]))]) (fun x => 1 - x.1) 19 (fun x hx => ⟨rfl, rfl, by simp⟩) ⟨(0, ⟨0, 0, 0⟩), ⟨Nat.zero_le _, rfl⟩, ⟨[0, 1, 2], rfl, ⟨rfl, .inl rfl, .inl rfl, trivial⟩, rfl, rfl, rfl, rfl⟩⟩ fun x hx => ?_
    refine rx_ok (T := Ti.TP) Ti.TP_ok mixed 200 ?_
    refine as_text (q := let zz3 := Value.int IntKind.i64; let zz1 := (↑(Prod.fst x) : Int); let zz2 := (Ti.Td.plus (Prod.snd x) (Ti.Td.mk (1 : Int) (List.getD [w] (0 + Int.toNat zz1) (0 : Int)) (List.getD [w] (0 + Int.toNat zz1) (0 : Int)))); (decide (zz1 < (1 : Int)) = true → Vc ((0 : Int) ≤ zz1 ∧ zz1 < (1 : Int) ∧ 1 ≤ 1) ∧ Vc (0 + Int.toNat zz1 < 1) ∧ Vc True ∧ Vc (fits (zz1 + (1 : Int))) ∧ Post (∃ j, (Prod.fst j ≤ 1 ∧ Prod.snd j = if Prod.fst j = 0 then Ti.Td.mk (0 : Int) (0 : Int) (0 : Int) else Ti.Td.mk (1 : Int) w w) ∧ 1 - Prod.fst j < 1 - Prod.fst x ∧ FitsM R 1 19 [2, 3, 6, 7, 8] [Value.pointer (some (Addr.mk 1 0 none)), Value.pointer (some (Addr.mk 2 0 none)), Value.slice (some (Addr.mk 0 0 (some 1000))) 1 c, zz3 1, zz3 (↑(Prod.fst j) : Int)] [some (Sum.inr (Sum.inr (Sum.inl (Row.mk [zz3 0] 1 [Col.mk [w] [] []])))), some (Sum.inl ((30 : TypeId), [zz3 0, zz3 0, zz3 0])), some (Sum.inl ((30 : TypeId), [zz3 (Ti.Td.n (Prod.snd j)), zz3 (Ti.Td.s (Prod.snd j)), zz3 (Ti.Td.l (Prod.snd j))]))] [some (Value.pointer (some (Addr.mk 1 0 none))), some (Value.pointer (some (Addr.mk 2 0 none))), some (Value.slice (some (Addr.mk 0 0 (some 1000))) 1 c), some (zz3 1), some (zz3 (zz1 + (1 : Int)))] [some (Sum.inr (Sum.inr (Sum.inl (Row.mk [zz3 0] 1 [Col.mk [w] [] []])))), some (Sum.inl (30, [zz3 0, zz3 0, zz3 0])), some (Sum.inl (30, [zz3 (Ti.Td.n zz2), zz3 (Ti.Td.s zz2), zz3 (Ti.Td.l zz2)]))] 19)) ∧ (decide (zz1 < (1 : Int)) = false → Post (G (Value.agg (Array.mk [zz3 (Ti.Td.n (Prod.snd x)), zz3 (Ti.Td.s (Prod.snd x)), zz3 (Ti.Td.l (Prod.snd x))])) [some (Sum.inr (Sum.inr (Sum.inl (Row.mk [zz3 0] 1 [Col.mk [w] [] []])))), some (Sum.inl (30, [zz3 (Ti.Td.n (Prod.snd x)), zz3 (Ti.Td.s (Prod.snd x)), zz3 (Ti.Td.l (Prod.snd x))])), some (Sum.inl (30, [zz3 (Ti.Td.n (Prod.snd x)), zz3 (Ti.Td.s (Prod.snd x)), zz3 (Ti.Td.l (Prod.snd x))]))]))) ?_ (by kernel_rfl)
    intro zz3 zz1 zz2; subst zz2 zz1 zz3
    obtain ⟨i, t⟩ := x
    obtain ⟨h1, h2⟩ := hx
    rcases (show i = 0 ∨ i = 1 by omega) with hi | hi
    · have ht : t = ⟨0, 0, 0⟩ := h2.trans (if_pos hi)
      rw [hi, ht]
      refine ⟨fun h => ⟨⟨by omega, by omega, Nat.le_refl _⟩, ⟨Nat.zero_lt_one⟩, ⟨trivial⟩, ⟨⟨by omega, by omega⟩⟩, ⟨(1, ⟨1, w, w⟩), ⟨Nat.le_refl _, rfl⟩, Nat.zero_lt_one, ⟨[0, 1, 2], rfl, ⟨rfl, .inl rfl, .inl rfl, trivial⟩, rfl, rfl, rfl, rfl⟩⟩⟩, fun h => by simp at h⟩
    · have ht : t = ⟨1, w, w⟩ := h2.trans (if_neg (show ¬ i = 0 by omega))
      rw [hi, ht]
      refine ⟨fun h => by simp at h, fun h => ⟨?_⟩⟩
      subst hG
      exact ⟨⟨[0], rfl, rfl, ⟨rfl, trivial⟩, rfl, rfl, rfl, rfl⟩⟩
  · cases hx
def TOf {R : Type} : Tab R := [(84, liftV Ti.z0 2 (con1 of1P))]
theorem TOf_ok {R : Type} {D : Res R} : TabOk D Try.prog (TOf : Tab R) := ⟨liftV_ok _ _ of1_ok, trivial⟩
def sumP {R : Type} : Prim R := fun args hh => match args, hh with
  | [.agg ⟨[.int .i64 k, .int .i64 w]⟩], [] => some ⟨True, .agg ⟨[.int .i64 (O7.sum ⟨k, w⟩).n, .int .i64 (O7.sum ⟨k, w⟩).s, .int .i64 (O7.sum ⟨k, w⟩).l]⟩, none, hh, [], []⟩
  | _, _ => none
theorem sum_ok {R : Type} {D : Res R} : ConOk D Try.prog 83 (con1 sumP) := by
  refine con1_ok (prim_at (fn := Try.f83) (root := codeOf Try.f83) (by kernel_rfl) (by kernel_rfl) (by kernel_rfl) fun args hh x hx => ?_)
  unfold sumP at hx
  split at hx
  · rename_i k w
    injection hx with hx
    subst hx
    refine ⟨by first | exact Nat.le_refl _ | exact Nat.zero_le _ | exact Nat.le_succ _, noLit rfl, (fun hw => by first | rfl | cases hw), fun _ hv => ?_⟩
    generalize hG : Rx.Ends (R := R) _ _ = G
    refine rx_ok (T := TOf) TOf_ok mixed 200 ?_
    refine as_text (q := let zz1 := Value.int IntKind.i64; Vc ((1 ≤ 1 ∧ True) ∧ 1 = 1 ∧ 1 = 1) ∧ Post (G (Value.agg (Array.mk [zz1 1, zz1 w, zz1 w])) [some (Sum.inl (28, [zz1 k, zz1 w])), some (Sum.inl (30, [zz1 1, zz1 w, zz1 w])), some (Sum.inr (Sum.inl (3, Row.mk [zz1 0] 1 [Col.mk [w] [] []])))])) ?_ (by kernel_rfl)
    intro zz1; subst zz1
    subst hG
    exact ⟨⟨⟨Nat.le_refl _, trivial⟩, rfl, rfl⟩, ⟨⟨[], rfl, rfl, trivial, rfl, rfl, rfl, rfl⟩⟩⟩
  · cases hx
end Go.Proofs.Ytclagkjjgmeifaa.G7


/- grove: what the laws ask of sums. -/
namespace Go.Proofs.Ytclagkjjgmeifaa.G7
open Go.Proofs.Ytclagkjjgmeifaa.Rx
set_option linter.unusedVariables false
set_option linter.unusedSimpArgs false
set_option maxRecDepth 100000
def mayA (a o : Ti.Td) : Bool := decide (Gv.W (a.s + o.s) > 6)
def TWg {R : Type} : Tab R := [(1000000000, wrapCon)]
theorem TWg_ok {R : Type} {D : Res R} : TabOk D Try.prog (TWg : Tab R) := ⟨wrapCon_ok, trivial⟩
def mayAP {R : Type} : Prim R := fun args hh => match args, hh with
  | [.agg ⟨[.int .i64 n, .int .i64 s, .int .i64 l]⟩, .agg ⟨[.int .i64 n', .int .i64 s', .int .i64 l']⟩], [] => some ⟨True, .bool (mayA ⟨n, s, l⟩ ⟨n', s', l'⟩), none, hh, [], []⟩
  | _, _ => none
theorem mayA_ok {R : Type} {D : Res R} : ConOk D Try.prog 38 (con1 mayAP) := by
  refine con1_ok (prim_at (fn := Try.f38) (root := codeOf Try.f38) (by kernel_rfl) (by kernel_rfl) (by kernel_rfl) fun args hh x hx => ?_)
  unfold mayAP at hx
  split at hx
  · rename_i n s l n' s' l'
    injection hx with hx
    subst hx
    refine ⟨by first | exact Nat.le_refl _ | exact Nat.zero_le _ | exact Nat.le_succ _, noLit rfl, (fun hw => by first | rfl | cases hw), fun _ hv => ?_⟩
    generalize hG : Rx.Ends (R := R) _ _ = G
    refine rx_ok (T := TWg) TWg_ok mixed 200 ?_
    refine as_text (q := let zz1 := Value.int IntKind.i64; Vc True ∧ Post (G (Value.bool (decide (IntKind.wrap IntKind.i64 (s + s') > (6 : Int)))) [some (Sum.inl (30, [zz1 n, zz1 s, zz1 l])), some (Sum.inl (30, [zz1 n', zz1 s', zz1 l']))])) ?_ (by kernel_rfl)
    intro zz1; subst zz1
    subst hG
    repeat' (first | apply And.intro | apply Vc.mk | apply fits.mk | intro h | apply Post.mk)
    all_goals (try simp only [decide_eq_true_eq, decide_eq_false_iff_not, Nat.zero_add, ge_iff_le, Int.not_le, Int.not_lt, Int.toNat_natCast, beq_iff_eq, beq_eq_false_iff_ne, bne_iff_ne, bne_eq_false_iff_eq, Bool.not_eq_true', Bool.not_eq_false'] at *)
    all_goals first | contradiction | omega | (apply congrArg Value.bool; assumption) | exact congrArg Value.bool (decide_eq_true (by assumption)) | exact congrArg Value.bool (decide_eq_false (Int.not_lt.mpr (by assumption))) | exact ⟨rfl, by omega⟩ | exact rfl | (simp [*, -List.getD_eq_getElem?_getD]; done) | skip
    exact ⟨[], rfl, rfl, trivial, rfl, rfl, rfl, rfl⟩
  · cases hx
end Go.Proofs.Ytclagkjjgmeifaa.G7


/- grove: a pool of nodes of keys and numbers: visit, next. -/
namespace Go.Proofs.Ytclagkjjgmeifaa.G7
open Go.Proofs.Ytclagkjjgmeifaa.Rx
set_option linter.unusedVariables false
set_option linter.unusedSimpArgs false
set_option maxRecDepth 100000
/-- does a handle live, by the columns -/
def hasC (n : Nat) (gs : List Int) (lv : List Bool) (i g : Int) : Bool := decide (0 ≤ i) && decide (i < n) && lv.getD i.toNat false && decide (gs.getD i.toNat 0 = g)
def visitW : List Value → Hp Empty → Option Bool := fun args hh => match args, hh with
  | [.pointer (some ⟨0, 0, none⟩), .agg ⟨[.int .i64 i, .int .i64 g]⟩], [some (.inl (94, [.slice (some ⟨1, 0, some 13000⟩) n cp, .slice (some ⟨2, 0, some 1000⟩) fn fc, .int .i64 hd, .int .i64 ca, .int .i64 vi])), some (.inr (.inl (98, ⟨[.int .i64 0, .int .i64 0, .int .i64 0, .int .i64 0, .int .i64 0, .int .i64 0, .int .i64 0, .int .i64 0, .int .i64 0, .int .i64 0, .int .i64 0, .int .i64 0, .bool false], n2, [⟨c0, [], []⟩, ⟨c1, [], []⟩, ⟨c2, [], []⟩, ⟨c3, [], []⟩, ⟨c4, [], []⟩, ⟨c5, [], []⟩, ⟨c6, [], []⟩, ⟨c7, [], []⟩, ⟨c8, [], []⟩, ⟨c9, [], []⟩, ⟨c10, [], []⟩, ⟨gs, [], []⟩, ⟨[], lv, []⟩]⟩))), some (.inr (.inl (3, ⟨[.int .i64 0], f2, [⟨fr, [], []⟩]⟩)))] => some (hasC n gs lv i g)
  | _, _ => none
def visitY : Prim Empty := fun args hh => match args, hh with
  | [.pointer (some ⟨0, 0, none⟩), .agg ⟨[.int .i64 i, .int .i64 g]⟩], [some (.inl (94, [.slice (some ⟨1, 0, some 13000⟩) n cp, .slice (some ⟨2, 0, some 1000⟩) fn fc, .int .i64 hd, .int .i64 ca, .int .i64 vi])), some (.inr (.inl (98, ⟨[.int .i64 0, .int .i64 0, .int .i64 0, .int .i64 0, .int .i64 0, .int .i64 0, .int .i64 0, .int .i64 0, .int .i64 0, .int .i64 0, .int .i64 0, .int .i64 0, .bool false], n2, [⟨c0, [], []⟩, ⟨c1, [], []⟩, ⟨c2, [], []⟩, ⟨c3, [], []⟩, ⟨c4, [], []⟩, ⟨c5, [], []⟩, ⟨c6, [], []⟩, ⟨c7, [], []⟩, ⟨c8, [], []⟩, ⟨c9, [], []⟩, ⟨c10, [], []⟩, ⟨gs, [], []⟩, ⟨[], lv, []⟩]⟩))), some (.inr (.inl (3, ⟨[.int .i64 0], f2, [⟨fr, [], []⟩]⟩)))] => some ⟨n2 = n ∧ gs.length = n ∧ lv.length = n ∧ n < 1000000, .pointer (some ⟨1, i.toNat, some 13000⟩), none, [some (.inl (94, [.slice (some ⟨1, 0, some 13000⟩) n cp, .slice (some ⟨2, 0, some 1000⟩) fn fc, .int .i64 hd, .int .i64 ca, .int .i64 (IntKind.i64.wrap (vi + 1))])), some (.inr (.inl (98, ⟨[.int .i64 0, .int .i64 0, .int .i64 0, .int .i64 0, .int .i64 0, .int .i64 0, .int .i64 0, .int .i64 0, .int .i64 0, .int .i64 0, .int .i64 0, .int .i64 0, .bool false], n2, [⟨c0, [], []⟩, ⟨c1, [], []⟩, ⟨c2, [], []⟩, ⟨c3, [], []⟩, ⟨c4, [], []⟩, ⟨c5, [], []⟩, ⟨c6, [], []⟩, ⟨c7, [], []⟩, ⟨c8, [], []⟩, ⟨c9, [], []⟩, ⟨c10, [], []⟩, ⟨gs, [], []⟩, ⟨[], lv, []⟩]⟩))), some (.inr (.inl (3, ⟨[.int .i64 0], f2, [⟨fr, [], []⟩]⟩)))], [], [(0, 0)]⟩
  | _, _ => none
def visitN : Prim Empty := fun args hh => match args, hh with
  | [.pointer (some ⟨0, 0, none⟩), .agg ⟨[.int .i64 i, .int .i64 g]⟩], [some (.inl (94, [.slice (some ⟨1, 0, some 13000⟩) n cp, .slice (some ⟨2, 0, some 1000⟩) fn fc, .int .i64 hd, .int .i64 ca, .int .i64 vi])), some (.inr (.inl (98, ⟨[.int .i64 0, .int .i64 0, .int .i64 0, .int .i64 0, .int .i64 0, .int .i64 0, .int .i64 0, .int .i64 0, .int .i64 0, .int .i64 0, .int .i64 0, .int .i64 0, .bool false], n2, [⟨c0, [], []⟩, ⟨c1, [], []⟩, ⟨c2, [], []⟩, ⟨c3, [], []⟩, ⟨c4, [], []⟩, ⟨c5, [], []⟩, ⟨c6, [], []⟩, ⟨c7, [], []⟩, ⟨c8, [], []⟩, ⟨c9, [], []⟩, ⟨c10, [], []⟩, ⟨gs, [], []⟩, ⟨[], lv, []⟩]⟩))), some (.inr (.inl (3, ⟨[.int .i64 0], f2, [⟨fr, [], []⟩]⟩)))] => some ⟨n2 = n ∧ gs.length = n ∧ lv.length = n ∧ n < 1000000, .pointer none, none, hh, [], []⟩
  | _, _ => none
def visitC : Con Empty := ⟨visitW, visitY, visitN⟩
def TWr : Tab Empty := [(1000000000, wrapCon)]
theorem TWr_ok : TabOk NoR Try.prog TWr := ⟨wrapCon_ok, trivial⟩
theorem visitY_ok : PrimOk NoR Try.prog 58 (way visitC true) (visitC.go true) := by
  refine prim_at (fn := Try.f58) (root := codeOf Try.f58) (by kernel_rfl) (by kernel_rfl) (by kernel_rfl) fun args hh x hx => ?_
  unfold visitC Con.go visitY at hx
  simp only at hx
  split at hx
  · rename_i i g n cp fn fc hd ca vi n2 c0 c1 c2 c3 c4 c5 c6 c7 c8 c9 c10 gs lv f2 fr
    injection hx with hx
    subst hx
    refine ⟨Nat.le_refl _, (fun b hb => by cases hb), (fun hw => by first | rfl | cases hw), fun hon hv => ?_⟩
    obtain ⟨rfl, hv3, hv4, hv1⟩ := hv
    have hw : hasC n2 gs lv i g = true := by
      simp only [way, visitC, visitW] at hon
      simpa using hon
    clear hon
    generalize hG : Rx.Ends (R := Empty) _ _ = G
    refine rx_ok (T := TWr) TWr_ok mixed 200 ?_
    refine as_text (q := let zz1 := Value.int IntKind.i64; (decide (i < (0 : Int)) = true → Vc (Value.bool (decide (i < (0 : Int))) = Value.bool true) ∧ Post (G (Value.pointer none) [some (Sum.inl (94, [Value.slice (some (Addr.mk 1 0 (some 13000))) n2 cp, Value.slice (some (Addr.mk 2 0 (some 1000))) fn fc, zz1 hd, zz1 ca, zz1 vi])), some (Sum.inr (Sum.inl (98, Row.mk [zz1 0, zz1 0, zz1 0, zz1 0, zz1 0, zz1 0, zz1 0, zz1 0, zz1 0, zz1 0, zz1 0, zz1 0, Value.bool false] n2 [Col.mk c0 [] [], Col.mk c1 [] [], Col.mk c2 [] [], Col.mk c3 [] [], Col.mk c4 [] [], Col.mk c5 [] [], Col.mk c6 [] [], Col.mk c7 [] [], Col.mk c8 [] [], Col.mk c9 [] [], Col.mk c10 [] [], Col.mk gs [] [], Col.mk [] lv []]))), some (Sum.inr (Sum.inl (3, Row.mk [zz1 0] f2 [Col.mk fr [] []]))), some (Sum.inl (70, [zz1 i, zz1 g]))])) ∧ (decide (i < (0 : Int)) = false → Vc (Value.bool (decide (i < (0 : Int))) = Value.bool false) ∧ (decide (i ≥ (↑n2 : Int)) = true → Post (G (Value.pointer none) [some (Sum.inl (94, [Value.slice (some (Addr.mk 1 0 (some 13000))) n2 cp, Value.slice (some (Addr.mk 2 0 (some 1000))) fn fc, zz1 hd, zz1 ca, zz1 vi])), some (Sum.inr (Sum.inl (98, Row.mk [zz1 0, zz1 0, zz1 0, zz1 0, zz1 0, zz1 0, zz1 0, zz1 0, zz1 0, zz1 0, zz1 0, zz1 0, Value.bool false] n2 [Col.mk c0 [] [], Col.mk c1 [] [], Col.mk c2 [] [], Col.mk c3 [] [], Col.mk c4 [] [], Col.mk c5 [] [], Col.mk c6 [] [], Col.mk c7 [] [], Col.mk c8 [] [], Col.mk c9 [] [], Col.mk c10 [] [], Col.mk gs [] [], Col.mk [] lv []]))), some (Sum.inr (Sum.inl (3, Row.mk [zz1 0] f2 [Col.mk fr [] []]))), some (Sum.inl (70, [zz1 i, zz1 g]))])) ∧ (decide (i ≥ (↑n2 : Int)) = false → Vc ((0 : Int) ≤ i ∧ i < (↑n2 : Int) ∧ 0 + n2 ≤ n2) ∧ Vc (0 + Int.toNat i < n2) ∧ ((!List.getD lv (0 + Int.toNat i) false) = true → Vc (0 + Int.toNat i < n2) ∧ Vc ((Value.bool !List.getD lv (0 + Int.toNat i) false) = Value.bool true) ∧ Post (G (Value.pointer none) [some (Sum.inl (94, [Value.slice (some (Addr.mk 1 0 (some 13000))) n2 cp, Value.slice (some (Addr.mk 2 0 (some 1000))) fn fc, zz1 hd, zz1 ca, zz1 vi])), some (Sum.inr (Sum.inl (98, Row.mk [zz1 0, zz1 0, zz1 0, zz1 0, zz1 0, zz1 0, zz1 0, zz1 0, zz1 0, zz1 0, zz1 0, zz1 0, Value.bool false] n2 [Col.mk c0 [] [], Col.mk c1 [] [], Col.mk c2 [] [], Col.mk c3 [] [], Col.mk c4 [] [], Col.mk c5 [] [], Col.mk c6 [] [], Col.mk c7 [] [], Col.mk c8 [] [], Col.mk c9 [] [], Col.mk c10 [] [], Col.mk gs [] [], Col.mk [] lv []]))), some (Sum.inr (Sum.inl (3, Row.mk [zz1 0] f2 [Col.mk fr [] []]))), some (Sum.inl (70, [zz1 i, zz1 g]))])) ∧ ((!List.getD lv (0 + Int.toNat i) false) = false → Vc (0 + Int.toNat i < n2) ∧ Vc ((Value.bool !List.getD lv (0 + Int.toNat i) false) = Value.bool false) ∧ Vc (0 + Int.toNat i < n2) ∧ ((List.getD gs (0 + Int.toNat i) (0 : Int) != g) = true → Post (G (Value.pointer none) [some (Sum.inl (94, [Value.slice (some (Addr.mk 1 0 (some 13000))) n2 cp, Value.slice (some (Addr.mk 2 0 (some 1000))) fn fc, zz1 hd, zz1 ca, zz1 vi])), some (Sum.inr (Sum.inl (98, Row.mk [zz1 0, zz1 0, zz1 0, zz1 0, zz1 0, zz1 0, zz1 0, zz1 0, zz1 0, zz1 0, zz1 0, zz1 0, Value.bool false] n2 [Col.mk c0 [] [], Col.mk c1 [] [], Col.mk c2 [] [], Col.mk c3 [] [], Col.mk c4 [] [], Col.mk c5 [] [], Col.mk c6 [] [], Col.mk c7 [] [], Col.mk c8 [] [], Col.mk c9 [] [], Col.mk c10 [] [], Col.mk gs [] [], Col.mk [] lv []]))), some (Sum.inr (Sum.inl (3, Row.mk [zz1 0] f2 [Col.mk fr [] []]))), some (Sum.inl (70, [zz1 i, zz1 g]))])) ∧ ((List.getD gs (0 + Int.toNat i) (0 : Int) != g) = false → Vc True ∧ Post (G (Value.pointer (some (Addr.mk 1 (0 + Int.toNat i) (some 13000)))) [some (Sum.inl (94, [Value.slice (some (Addr.mk 1 0 (some 13000))) n2 cp, Value.slice (some (Addr.mk 2 0 (some 1000))) fn fc, zz1 hd, zz1 ca, zz1 (IntKind.wrap IntKind.i64 (vi + (1 : Int)))])), some (Sum.inr (Sum.inl (98, Row.mk [zz1 0, zz1 0, zz1 0, zz1 0, zz1 0, zz1 0, zz1 0, zz1 0, zz1 0, zz1 0, zz1 0, zz1 0, Value.bool false] n2 [Col.mk c0 [] [], Col.mk c1 [] [], Col.mk c2 [] [], Col.mk c3 [] [], Col.mk c4 [] [], Col.mk c5 [] [], Col.mk c6 [] [], Col.mk c7 [] [], Col.mk c8 [] [], Col.mk c9 [] [], Col.mk c10 [] [], Col.mk gs [] [], Col.mk [] lv []]))), some (Sum.inr (Sum.inl (3, Row.mk [zz1 0] f2 [Col.mk fr [] []]))), some (Sum.inl (70, [zz1 i, zz1 g]))])))))) ?_ (by kernel_rfl)
    intro zz1; subst zz1
    have e0 : 0 + i.toNat = i.toNat := Nat.zero_add _
    rw [e0]
    subst hG
    simp only [hasC, Bool.and_eq_true, decide_eq_true_eq] at hw
    obtain ⟨⟨⟨w1, w2⟩, w3⟩, w4⟩ := hw
    repeat' (first | apply And.intro | apply Vc.mk | apply fits.mk | intro h | apply Post.mk)
    all_goals (try simp only [decide_eq_true_eq, decide_eq_false_iff_not, Nat.zero_add, ge_iff_le, Int.not_le, Int.not_lt, Int.toNat_natCast, beq_iff_eq, beq_eq_false_iff_ne, bne_iff_ne, bne_eq_false_iff_eq, Bool.not_eq_true', Bool.not_eq_false'] at *)
    all_goals first | contradiction | omega | (apply congrArg Value.bool; assumption) | exact congrArg Value.bool (decide_eq_true (by assumption)) | exact congrArg Value.bool (decide_eq_false (Int.not_lt.mpr (by assumption))) | exact ⟨rfl, by omega⟩ | exact rfl | (simp [*, -List.getD_eq_getElem?_getD]; done) | skip
    all_goals first | (exfalso; omega) | (exfalso; simp_all; done) | skip
    all_goals exact ⟨[0, 1, 2], rfl, rfl, ⟨.inl rfl, ⟨_, rfl, .inl rfl⟩, ⟨_, rfl, .inl rfl⟩, trivial⟩, rfl, rfl, rfl, rfl⟩
  · cases hx
theorem visitN_ok : PrimOk NoR Try.prog 58 (way visitC false) (visitC.go false) := by
  refine prim_at (fn := Try.f58) (root := codeOf Try.f58) (by kernel_rfl) (by kernel_rfl) (by kernel_rfl) fun args hh x hx => ?_
  unfold visitC Con.go visitN at hx
  simp only at hx
  split at hx
  · rename_i i g n cp fn fc hd ca vi n2 c0 c1 c2 c3 c4 c5 c6 c7 c8 c9 c10 gs lv f2 fr
    injection hx with hx
    subst hx
    refine ⟨Nat.le_refl _, (fun b hb => by cases hb), (fun hw => by first | rfl | cases hw), fun hon hv => ?_⟩
    obtain ⟨rfl, hv3, hv4, hv1⟩ := hv
    have hw : hasC n2 gs lv i g = false := by
      simp only [way, visitC, visitW] at hon
      simpa using hon
    clear hon
    generalize hG : Rx.Ends (R := Empty) _ _ = G
    refine rx_ok (T := TWr) TWr_ok mixed 200 ?_
    refine as_text (q := let zz1 := Value.int IntKind.i64; (decide (i < (0 : Int)) = true → Vc (Value.bool (decide (i < (0 : Int))) = Value.bool true) ∧ Post (G (Value.pointer none) [some (Sum.inl (94, [Value.slice (some (Addr.mk 1 0 (some 13000))) n2 cp, Value.slice (some (Addr.mk 2 0 (some 1000))) fn fc, zz1 hd, zz1 ca, zz1 vi])), some (Sum.inr (Sum.inl (98, Row.mk [zz1 0, zz1 0, zz1 0, zz1 0, zz1 0, zz1 0, zz1 0, zz1 0, zz1 0, zz1 0, zz1 0, zz1 0, Value.bool false] n2 [Col.mk c0 [] [], Col.mk c1 [] [], Col.mk c2 [] [], Col.mk c3 [] [], Col.mk c4 [] [], Col.mk c5 [] [], Col.mk c6 [] [], Col.mk c7 [] [], Col.mk c8 [] [], Col.mk c9 [] [], Col.mk c10 [] [], Col.mk gs [] [], Col.mk [] lv []]))), some (Sum.inr (Sum.inl (3, Row.mk [zz1 0] f2 [Col.mk fr [] []]))), some (Sum.inl (70, [zz1 i, zz1 g]))])) ∧ (decide (i < (0 : Int)) = false → Vc (Value.bool (decide (i < (0 : Int))) = Value.bool false) ∧ (decide (i ≥ (↑n2 : Int)) = true → Post (G (Value.pointer none) [some (Sum.inl (94, [Value.slice (some (Addr.mk 1 0 (some 13000))) n2 cp, Value.slice (some (Addr.mk 2 0 (some 1000))) fn fc, zz1 hd, zz1 ca, zz1 vi])), some (Sum.inr (Sum.inl (98, Row.mk [zz1 0, zz1 0, zz1 0, zz1 0, zz1 0, zz1 0, zz1 0, zz1 0, zz1 0, zz1 0, zz1 0, zz1 0, Value.bool false] n2 [Col.mk c0 [] [], Col.mk c1 [] [], Col.mk c2 [] [], Col.mk c3 [] [], Col.mk c4 [] [], Col.mk c5 [] [], Col.mk c6 [] [], Col.mk c7 [] [], Col.mk c8 [] [], Col.mk c9 [] [], Col.mk c10 [] [], Col.mk gs [] [], Col.mk [] lv []]))), some (Sum.inr (Sum.inl (3, Row.mk [zz1 0] f2 [Col.mk fr [] []]))), some (Sum.inl (70, [zz1 i, zz1 g]))])) ∧ (decide (i ≥ (↑n2 : Int)) = false → Vc ((0 : Int) ≤ i ∧ i < (↑n2 : Int) ∧ 0 + n2 ≤ n2) ∧ Vc (0 + Int.toNat i < n2) ∧ ((!List.getD lv (0 + Int.toNat i) false) = true → Vc (0 + Int.toNat i < n2) ∧ Vc ((Value.bool !List.getD lv (0 + Int.toNat i) false) = Value.bool true) ∧ Post (G (Value.pointer none) [some (Sum.inl (94, [Value.slice (some (Addr.mk 1 0 (some 13000))) n2 cp, Value.slice (some (Addr.mk 2 0 (some 1000))) fn fc, zz1 hd, zz1 ca, zz1 vi])), some (Sum.inr (Sum.inl (98, Row.mk [zz1 0, zz1 0, zz1 0, zz1 0, zz1 0, zz1 0, zz1 0, zz1 0, zz1 0, zz1 0, zz1 0, zz1 0, Value.bool false] n2 [Col.mk c0 [] [], Col.mk c1 [] [], Col.mk c2 [] [], Col.mk c3 [] [], Col.mk c4 [] [], Col.mk c5 [] [], Col.mk c6 [] [], Col.mk c7 [] [], Col.mk c8 [] [], Col.mk c9 [] [], Col.mk c10 [] [], Col.mk gs [] [], Col.mk [] lv []]))), some (Sum.inr (Sum.inl (3, Row.mk [zz1 0] f2 [Col.mk fr [] []]))), some (Sum.inl (70, [zz1 i, zz1 g]))])) ∧ ((!List.getD lv (0 + Int.toNat i) false) = false → Vc (0 + Int.toNat i < n2) ∧ Vc ((Value.bool !List.getD lv (0 + Int.toNat i) false) = Value.bool false) ∧ Vc (0 + Int.toNat i < n2) ∧ ((List.getD gs (0 + Int.toNat i) (0 : Int) != g) = true → Post (G (Value.pointer none) [some (Sum.inl (94, [Value.slice (some (Addr.mk 1 0 (some 13000))) n2 cp, Value.slice (some (Addr.mk 2 0 (some 1000))) fn fc, zz1 hd, zz1 ca, zz1 vi])), some (Sum.inr (Sum.inl (98, Row.mk [zz1 0, zz1 0, zz1 0, zz1 0, zz1 0, zz1 0, zz1 0, zz1 0, zz1 0, zz1 0, zz1 0, zz1 0, Value.bool false] n2 [Col.mk c0 [] [], Col.mk c1 [] [], Col.mk c2 [] [], Col.mk c3 [] [], Col.mk c4 [] [], Col.mk c5 [] [], Col.mk c6 [] [], Col.mk c7 [] [], Col.mk c8 [] [], Col.mk c9 [] [], Col.mk c10 [] [], Col.mk gs [] [], Col.mk [] lv []]))), some (Sum.inr (Sum.inl (3, Row.mk [zz1 0] f2 [Col.mk fr [] []]))), some (Sum.inl (70, [zz1 i, zz1 g]))])) ∧ ((List.getD gs (0 + Int.toNat i) (0 : Int) != g) = false → Vc True ∧ Post (G (Value.pointer (some (Addr.mk 1 (0 + Int.toNat i) (some 13000)))) [some (Sum.inl (94, [Value.slice (some (Addr.mk 1 0 (some 13000))) n2 cp, Value.slice (some (Addr.mk 2 0 (some 1000))) fn fc, zz1 hd, zz1 ca, zz1 (IntKind.wrap IntKind.i64 (vi + (1 : Int)))])), some (Sum.inr (Sum.inl (98, Row.mk [zz1 0, zz1 0, zz1 0, zz1 0, zz1 0, zz1 0, zz1 0, zz1 0, zz1 0, zz1 0, zz1 0, zz1 0, Value.bool false] n2 [Col.mk c0 [] [], Col.mk c1 [] [], Col.mk c2 [] [], Col.mk c3 [] [], Col.mk c4 [] [], Col.mk c5 [] [], Col.mk c6 [] [], Col.mk c7 [] [], Col.mk c8 [] [], Col.mk c9 [] [], Col.mk c10 [] [], Col.mk gs [] [], Col.mk [] lv []]))), some (Sum.inr (Sum.inl (3, Row.mk [zz1 0] f2 [Col.mk fr [] []]))), some (Sum.inl (70, [zz1 i, zz1 g]))])))))) ?_ (by kernel_rfl)
    intro zz1; subst zz1
    have e0 : 0 + i.toNat = i.toNat := Nat.zero_add _
    rw [e0]
    have hw2 : ∀ a b : Prop, True := fun _ _ => trivial
    repeat' (first | apply And.intro | apply Vc.mk | apply fits.mk | intro h | apply Post.mk)
    all_goals (try simp only [decide_eq_true_eq, decide_eq_false_iff_not, Nat.zero_add, ge_iff_le, Int.not_le, Int.not_lt, Int.toNat_natCast, beq_iff_eq, beq_eq_false_iff_ne, bne_iff_ne, bne_eq_false_iff_eq, Bool.not_eq_true', Bool.not_eq_false'] at *)
    all_goals first | contradiction | omega | (apply congrArg Value.bool; assumption) | exact congrArg Value.bool (decide_eq_true (by assumption)) | exact congrArg Value.bool (decide_eq_false (Int.not_lt.mpr (by assumption))) | exact ⟨rfl, by omega⟩ | exact rfl | (simp [*, -List.getD_eq_getElem?_getD]; done) | skip
    all_goals first | (subst hG; exact ⟨[0, 1, 2], rfl, rfl, ⟨.inl rfl, ⟨_, rfl, .inl rfl⟩, ⟨_, rfl, .inl rfl⟩, trivial⟩, rfl, rfl, rfl, rfl⟩) | (exfalso; simp only [hasC, Bool.and_eq_false_iff, decide_eq_false_iff_not] at hw; simp_all; done) | skip
  · cases hx
theorem visit_ok : ConOk NoR Try.prog 58 visitC := fun b => by cases b; exact visitN_ok; exact visitY_ok
def nextW : List Value → Hp Empty → Option Bool := fun args hh => match args, hh with
  | [.pointer (some ⟨0, 0, none⟩)], [some (.inl (94, [.slice (some ⟨1, 0, some 13000⟩) n cp, .slice (some ⟨2, 0, some 1000⟩) fn fc, .int .i64 hd, .int .i64 ca, .int .i64 vi])), some (.inr (.inl (98, ⟨[.int .i64 0, .int .i64 0, .int .i64 0, .int .i64 0, .int .i64 0, .int .i64 0, .int .i64 0, .int .i64 0, .int .i64 0, .int .i64 0, .int .i64 0, .int .i64 0, .bool false], n2, [⟨c0, [], []⟩, ⟨c1, [], []⟩, ⟨c2, [], []⟩, ⟨c3, [], []⟩, ⟨c4, [], []⟩, ⟨c5, [], []⟩, ⟨c6, [], []⟩, ⟨c7, [], []⟩, ⟨c8, [], []⟩, ⟨c9, [], []⟩, ⟨c10, [], []⟩, ⟨gs, [], []⟩, ⟨[], lv, []⟩]⟩))), some (.inr (.inl (3, ⟨[.int .i64 0], f2, [⟨fr, [], []⟩]⟩)))] => some (decide (fn = 0))
  | _, _ => none
def nextY : Prim Empty := fun args hh => match args, hh with
  | [.pointer (some ⟨0, 0, none⟩)], [some (.inl (94, [.slice (some ⟨1, 0, some 13000⟩) n cp, .slice (some ⟨2, 0, some 1000⟩) fn fc, .int .i64 hd, .int .i64 ca, .int .i64 vi])), some (.inr (.inl (98, ⟨[.int .i64 0, .int .i64 0, .int .i64 0, .int .i64 0, .int .i64 0, .int .i64 0, .int .i64 0, .int .i64 0, .int .i64 0, .int .i64 0, .int .i64 0, .int .i64 0, .bool false], n2, [⟨c0, [], []⟩, ⟨c1, [], []⟩, ⟨c2, [], []⟩, ⟨c3, [], []⟩, ⟨c4, [], []⟩, ⟨c5, [], []⟩, ⟨c6, [], []⟩, ⟨c7, [], []⟩, ⟨c8, [], []⟩, ⟨c9, [], []⟩, ⟨c10, [], []⟩, ⟨gs, [], []⟩, ⟨[], lv, []⟩]⟩))), some (.inr (.inl (3, ⟨[.int .i64 0], f2, [⟨fr, [], []⟩]⟩)))] => some ⟨n2 = n ∧ fn = 0 ∧ f2 = fn ∧ fc = 0 ∧ cp = 0 ∧ c0.length = n ∧ c1.length = n ∧ c2.length = n ∧ c3.length = n ∧ c4.length = n ∧ c5.length = n ∧ c6.length = n ∧ c7.length = n ∧ c8.length = n ∧ c9.length = n ∧ c10.length = n ∧ gs.length = n ∧ lv.length = n ∧ n < 1000000, .int .i64 n, none, [some (.inl (94, [.slice (some ⟨3, 0, some 13000⟩) (n + 1) 0, .slice (some ⟨2, 0, some 1000⟩) fn fc, .int .i64 hd, .int .i64 ca, .int .i64 vi])), none, some (.inr (.inl (3, ⟨[.int .i64 0], f2, [⟨fr, [], []⟩]⟩))), some (.inr (.inl (98, ⟨[.int .i64 0, .int .i64 0, .int .i64 0, .int .i64 0, .int .i64 0, .int .i64 0, .int .i64 0, .int .i64 0, .int .i64 0, .int .i64 0, .int .i64 0, .int .i64 0, .bool false], (n + 1), [⟨c0 ++ [0], [], []⟩, ⟨c1 ++ [0], [], []⟩, ⟨c2 ++ [0], [], []⟩, ⟨c3 ++ [0], [], []⟩, ⟨c4 ++ [0], [], []⟩, ⟨c5 ++ [0], [], []⟩, ⟨c6 ++ [0], [], []⟩, ⟨c7 ++ [0], [], []⟩, ⟨c8 ++ [0], [], []⟩, ⟨c9 ++ [0], [], []⟩, ⟨c10 ++ [0], [], []⟩, ⟨gs ++ [0], [], []⟩, ⟨[], lv ++ [false], []⟩]⟩)))], [], [(0, 0)]⟩
  | _, _ => none
def nextN : Prim Empty := fun args hh => match args, hh with
  | [.pointer (some ⟨0, 0, none⟩)], [some (.inl (94, [.slice (some ⟨1, 0, some 13000⟩) n cp, .slice (some ⟨2, 0, some 1000⟩) fn fc, .int .i64 hd, .int .i64 ca, .int .i64 vi])), some (.inr (.inl (98, ⟨[.int .i64 0, .int .i64 0, .int .i64 0, .int .i64 0, .int .i64 0, .int .i64 0, .int .i64 0, .int .i64 0, .int .i64 0, .int .i64 0, .int .i64 0, .int .i64 0, .bool false], n2, [⟨c0, [], []⟩, ⟨c1, [], []⟩, ⟨c2, [], []⟩, ⟨c3, [], []⟩, ⟨c4, [], []⟩, ⟨c5, [], []⟩, ⟨c6, [], []⟩, ⟨c7, [], []⟩, ⟨c8, [], []⟩, ⟨c9, [], []⟩, ⟨c10, [], []⟩, ⟨gs, [], []⟩, ⟨[], lv, []⟩]⟩))), some (.inr (.inl (3, ⟨[.int .i64 0], f2, [⟨fr, [], []⟩]⟩)))] => some ⟨fn ≠ 0 ∧ f2 = fn ∧ fr.length = fn ∧ fc = 0 ∧ cp = 0 ∧ fn < 1000000, .int .i64 (fr.getD (fn - 1) 0), none, [some (.inl (94, [.slice (some ⟨1, 0, some 13000⟩) n 0, .slice (some ⟨2, 0, some 1000⟩) (fn - 1) 0, .int .i64 hd, .int .i64 ca, .int .i64 vi])), some (.inr (.inl (98, ⟨[.int .i64 0, .int .i64 0, .int .i64 0, .int .i64 0, .int .i64 0, .int .i64 0, .int .i64 0, .int .i64 0, .int .i64 0, .int .i64 0, .int .i64 0, .int .i64 0, .bool false], n2, [⟨c0, [], []⟩, ⟨c1, [], []⟩, ⟨c2, [], []⟩, ⟨c3, [], []⟩, ⟨c4, [], []⟩, ⟨c5, [], []⟩, ⟨c6, [], []⟩, ⟨c7, [], []⟩, ⟨c8, [], []⟩, ⟨c9, [], []⟩, ⟨c10, [], []⟩, ⟨gs, [], []⟩, ⟨[], lv, []⟩]⟩))), some (.inr (.inl (3, ⟨[.int .i64 0], (fn - 1), [⟨(fr.take (fn - 1)), [], []⟩]⟩)))], [], [(0, 0)]⟩
  | _, _ => none
def nextC : Con Empty := ⟨nextW, nextY, nextN⟩
theorem nextY_ok : PrimOk NoR Try.prog 56 (way nextC true) (nextC.go true) := by
  refine prim_at (fn := Try.f56) (root := codeOf Try.f56) (by kernel_rfl) (by kernel_rfl) (by kernel_rfl) fun args hh x hx => ?_
  unfold nextC Con.go nextY at hx
  simp only at hx
  split at hx
  · rename_i n cp fn fc hd ca vi n2 c0 c1 c2 c3 c4 c5 c6 c7 c8 c9 c10 gs lv f2 fr
    injection hx with hx
    subst hx
    refine ⟨by first | exact Nat.le_refl _ | exact Nat.le_succ _, (fun b hb => by cases hb), (fun hw => by first | rfl | cases hw), fun hon hv => ?_⟩
    obtain ⟨rfl, rfl, rfl, rfl, rfl, hc0, hc1, hc2, hc3, hc4, hc5, hc6, hc7, hc8, hc9, hc10, hg, hl, hv1⟩ := hv
    clear hon
    generalize hG : Rx.Ends (R := Empty) _ _ = G
    refine rx_ok (T := []) trivial mixed 200 ?_
    refine as_text (q := let zz2 := Value.int IntKind.i64; let zz1 := (0 : Int); Vc (fits (-1 : Int)) ∧ (true = true → Vc (0 + n2 ≤ n2 ∧ 1 ≤ 1 ∧ (n2 + 1) * 104 ≤ 140737488355328 ∧ n2 + 1 ≤ 140737488355328) ∧ Vc (fits ((↑(n2 + 1) : Int) - (1 : Int))) ∧ Post (G (zz2 ((↑(n2 + 1) : Int) - (1 : Int))) [some (Sum.inl (94, [Value.slice (some (Addr.mk 4 0 (some 13000))) (n2 + 1) 0, Value.slice (some (Addr.mk 2 0 (some 1000))) 0 0, zz2 hd, zz2 ca, zz2 vi])), none, some (Sum.inr (Sum.inl (3, Row.mk [zz2 0] 0 [Col.mk fr [] []]))), some (Sum.inr (Sum.inl (98, Row.mk [zz2 0, zz2 0, zz2 0, zz2 0, zz2 0, zz2 0, zz2 0, zz2 0, zz2 0, zz2 0, zz2 0, zz2 0, Value.bool false] 1 [Col.mk [zz1] [] [], Col.mk [zz1] [] [], Col.mk [zz1] [] [], Col.mk [zz1] [] [], Col.mk [zz1] [] [], Col.mk [zz1] [] [], Col.mk [zz1] [] [], Col.mk [zz1] [] [], Col.mk [zz1] [] [], Col.mk [zz1] [] [], Col.mk [zz1] [] [], Col.mk [zz1] [] [], Col.mk [] [false] []]))), some (Sum.inr (Sum.inl (98, Row.mk [zz2 0, zz2 0, zz2 0, zz2 0, zz2 0, zz2 0, zz2 0, zz2 0, zz2 0, zz2 0, zz2 0, zz2 0, Value.bool false] (n2 + 1) [Col.mk (cut c0 0 n2 ++ [zz1]) [] [], Col.mk (cut c1 0 n2 ++ [zz1]) [] [], Col.mk (cut c2 0 n2 ++ [zz1]) [] [], Col.mk (cut c3 0 n2 ++ [zz1]) [] [], Col.mk (cut c4 0 n2 ++ [zz1]) [] [], Col.mk (cut c5 0 n2 ++ [zz1]) [] [], Col.mk (cut c6 0 n2 ++ [zz1]) [] [], Col.mk (cut c7 0 n2 ++ [zz1]) [] [], Col.mk (cut c8 0 n2 ++ [zz1]) [] [], Col.mk (cut c9 0 n2 ++ [zz1]) [] [], Col.mk (cut c10 0 n2 ++ [zz1]) [] [], Col.mk (cut gs 0 n2 ++ [zz1]) [] [], Col.mk [] (cut lv 0 n2 ++ [false]) []])))])) ∧ (true = false → Vc (zz1 ≤ (-1 : Int) ∧ (-1 : Int) < zz1 ∧ 0 ≤ 0) ∧ Vc (0 < 0) ∧ Vc (zz1 ≤ (-1 : Int) ∧ (-1 : Int) ≤ zz1 ∧ 0 ≤ 0) ∧ Post (G (zz2 (List.getD fr 0 zz1)) [some (Sum.inl (94, [Value.slice (some (Addr.mk 1 0 (some 13000))) n2 0, Value.slice (some (Addr.mk 2 0 (some 1000))) 0 0, zz2 hd, zz2 ca, zz2 vi])), some (Sum.inr (Sum.inl (98, Row.mk [zz2 0, zz2 0, zz2 0, zz2 0, zz2 0, zz2 0, zz2 0, zz2 0, zz2 0, zz2 0, zz2 0, zz2 0, Value.bool false] n2 [Col.mk c0 [] [], Col.mk c1 [] [], Col.mk c2 [] [], Col.mk c3 [] [], Col.mk c4 [] [], Col.mk c5 [] [], Col.mk c6 [] [], Col.mk c7 [] [], Col.mk c8 [] [], Col.mk c9 [] [], Col.mk c10 [] [], Col.mk gs [] [], Col.mk [] lv []]))), some (Sum.inr (Sum.inl (3, Row.mk [zz2 0] 0 [Col.mk fr [] []])))]))) ?_ (by kernel_rfl)
    intro zz2 zz1; subst zz1 zz2
    subst hG
    simp only [cut_eq hc0, cut_eq hc1, cut_eq hc2, cut_eq hc3, cut_eq hc4, cut_eq hc5, cut_eq hc6, cut_eq hc7, cut_eq hc8, cut_eq hc9, cut_eq hc10, cut_eq hg, cut_eq hl, Nat.zero_add]
    repeat' (first | apply And.intro | apply Vc.mk | apply fits.mk | intro h | apply Post.mk)
    all_goals (try simp only [decide_eq_true_eq, decide_eq_false_iff_not, Nat.zero_add, ge_iff_le, Int.not_le, Int.not_lt, Int.toNat_natCast, beq_iff_eq, beq_eq_false_iff_ne, bne_iff_ne, bne_eq_false_iff_eq, Bool.not_eq_true', Bool.not_eq_false'] at *)
    all_goals first | contradiction | omega | (apply congrArg Value.bool; assumption) | exact congrArg Value.bool (decide_eq_true (by assumption)) | exact congrArg Value.bool (decide_eq_false (Int.not_lt.mpr (by assumption))) | exact ⟨rfl, by omega⟩ | exact rfl | (simp [*, -List.getD_eq_getElem?_getD]; done) | skip
    all_goals first | omega | (exfalso; omega) | skip
    all_goals (refine ⟨[0, 1, 2, 4], ?_, rfl, ?_, rfl, rfl, rfl, (by kernel_rfl)⟩)
    · simp [dnV, mvV]
    · simp [Pulls, pullB, nth, at2, dnL, dnV, mvL, mvV, mvA, mvQ_lt, blt_true, blt_false, RowLe, colI, colB]
      all_goals first | rfl | (left; rfl) | skip
  · cases hx
theorem nextN_ok : PrimOk NoR Try.prog 56 (way nextC false) (nextC.go false) := by
  refine prim_at (fn := Try.f56) (root := codeOf Try.f56) (by kernel_rfl) (by kernel_rfl) (by kernel_rfl) fun args hh x hx => ?_
  unfold nextC Con.go nextN at hx
  simp only at hx
  split at hx
  · rename_i n cp fn fc hd ca vi n2 c0 c1 c2 c3 c4 c5 c6 c7 c8 c9 c10 gs lv f2 fr
    injection hx with hx
    subst hx
    refine ⟨by first | exact Nat.le_refl _ | exact Nat.le_succ _, (fun b hb => by cases hb), (fun hw => by first | rfl | cases hw), fun hon hv => ?_⟩
    obtain ⟨h0, rfl, hf, rfl, rfl, hv1⟩ := hv
    clear hon
    generalize hG : Rx.Ends (R := Empty) _ _ = G
    refine rx_ok (T := []) trivial mixed 200 ?_
    refine as_text (q := let zz2 := Value.int IntKind.i64; let zz1 := (0 : Int); Vc (fits ((↑f2 : Int) - (1 : Int))) ∧ (decide ((↑f2 : Int) - (1 : Int) < zz1) = true → Vc (0 + n ≤ n2 ∧ 1 ≤ 1 ∧ (n + 1) * 104 ≤ 140737488355328 ∧ n + 1 ≤ 140737488355328) ∧ Vc (fits ((↑(n + 1) : Int) - (1 : Int))) ∧ Post (G (zz2 ((↑(n + 1) : Int) - (1 : Int))) [some (Sum.inl (94, [Value.slice (some (Addr.mk 4 0 (some 13000))) (n + 1) 0, Value.slice (some (Addr.mk 2 0 (some 1000))) f2 0, zz2 hd, zz2 ca, zz2 vi])), none, some (Sum.inr (Sum.inl (3, Row.mk [zz2 0] f2 [Col.mk fr [] []]))), some (Sum.inr (Sum.inl (98, Row.mk [zz2 0, zz2 0, zz2 0, zz2 0, zz2 0, zz2 0, zz2 0, zz2 0, zz2 0, zz2 0, zz2 0, zz2 0, Value.bool false] 1 [Col.mk [zz1] [] [], Col.mk [zz1] [] [], Col.mk [zz1] [] [], Col.mk [zz1] [] [], Col.mk [zz1] [] [], Col.mk [zz1] [] [], Col.mk [zz1] [] [], Col.mk [zz1] [] [], Col.mk [zz1] [] [], Col.mk [zz1] [] [], Col.mk [zz1] [] [], Col.mk [zz1] [] [], Col.mk [] [false] []]))), some (Sum.inr (Sum.inl (98, Row.mk [zz2 0, zz2 0, zz2 0, zz2 0, zz2 0, zz2 0, zz2 0, zz2 0, zz2 0, zz2 0, zz2 0, zz2 0, Value.bool false] (n + 1) [Col.mk (cut c0 0 n ++ [zz1]) [] [], Col.mk (cut c1 0 n ++ [zz1]) [] [], Col.mk (cut c2 0 n ++ [zz1]) [] [], Col.mk (cut c3 0 n ++ [zz1]) [] [], Col.mk (cut c4 0 n ++ [zz1]) [] [], Col.mk (cut c5 0 n ++ [zz1]) [] [], Col.mk (cut c6 0 n ++ [zz1]) [] [], Col.mk (cut c7 0 n ++ [zz1]) [] [], Col.mk (cut c8 0 n ++ [zz1]) [] [], Col.mk (cut c9 0 n ++ [zz1]) [] [], Col.mk (cut c10 0 n ++ [zz1]) [] [], Col.mk (cut gs 0 n ++ [zz1]) [] [], Col.mk [] (cut lv 0 n ++ [false]) []])))])) ∧ (decide ((↑f2 : Int) - (1 : Int) < zz1) = false → Vc (zz1 ≤ (↑f2 : Int) - (1 : Int) ∧ (↑f2 : Int) - (1 : Int) < (↑f2 : Int) ∧ 0 + f2 ≤ f2) ∧ Vc (0 + Int.toNat ((↑f2 : Int) - (1 : Int)) < f2) ∧ Vc (zz1 ≤ (↑f2 : Int) - (1 : Int) ∧ (↑f2 : Int) - (1 : Int) ≤ (↑f2 : Int) ∧ 0 + f2 ≤ f2) ∧ Post (G (zz2 (List.getD fr (0 + Int.toNat ((↑f2 : Int) - (1 : Int))) zz1)) [some (Sum.inl (94, [Value.slice (some (Addr.mk 1 0 (some 13000))) n 0, Value.slice (some (Addr.mk 2 0 (some 1000))) (Int.toNat ((↑f2 : Int) - (1 : Int))) 0, zz2 hd, zz2 ca, zz2 vi])), some (Sum.inr (Sum.inl (98, Row.mk [zz2 0, zz2 0, zz2 0, zz2 0, zz2 0, zz2 0, zz2 0, zz2 0, zz2 0, zz2 0, zz2 0, zz2 0, Value.bool false] n2 [Col.mk c0 [] [], Col.mk c1 [] [], Col.mk c2 [] [], Col.mk c3 [] [], Col.mk c4 [] [], Col.mk c5 [] [], Col.mk c6 [] [], Col.mk c7 [] [], Col.mk c8 [] [], Col.mk c9 [] [], Col.mk c10 [] [], Col.mk gs [] [], Col.mk [] lv []]))), some (Sum.inr (Sum.inl (3, Row.mk [zz2 0] f2 [Col.mk fr [] []])))]))) ?_ (by kernel_rfl)
    intro zz2 zz1; subst zz1 zz2
    subst hG
    have e1 : ((f2 : Int) - 1).toNat = f2 - 1 := by omega
    simp only [e1, Nat.zero_add]
    repeat' (first | apply And.intro | apply Vc.mk | apply fits.mk | intro h | apply Post.mk)
    all_goals (try simp only [decide_eq_true_eq, decide_eq_false_iff_not, Nat.zero_add, ge_iff_le, Int.not_le, Int.not_lt, Int.toNat_natCast, beq_iff_eq, beq_eq_false_iff_ne, bne_iff_ne, bne_eq_false_iff_eq, Bool.not_eq_true', Bool.not_eq_false'] at *)
    all_goals first | contradiction | omega | (apply congrArg Value.bool; assumption) | exact congrArg Value.bool (decide_eq_true (by assumption)) | exact congrArg Value.bool (decide_eq_false (Int.not_lt.mpr (by assumption))) | exact ⟨rfl, by omega⟩ | exact rfl | (simp [*, -List.getD_eq_getElem?_getD]; done) | skip
    all_goals first | omega | (exfalso; omega) | skip
    all_goals (refine ⟨[0, 1, 2], ?_, rfl, ?_, rfl, rfl, rfl, (by kernel_rfl)⟩)
    · simp [dnV, mvV]
    · simp [Pulls, pullB, nth, at2, dnL, dnV, mvL, mvV, mvA, mvQ_lt, blt_true, blt_false, RowLe, colI, colB]
      exact .inr ⟨rfl, Nat.sub_le _ _, by simp [headCol]⟩
  · cases hx
theorem next_ok : ConOk NoR Try.prog 56 nextC := fun b => by cases b; exact nextN_ok; exact nextY_ok
end Go.Proofs.Ytclagkjjgmeifaa.G7


/- grove: a pool of nodes of keys and numbers: the pool's functions. -/
namespace Go.Proofs.Ytclagkjjgmeifaa.G7
open Go.Proofs.Ytclagkjjgmeifaa.Rx
set_option linter.unusedVariables false
set_option linter.unusedSimpArgs false
set_option maxRecDepth 100000
def TA : Tab Empty := [(56, liftC zN 2 nextC), (58, liftC zN 2 visitC)]
theorem TA_ok : TabOk NoR Try.prog TA := ⟨liftC_ok _ _ next_ok, liftC_ok _ _ visit_ok, trivial⟩
abbrev PP (m : Pl) : Prop := Gv.POk 100000 m
abbrev zd : Nd := Gv.zn O7
theorem hasC_eq (m : Pl) (i g : Int) : hasC m.vs.length m.gens m.live i g = Gv.has m ⟨i, g⟩ := rfl
theorem map_get {α : Type} (f : Nd → α) (m : Pl) (k : Nat) (a : α) (ha : f zd = a) : (m.vs.map f).getD k a = f (m.vs.getD k zd) := by
  subst ha
  simp only [List.getD_eq_getElem?_getD, List.getElem?_map]
  cases m.vs[k]? <;> rfl
theorem map_snoc {α : Type} (f : Nd → α) (l : List Nd) (a : α) (ha : f zd = a) : l.map f ++ [a] = (l ++ [zd]).map f := by
  subst ha
  simp
theorem has_at {m : Pl} {i g : Int} (h : Gv.has m ⟨i, g⟩ = true) : 0 ≤ i ∧ i < m.vs.length ∧ m.live.getD i.toNat false = true ∧ m.gens.getD i.toNat 0 = g := Gv.has_spec h
theorem map_set {α : Type} (f : Nd → α) (l : List Nd) (k : Nat) (n : Nd) (a : α) (ha : f n = a) : (l.map f).set k a = (l.set k n).map f := by
  subst ha
  exact (List.map_set).symm
def newP : Prim Rs := fun args hh => match args, hh with
  | [.int .i64 c], [] => some ⟨True, .pointer (some ⟨0, 0, none⟩), none, [some (.inr (.inr (.inr (.pool ⟨[], [], [], [], 0, min (max c 0) 16777216, 0⟩))))], [], [(0, 0)]⟩
  | _, _ => none
theorem new_ok : ConOk D Try.prog 39 (con1 newP) := by
  refine con1_ok (res_prim (L := L) (D0 := NoR) (fn := Try.f39) (root := codeOf Try.f39) (by kernel_rfl) (by kernel_rfl) (by kernel_rfl) fun args hh x hx => ?_)
  unfold newP at hx
  split at hx
  · rename_i c
    injection hx with hx
    subst hx
    refine ⟨by first | exact Nat.le_refl _ | exact Nat.zero_le _ | exact Nat.le_succ _, noLit rfl, (fun hw => by first | rfl | cases hw), fun _ hv => ?_⟩
    generalize hG : EndsU (R := Rs) (R0 := Empty) _ _ _ = G
    refine rx_ok (T := TA) TA_ok mixed 200 ?_
    refine as_text (q := Post (G (Value.pointer (some (Addr.mk 0 0 none))) [some (Sum.inl (94, [Value.slice none 0 0, Value.slice none 0 0, Value.int IntKind.i64 0, Value.int IntKind.i64 (if (16777216 : Int) < if (0 : Int) > c then (0 : Int) else c then (16777216 : Int) else if (0 : Int) > c then (0 : Int) else c), Value.int IntKind.i64 0]))])) ?_ (by kernel_rfl)
    subst hG
    refine ⟨⟨[0, 1, 1], rfl, rfl, ?_, rfl, rfl, rfl, rfl, rfl⟩⟩
    have e : (if 16777216 < if 0 > c then 0 else c then 16777216 else if 0 > c then 0 else c) = min (max c 0) 16777216 := by
      by_cases h1 : 0 > c
      · rw [if_pos h1]; simp; omega
      · rw [if_neg h1]; split <;> omega
    simp [layPool, unf, unfGo, unfB, off, width, L, lay, newHp, mvO, mvSB, Pulls, pullB, nth, at2, dnL, dnV, mvL, mvV, mvA, mvQ_lt, blt_true, blt_false, RowLe, colI, colB, e]
    exact ⟨⟨rfl, Nat.succ_pos _, rfl⟩, ⟨rfl, Nat.succ_pos _, rfl⟩⟩
  · cases hx
def getP : Prim Rs := fun args hh => match args, hh with
  | [.pointer (some ⟨0, 0, none⟩), .agg ⟨[.int .i64 i, .int .i64 g]⟩], [some (.inr (.inr (.inr (.pool m))))] => some ⟨PP m, .tuple #[.agg ⟨[.int .i64 (Gv.look zd m ⟨i, g⟩).e.k, .int .i64 (Gv.look zd m ⟨i, g⟩).e.w, .int .i64 (Gv.look zd m ⟨i, g⟩).l.i, .int .i64 (Gv.look zd m ⟨i, g⟩).l.g, .int .i64 (Gv.look zd m ⟨i, g⟩).r.i, .int .i64 (Gv.look zd m ⟨i, g⟩).r.g, .int .i64 (Gv.look zd m ⟨i, g⟩).all.n, .int .i64 (Gv.look zd m ⟨i, g⟩).all.sum.n, .int .i64 (Gv.look zd m ⟨i, g⟩).all.sum.s, .int .i64 (Gv.look zd m ⟨i, g⟩).all.sum.l, .int .i64 (Gv.look zd m ⟨i, g⟩).h]⟩, .bool (Gv.has m ⟨i, g⟩)], none, [some (.inr (.inr (.inr (.pool (Gv.see m ⟨i, g⟩)))))], [], [(0, 0)]⟩
  | _, _ => none
theorem get_ok : ConOk D Try.prog 59 (con1 getP) := by
  refine con1_ok (res_prim (L := L) (D0 := NoR) (fn := Try.f59) (root := codeOf Try.f59) (by kernel_rfl) (by kernel_rfl) (by kernel_rfl) fun args hh x hx => ?_)
  unfold getP at hx
  split at hx
  · rename_i i g m
    injection hx with hx
    subst hx
    refine ⟨by first | exact Nat.le_refl _ | exact Nat.zero_le _ | exact Nat.le_succ _, noLit rfl, (fun hw => by first | rfl | cases hw), fun _ hv => ?_⟩
    generalize hG : EndsU (R := Rs) (R0 := Empty) _ _ _ = G
    refine rx_ok (T := TA) TA_ok mixed 200 ?_
    refine as_text (q := let zz3 := Value.int IntKind.i64; let zz1 := (Gv.PM.vs m); let zz2 := (Int.toNat i); (hasC (List.length zz1) (Gv.PM.gens m) (Gv.PM.live m) i g = true → Vc (List.length zz1 = List.length zz1 ∧ List.length (Gv.PM.gens m) = List.length zz1 ∧ List.length (Gv.PM.live m) = List.length zz1 ∧ List.length zz1 < 1000000) ∧ Vc (Int.toNat i < List.length zz1) ∧ Post (G (Value.tuple (Array.mk [Value.agg (Array.mk [zz3 (List.getD (List.map (fun n => El.k (Gv.Node.e n)) zz1) zz2 (0 : Int)), zz3 (List.getD (List.map (fun n => El.w (Gv.Node.e n)) zz1) zz2 (0 : Int)), zz3 (List.getD (List.map (fun n => Gv.Ref.i (Gv.Node.l n)) zz1) zz2 (0 : Int)), zz3 (List.getD (List.map (fun n => Gv.Ref.g (Gv.Node.l n)) zz1) zz2 (0 : Int)), zz3 (List.getD (List.map (fun n => Gv.Ref.i (Gv.Node.r n)) zz1) zz2 (0 : Int)), zz3 (List.getD (List.map (fun n => Gv.Ref.g (Gv.Node.r n)) zz1) zz2 (0 : Int)), zz3 (List.getD (List.map (fun n => Gv.Part.n (Gv.Node.all n)) zz1) zz2 (0 : Int)), zz3 (List.getD (List.map (fun n => Ti.Td.n (Gv.Part.sum (Gv.Node.all n))) zz1) zz2 (0 : Int)), zz3 (List.getD (List.map (fun n => Ti.Td.s (Gv.Part.sum (Gv.Node.all n))) zz1) zz2 (0 : Int)), zz3 (List.getD (List.map (fun n => Ti.Td.l (Gv.Part.sum (Gv.Node.all n))) zz1) zz2 (0 : Int)), zz3 (List.getD (List.map (fun n => Gv.Node.h n) zz1) zz2 (0 : Int))]), Value.bool true])) [some (Sum.inl (94, [Value.slice (some (Addr.mk 1 0 (some 13000))) (List.length zz1) 0, Value.slice (some (Addr.mk 2 0 (some 1000))) (List.length (Gv.PM.free m)) 0, zz3 (Gv.PM.held m), zz3 (Gv.PM.cap m), zz3 (IntKind.wrap IntKind.i64 (Gv.PM.visits m + (1 : Int)))])), some (Sum.inr (Sum.inl (98, Row.mk [zz3 0, zz3 0, zz3 0, zz3 0, zz3 0, zz3 0, zz3 0, zz3 0, zz3 0, zz3 0, zz3 0, zz3 0, Value.bool false] (List.length zz1) [Col.mk (List.map (fun n => El.k (Gv.Node.e n)) zz1) [] [], Col.mk (List.map (fun n => El.w (Gv.Node.e n)) zz1) [] [], Col.mk (List.map (fun n => Gv.Ref.i (Gv.Node.l n)) zz1) [] [], Col.mk (List.map (fun n => Gv.Ref.g (Gv.Node.l n)) zz1) [] [], Col.mk (List.map (fun n => Gv.Ref.i (Gv.Node.r n)) zz1) [] [], Col.mk (List.map (fun n => Gv.Ref.g (Gv.Node.r n)) zz1) [] [], Col.mk (List.map (fun n => Gv.Part.n (Gv.Node.all n)) zz1) [] [], Col.mk (List.map (fun n => Ti.Td.n (Gv.Part.sum (Gv.Node.all n))) zz1) [] [], Col.mk (List.map (fun n => Ti.Td.s (Gv.Part.sum (Gv.Node.all n))) zz1) [] [], Col.mk (List.map (fun n => Ti.Td.l (Gv.Part.sum (Gv.Node.all n))) zz1) [] [], Col.mk (List.map (fun n => Gv.Node.h n) zz1) [] [], Col.mk (Gv.PM.gens m) [] [], Col.mk [] (Gv.PM.live m) []]))), some (Sum.inr (Sum.inl (3, Row.mk [zz3 0] (List.length (Gv.PM.free m)) [Col.mk (Gv.PM.free m) [] []]))), some (Sum.inl (70, [zz3 i, zz3 g])), some (Sum.inl (74, [zz3 (List.getD (List.map (fun n => El.k (Gv.Node.e n)) zz1) zz2 (0 : Int)), zz3 (List.getD (List.map (fun n => El.w (Gv.Node.e n)) zz1) zz2 (0 : Int)), zz3 (List.getD (List.map (fun n => Gv.Ref.i (Gv.Node.l n)) zz1) zz2 (0 : Int)), zz3 (List.getD (List.map (fun n => Gv.Ref.g (Gv.Node.l n)) zz1) zz2 (0 : Int)), zz3 (List.getD (List.map (fun n => Gv.Ref.i (Gv.Node.r n)) zz1) zz2 (0 : Int)), zz3 (List.getD (List.map (fun n => Gv.Ref.g (Gv.Node.r n)) zz1) zz2 (0 : Int)), zz3 (List.getD (List.map (fun n => Gv.Part.n (Gv.Node.all n)) zz1) zz2 (0 : Int)), zz3 (List.getD (List.map (fun n => Ti.Td.n (Gv.Part.sum (Gv.Node.all n))) zz1) zz2 (0 : Int)), zz3 (List.getD (List.map (fun n => Ti.Td.s (Gv.Part.sum (Gv.Node.all n))) zz1) zz2 (0 : Int)), zz3 (List.getD (List.map (fun n => Ti.Td.l (Gv.Part.sum (Gv.Node.all n))) zz1) zz2 (0 : Int)), zz3 (List.getD (List.map (fun n => Gv.Node.h n) zz1) zz2 (0 : Int))]))])) ∧ (hasC (List.length zz1) (Gv.PM.gens m) (Gv.PM.live m) i g = false → Vc (List.length zz1 = List.length zz1 ∧ List.length (Gv.PM.gens m) = List.length zz1 ∧ List.length (Gv.PM.live m) = List.length zz1 ∧ List.length zz1 < 1000000) ∧ Post (G (Value.tuple (Array.mk [Value.agg (Array.mk [zz3 0, zz3 0, zz3 0, zz3 0, zz3 0, zz3 0, zz3 0, zz3 0, zz3 0, zz3 0, zz3 0]), Value.bool false])) [some (Sum.inl (94, [Value.slice (some (Addr.mk 1 0 (some 13000))) (List.length zz1) 0, Value.slice (some (Addr.mk 2 0 (some 1000))) (List.length (Gv.PM.free m)) 0, zz3 (Gv.PM.held m), zz3 (Gv.PM.cap m), zz3 (Gv.PM.visits m)])), some (Sum.inr (Sum.inl (98, Row.mk [zz3 0, zz3 0, zz3 0, zz3 0, zz3 0, zz3 0, zz3 0, zz3 0, zz3 0, zz3 0, zz3 0, zz3 0, Value.bool false] (List.length zz1) [Col.mk (List.map (fun n => El.k (Gv.Node.e n)) zz1) [] [], Col.mk (List.map (fun n => El.w (Gv.Node.e n)) zz1) [] [], Col.mk (List.map (fun n => Gv.Ref.i (Gv.Node.l n)) zz1) [] [], Col.mk (List.map (fun n => Gv.Ref.g (Gv.Node.l n)) zz1) [] [], Col.mk (List.map (fun n => Gv.Ref.i (Gv.Node.r n)) zz1) [] [], Col.mk (List.map (fun n => Gv.Ref.g (Gv.Node.r n)) zz1) [] [], Col.mk (List.map (fun n => Gv.Part.n (Gv.Node.all n)) zz1) [] [], Col.mk (List.map (fun n => Ti.Td.n (Gv.Part.sum (Gv.Node.all n))) zz1) [] [], Col.mk (List.map (fun n => Ti.Td.s (Gv.Part.sum (Gv.Node.all n))) zz1) [] [], Col.mk (List.map (fun n => Ti.Td.l (Gv.Part.sum (Gv.Node.all n))) zz1) [] [], Col.mk (List.map (fun n => Gv.Node.h n) zz1) [] [], Col.mk (Gv.PM.gens m) [] [], Col.mk [] (Gv.PM.live m) []]))), some (Sum.inr (Sum.inl (3, Row.mk [zz3 0] (List.length (Gv.PM.free m)) [Col.mk (Gv.PM.free m) [] []]))), some (Sum.inl (70, [zz3 i, zz3 g])), some (Sum.inl (74, [zz3 0, zz3 0, zz3 0, zz3 0, zz3 0, zz3 0, zz3 0, zz3 0, zz3 0, zz3 0, zz3 0])), some (Sum.inl (74, [zz3 0, zz3 0, zz3 0, zz3 0, zz3 0, zz3 0, zz3 0, zz3 0, zz3 0, zz3 0, zz3 0]))]))) ?_ (by kernel_rfl)
    intro zz3 zz1 zz2; subst zz2 zz1 zz3
    subst hG
    have v1 := hv.gens
    have v2 := hv.live
    have v3 := hv.cells
    have v4 := hv.frees
    have v5 := hv.hld
    simp only [hasC_eq, map_get (fun n : Nd => n.e.k) m _ 0 rfl, map_get (fun n : Nd => n.e.w) m _ 0 rfl, map_get (fun n : Nd => n.l.i) m _ 0 rfl, map_get (fun n : Nd => n.l.g) m _ 0 rfl, map_get (fun n : Nd => n.r.i) m _ 0 rfl, map_get (fun n : Nd => n.r.g) m _ 0 rfl, map_get (fun n : Nd => n.all.n) m _ 0 rfl, map_get (fun n : Nd => n.all.sum.n) m _ 0 rfl, map_get (fun n : Nd => n.all.sum.s) m _ 0 rfl, map_get (fun n : Nd => n.all.sum.l) m _ 0 rfl, map_get (fun n : Nd => n.h) m _ 0 rfl, Nat.zero_add]
    repeat' (first | apply And.intro | apply Vc.mk | apply fits.mk | intro h | apply Post.mk)
    all_goals (try simp only [decide_eq_true_eq, decide_eq_false_iff_not, Nat.zero_add, ge_iff_le, Int.not_le, Int.not_lt, Int.toNat_natCast, beq_iff_eq, beq_eq_false_iff_ne, bne_iff_ne, bne_eq_false_iff_eq, Bool.not_eq_true', Bool.not_eq_false'] at *)
    all_goals first | contradiction | omega | (apply congrArg Value.bool; assumption) | exact congrArg Value.bool (decide_eq_true (by assumption)) | exact congrArg Value.bool (decide_eq_false (Int.not_lt.mpr (by assumption))) | exact ⟨rfl, by omega⟩ | exact rfl | (simp [*, -List.getD_eq_getElem?_getD]; done) | skip
    all_goals first | omega | (have := has_at (by assumption); omega) | skip
    · have h : Gv.has m ⟨i, g⟩ = true := by assumption
      refine ⟨[0, 1, 2], ?_, rfl, ?_, rfl, rfl, rfl, rfl, rfl⟩
      · simp only [mvV, mvL, dnV, dnL, Gv.look, h, if_true]
      · simp [layPool, unf, unfGo, unfB, off, width, L, lay, newHp, mvO, mvSB, Pulls, pullB, nth, at2, dnL, dnV, mvL, mvV, mvA, mvQ_lt, blt_true, blt_false, RowLe, colI, colB, Gv.see, Gv.seen, h]
    · have h : Gv.has m ⟨i, g⟩ = false := by assumption
      refine ⟨[0, 1, 2], ?_, rfl, ?_, rfl, rfl, rfl, rfl, rfl⟩
      · simp only [mvV, mvL, dnV, dnL, Gv.look, h, Bool.false_eq_true, if_false]
        rfl
      · simp [layPool, unf, unfGo, unfB, off, width, L, lay, newHp, mvO, mvSB, Pulls, pullB, nth, at2, dnL, dnV, mvL, mvV, mvA, mvQ_lt, blt_true, blt_false, RowLe, colI, colB, Gv.see, h]
  · cases hx
def setP : Prim Rs := fun args hh => match args, hh with
  | [.pointer (some ⟨0, 0, none⟩), .agg ⟨[.int .i64 i, .int .i64 g]⟩, .agg ⟨[.int .i64 x0, .int .i64 x1, .int .i64 x2, .int .i64 x3, .int .i64 x4, .int .i64 x5, .int .i64 x6, .int .i64 x7, .int .i64 x8, .int .i64 x9, .int .i64 x10]⟩], [some (.inr (.inr (.inr (.pool m))))] => some ⟨PP m, .bool (Gv.has m ⟨i, g⟩), none, [some (.inr (.inr (.inr (.pool (Gv.put1 m ⟨i, g⟩ (⟨⟨x0, x1⟩, ⟨x2, x3⟩, ⟨x4, x5⟩, ⟨x6, ⟨x7, x8, x9⟩⟩, x10⟩ : Nd))))))], [], [(0, 0)]⟩
  | _, _ => none
theorem set_ok : ConOk D Try.prog 66 (con1 setP) := by
  refine con1_ok (res_prim (L := L) (D0 := NoR) (fn := Try.f66) (root := codeOf Try.f66) (by kernel_rfl) (by kernel_rfl) (by kernel_rfl) fun args hh x hx => ?_)
  unfold setP at hx
  split at hx
  · rename_i i g x0 x1 x2 x3 x4 x5 x6 x7 x8 x9 x10 m
    injection hx with hx
    subst hx
    refine ⟨by first | exact Nat.le_refl _ | exact Nat.zero_le _ | exact Nat.le_succ _, noLit rfl, (fun hw => by first | rfl | cases hw), fun _ hv => ?_⟩
    generalize hG : EndsU (R := Rs) (R0 := Empty) _ _ _ = G
    refine rx_ok (T := TA) TA_ok mixed 200 ?_
    refine as_text (q := let zz4 := Value.int IntKind.i64; let zz1 := (Gv.PM.vs m); let zz2 := (List.length zz1); let zz3 := (Int.toNat i); (hasC zz2 (Gv.PM.gens m) (Gv.PM.live m) i g = true → Vc (List.length zz1 = List.length zz1 ∧ List.length (Gv.PM.gens m) = List.length zz1 ∧ List.length (Gv.PM.live m) = List.length zz1 ∧ List.length zz1 < 1000000) ∧ Vc (Int.toNat i < List.length zz1) ∧ Post (G (Value.bool true) [some (Sum.inl (94, [Value.slice (some (Addr.mk 1 0 (some 13000))) zz2 0, Value.slice (some (Addr.mk 2 0 (some 1000))) (List.length (Gv.PM.free m)) 0, zz4 (Gv.PM.held m), zz4 (Gv.PM.cap m), zz4 (IntKind.wrap IntKind.i64 (Gv.PM.visits m + (1 : Int)))])), some (Sum.inr (Sum.inl (98, Row.mk [zz4 0, zz4 0, zz4 0, zz4 0, zz4 0, zz4 0, zz4 0, zz4 0, zz4 0, zz4 0, zz4 0, zz4 0, Value.bool false] zz2 [Col.mk (List.set (List.map (fun n => El.k (Gv.Node.e n)) zz1) zz3 x0) [] [], Col.mk (List.set (List.map (fun n => El.w (Gv.Node.e n)) zz1) zz3 x1) [] [], Col.mk (List.set (List.map (fun n => Gv.Ref.i (Gv.Node.l n)) zz1) zz3 x2) [] [], Col.mk (List.set (List.map (fun n => Gv.Ref.g (Gv.Node.l n)) zz1) zz3 x3) [] [], Col.mk (List.set (List.map (fun n => Gv.Ref.i (Gv.Node.r n)) zz1) zz3 x4) [] [], Col.mk (List.set (List.map (fun n => Gv.Ref.g (Gv.Node.r n)) zz1) zz3 x5) [] [], Col.mk (List.set (List.map (fun n => Gv.Part.n (Gv.Node.all n)) zz1) zz3 x6) [] [], Col.mk (List.set (List.map (fun n => Ti.Td.n (Gv.Part.sum (Gv.Node.all n))) zz1) zz3 x7) [] [], Col.mk (List.set (List.map (fun n => Ti.Td.s (Gv.Part.sum (Gv.Node.all n))) zz1) zz3 x8) [] [], Col.mk (List.set (List.map (fun n => Ti.Td.l (Gv.Part.sum (Gv.Node.all n))) zz1) zz3 x9) [] [], Col.mk (List.set (List.map (fun n => Gv.Node.h n) zz1) zz3 x10) [] [], Col.mk (Gv.PM.gens m) [] [], Col.mk [] (Gv.PM.live m) []]))), some (Sum.inr (Sum.inl (3, Row.mk [zz4 0] (List.length (Gv.PM.free m)) [Col.mk (Gv.PM.free m) [] []]))), some (Sum.inl (70, [zz4 i, zz4 g])), some (Sum.inl (74, [zz4 x0, zz4 x1, zz4 x2, zz4 x3, zz4 x4, zz4 x5, zz4 x6, zz4 x7, zz4 x8, zz4 x9, zz4 x10]))])) ∧ (hasC zz2 (Gv.PM.gens m) (Gv.PM.live m) i g = false → Vc (List.length zz1 = List.length zz1 ∧ List.length (Gv.PM.gens m) = List.length zz1 ∧ List.length (Gv.PM.live m) = List.length zz1 ∧ List.length zz1 < 1000000) ∧ Post (G (Value.bool false) [some (Sum.inl (94, [Value.slice (some (Addr.mk 1 0 (some 13000))) zz2 0, Value.slice (some (Addr.mk 2 0 (some 1000))) (List.length (Gv.PM.free m)) 0, zz4 (Gv.PM.held m), zz4 (Gv.PM.cap m), zz4 (Gv.PM.visits m)])), some (Sum.inr (Sum.inl (98, Row.mk [zz4 0, zz4 0, zz4 0, zz4 0, zz4 0, zz4 0, zz4 0, zz4 0, zz4 0, zz4 0, zz4 0, zz4 0, Value.bool false] zz2 [Col.mk (List.map (fun n => El.k (Gv.Node.e n)) zz1) [] [], Col.mk (List.map (fun n => El.w (Gv.Node.e n)) zz1) [] [], Col.mk (List.map (fun n => Gv.Ref.i (Gv.Node.l n)) zz1) [] [], Col.mk (List.map (fun n => Gv.Ref.g (Gv.Node.l n)) zz1) [] [], Col.mk (List.map (fun n => Gv.Ref.i (Gv.Node.r n)) zz1) [] [], Col.mk (List.map (fun n => Gv.Ref.g (Gv.Node.r n)) zz1) [] [], Col.mk (List.map (fun n => Gv.Part.n (Gv.Node.all n)) zz1) [] [], Col.mk (List.map (fun n => Ti.Td.n (Gv.Part.sum (Gv.Node.all n))) zz1) [] [], Col.mk (List.map (fun n => Ti.Td.s (Gv.Part.sum (Gv.Node.all n))) zz1) [] [], Col.mk (List.map (fun n => Ti.Td.l (Gv.Part.sum (Gv.Node.all n))) zz1) [] [], Col.mk (List.map (fun n => Gv.Node.h n) zz1) [] [], Col.mk (Gv.PM.gens m) [] [], Col.mk [] (Gv.PM.live m) []]))), some (Sum.inr (Sum.inl (3, Row.mk [zz4 0] (List.length (Gv.PM.free m)) [Col.mk (Gv.PM.free m) [] []]))), some (Sum.inl (70, [zz4 i, zz4 g])), some (Sum.inl (74, [zz4 x0, zz4 x1, zz4 x2, zz4 x3, zz4 x4, zz4 x5, zz4 x6, zz4 x7, zz4 x8, zz4 x9, zz4 x10]))]))) ?_ (by kernel_rfl)
    intro zz4 zz1 zz2 zz3; subst zz3 zz2 zz1 zz4
    subst hG
    have v1 := hv.gens
    have v2 := hv.live
    have v3 := hv.cells
    have v4 := hv.frees
    have v5 := hv.hld
    simp only [hasC_eq, map_set (fun n : Nd => n.e.k) m.vs _ (⟨⟨x0, x1⟩, ⟨x2, x3⟩, ⟨x4, x5⟩, ⟨x6, ⟨x7, x8, x9⟩⟩, x10⟩ : Nd) x0 rfl, map_set (fun n : Nd => n.e.w) m.vs _ (⟨⟨x0, x1⟩, ⟨x2, x3⟩, ⟨x4, x5⟩, ⟨x6, ⟨x7, x8, x9⟩⟩, x10⟩ : Nd) x1 rfl, map_set (fun n : Nd => n.l.i) m.vs _ (⟨⟨x0, x1⟩, ⟨x2, x3⟩, ⟨x4, x5⟩, ⟨x6, ⟨x7, x8, x9⟩⟩, x10⟩ : Nd) x2 rfl, map_set (fun n : Nd => n.l.g) m.vs _ (⟨⟨x0, x1⟩, ⟨x2, x3⟩, ⟨x4, x5⟩, ⟨x6, ⟨x7, x8, x9⟩⟩, x10⟩ : Nd) x3 rfl, map_set (fun n : Nd => n.r.i) m.vs _ (⟨⟨x0, x1⟩, ⟨x2, x3⟩, ⟨x4, x5⟩, ⟨x6, ⟨x7, x8, x9⟩⟩, x10⟩ : Nd) x4 rfl, map_set (fun n : Nd => n.r.g) m.vs _ (⟨⟨x0, x1⟩, ⟨x2, x3⟩, ⟨x4, x5⟩, ⟨x6, ⟨x7, x8, x9⟩⟩, x10⟩ : Nd) x5 rfl, map_set (fun n : Nd => n.all.n) m.vs _ (⟨⟨x0, x1⟩, ⟨x2, x3⟩, ⟨x4, x5⟩, ⟨x6, ⟨x7, x8, x9⟩⟩, x10⟩ : Nd) x6 rfl, map_set (fun n : Nd => n.all.sum.n) m.vs _ (⟨⟨x0, x1⟩, ⟨x2, x3⟩, ⟨x4, x5⟩, ⟨x6, ⟨x7, x8, x9⟩⟩, x10⟩ : Nd) x7 rfl, map_set (fun n : Nd => n.all.sum.s) m.vs _ (⟨⟨x0, x1⟩, ⟨x2, x3⟩, ⟨x4, x5⟩, ⟨x6, ⟨x7, x8, x9⟩⟩, x10⟩ : Nd) x8 rfl, map_set (fun n : Nd => n.all.sum.l) m.vs _ (⟨⟨x0, x1⟩, ⟨x2, x3⟩, ⟨x4, x5⟩, ⟨x6, ⟨x7, x8, x9⟩⟩, x10⟩ : Nd) x9 rfl, map_set (fun n : Nd => n.h) m.vs _ (⟨⟨x0, x1⟩, ⟨x2, x3⟩, ⟨x4, x5⟩, ⟨x6, ⟨x7, x8, x9⟩⟩, x10⟩ : Nd) x10 rfl, Nat.zero_add]
    repeat' (first | apply And.intro | apply Vc.mk | apply fits.mk | intro h | apply Post.mk)
    all_goals (try simp only [decide_eq_true_eq, decide_eq_false_iff_not, Nat.zero_add, ge_iff_le, Int.not_le, Int.not_lt, Int.toNat_natCast, beq_iff_eq, beq_eq_false_iff_ne, bne_iff_ne, bne_eq_false_iff_eq, Bool.not_eq_true', Bool.not_eq_false'] at *)
    all_goals first | contradiction | omega | (apply congrArg Value.bool; assumption) | exact congrArg Value.bool (decide_eq_true (by assumption)) | exact congrArg Value.bool (decide_eq_false (Int.not_lt.mpr (by assumption))) | exact ⟨rfl, by omega⟩ | exact rfl | (simp [*, -List.getD_eq_getElem?_getD]; done) | skip
    all_goals first | omega | (have := has_at (by assumption); omega) | skip
    · have h : Gv.has m ⟨i, g⟩ = true := by assumption
      refine ⟨[0, 1, 2], ?_, rfl, ?_, rfl, rfl, rfl, rfl, rfl⟩
      · simp [mvV, mvL, dnV, dnL, h]
      · simp [layPool, unf, unfGo, unfB, off, width, L, lay, newHp, mvO, mvSB, Pulls, pullB, nth, at2, dnL, dnV, mvL, mvV, mvA, mvQ_lt, blt_true, blt_false, RowLe, colI, colB, Gv.put1, Gv.seen, h]
    · have h : Gv.has m ⟨i, g⟩ = false := by assumption
      refine ⟨[0, 1, 2], ?_, rfl, ?_, rfl, rfl, rfl, rfl, rfl⟩
      · simp [mvV, mvL, dnV, dnL, h]
      · simp [layPool, unf, unfGo, unfB, off, width, L, lay, newHp, mvO, mvSB, Pulls, pullB, nth, at2, dnL, dnV, mvL, mvV, mvA, mvQ_lt, blt_true, blt_false, RowLe, colI, colB, Gv.put1, h]
  · cases hx
def dropP : Prim Rs := fun args hh => match args, hh with
  | [.pointer (some ⟨0, 0, none⟩), .agg ⟨[.int .i64 i, .int .i64 g]⟩], [some (.inr (.inr (.inr (.pool m))))] => some ⟨PP m, .tuple #[.agg ⟨[.int .i64 (Gv.look zd m ⟨i, g⟩).e.k, .int .i64 (Gv.look zd m ⟨i, g⟩).e.w, .int .i64 (Gv.look zd m ⟨i, g⟩).l.i, .int .i64 (Gv.look zd m ⟨i, g⟩).l.g, .int .i64 (Gv.look zd m ⟨i, g⟩).r.i, .int .i64 (Gv.look zd m ⟨i, g⟩).r.g, .int .i64 (Gv.look zd m ⟨i, g⟩).all.n, .int .i64 (Gv.look zd m ⟨i, g⟩).all.sum.n, .int .i64 (Gv.look zd m ⟨i, g⟩).all.sum.s, .int .i64 (Gv.look zd m ⟨i, g⟩).all.sum.l, .int .i64 (Gv.look zd m ⟨i, g⟩).h]⟩, .bool (Gv.has m ⟨i, g⟩)], none, [some (.inr (.inr (.inr (.pool (Gv.drop zd m ⟨i, g⟩)))))], [], [(0, 0)]⟩
  | _, _ => none
theorem drop_ok : ConOk D Try.prog 45 (con1 dropP) := by
  refine con1_ok (res_prim (L := L) (D0 := NoR) (fn := Try.f45) (root := codeOf Try.f45) (by kernel_rfl) (by kernel_rfl) (by kernel_rfl) fun args hh x hx => ?_)
  unfold dropP at hx
  split at hx
  · rename_i i g m
    injection hx with hx
    subst hx
    refine ⟨by first | exact Nat.le_refl _ | exact Nat.zero_le _ | exact Nat.le_succ _, noLit rfl, (fun hw => by first | rfl | cases hw), fun _ hv => ?_⟩
    generalize hG : EndsU (R := Rs) (R0 := Empty) _ _ _ = G
    refine rx_ok (T := TA) TA_ok mixed 200 ?_
    refine as_text (q := let zz7 := Value.int IntKind.i64; let zz1 := (Gv.PM.vs m); let zz2 := (List.length zz1); let zz3 := (Int.toNat i < List.length zz1); let zz4 := (Int.toNat i); let zz5 := (0 : Int); let zz6 := (List.length (Gv.PM.free m)); (hasC zz2 (Gv.PM.gens m) (Gv.PM.live m) i g = true → Vc (List.length zz1 = List.length zz1 ∧ List.length (Gv.PM.gens m) = List.length zz1 ∧ List.length (Gv.PM.live m) = List.length zz1 ∧ List.length zz1 < 1000000) ∧ Vc zz3 ∧ Vc zz3 ∧ Vc zz3 ∧ Vc (fits (Gv.PM.held m - (1 : Int))) ∧ Vc zz3 ∧ (decide (List.getD (Gv.PM.gens m) zz4 zz5 < (4294967295 : Int)) = true → Vc (0 + List.length (Gv.PM.free m) ≤ List.length (Gv.PM.free m) ∧ 1 ≤ 1 ∧ (List.length (Gv.PM.free m) + 1) * 8 ≤ 140737488355328 ∧ List.length (Gv.PM.free m) + 1 ≤ 140737488355328) ∧ Post (G (Value.tuple (Array.mk [Value.agg (Array.mk [zz7 (List.getD (List.map (fun n => El.k (Gv.Node.e n)) zz1) zz4 zz5), zz7 (List.getD (List.map (fun n => El.w (Gv.Node.e n)) zz1) zz4 zz5), zz7 (List.getD (List.map (fun n => Gv.Ref.i (Gv.Node.l n)) zz1) zz4 zz5), zz7 (List.getD (List.map (fun n => Gv.Ref.g (Gv.Node.l n)) zz1) zz4 zz5), zz7 (List.getD (List.map (fun n => Gv.Ref.i (Gv.Node.r n)) zz1) zz4 zz5), zz7 (List.getD (List.map (fun n => Gv.Ref.g (Gv.Node.r n)) zz1) zz4 zz5), zz7 (List.getD (List.map (fun n => Gv.Part.n (Gv.Node.all n)) zz1) zz4 zz5), zz7 (List.getD (List.map (fun n => Ti.Td.n (Gv.Part.sum (Gv.Node.all n))) zz1) zz4 zz5), zz7 (List.getD (List.map (fun n => Ti.Td.s (Gv.Part.sum (Gv.Node.all n))) zz1) zz4 zz5), zz7 (List.getD (List.map (fun n => Ti.Td.l (Gv.Part.sum (Gv.Node.all n))) zz1) zz4 zz5), zz7 (List.getD (List.map (fun n => Gv.Node.h n) zz1) zz4 zz5)]), Value.bool true])) [some (Sum.inl (94, [Value.slice (some (Addr.mk 1 0 (some 13000))) zz2 0, Value.slice (some (Addr.mk 8 0 (some 1000))) (List.length (Gv.PM.free m) + 1) 0, zz7 (Gv.PM.held m - (1 : Int)), zz7 (Gv.PM.cap m), zz7 (IntKind.wrap IntKind.i64 (Gv.PM.visits m + (1 : Int)))])), some (Sum.inr (Sum.inl (98, Row.mk [zz7 0, zz7 0, zz7 0, zz7 0, zz7 0, zz7 0, zz7 0, zz7 0, zz7 0, zz7 0, zz7 0, zz7 0, Value.bool false] zz2 [Col.mk (List.set (List.map (fun n => El.k (Gv.Node.e n)) zz1) zz4 zz5) [] [], Col.mk (List.set (List.map (fun n => El.w (Gv.Node.e n)) zz1) zz4 zz5) [] [], Col.mk (List.set (List.map (fun n => Gv.Ref.i (Gv.Node.l n)) zz1) zz4 zz5) [] [], Col.mk (List.set (List.map (fun n => Gv.Ref.g (Gv.Node.l n)) zz1) zz4 zz5) [] [], Col.mk (List.set (List.map (fun n => Gv.Ref.i (Gv.Node.r n)) zz1) zz4 zz5) [] [], Col.mk (List.set (List.map (fun n => Gv.Ref.g (Gv.Node.r n)) zz1) zz4 zz5) [] [], Col.mk (List.set (List.map (fun n => Gv.Part.n (Gv.Node.all n)) zz1) zz4 zz5) [] [], Col.mk (List.set (List.map (fun n => Ti.Td.n (Gv.Part.sum (Gv.Node.all n))) zz1) zz4 zz5) [] [], Col.mk (List.set (List.map (fun n => Ti.Td.s (Gv.Part.sum (Gv.Node.all n))) zz1) zz4 zz5) [] [], Col.mk (List.set (List.map (fun n => Ti.Td.l (Gv.Part.sum (Gv.Node.all n))) zz1) zz4 zz5) [] [], Col.mk (List.set (List.map (fun n => Gv.Node.h n) zz1) zz4 zz5) [] [], Col.mk (Gv.PM.gens m) [] [], Col.mk [] (List.set (Gv.PM.live m) zz4 false) []]))), none, some (Sum.inl (70, [zz7 i, zz7 g])), some (Sum.inl (74, [zz7 (List.getD (List.map (fun n => El.k (Gv.Node.e n)) zz1) zz4 zz5), zz7 (List.getD (List.map (fun n => El.w (Gv.Node.e n)) zz1) zz4 zz5), zz7 (List.getD (List.map (fun n => Gv.Ref.i (Gv.Node.l n)) zz1) zz4 zz5), zz7 (List.getD (List.map (fun n => Gv.Ref.g (Gv.Node.l n)) zz1) zz4 zz5), zz7 (List.getD (List.map (fun n => Gv.Ref.i (Gv.Node.r n)) zz1) zz4 zz5), zz7 (List.getD (List.map (fun n => Gv.Ref.g (Gv.Node.r n)) zz1) zz4 zz5), zz7 (List.getD (List.map (fun n => Gv.Part.n (Gv.Node.all n)) zz1) zz4 zz5), zz7 (List.getD (List.map (fun n => Ti.Td.n (Gv.Part.sum (Gv.Node.all n))) zz1) zz4 zz5), zz7 (List.getD (List.map (fun n => Ti.Td.s (Gv.Part.sum (Gv.Node.all n))) zz1) zz4 zz5), zz7 (List.getD (List.map (fun n => Ti.Td.l (Gv.Part.sum (Gv.Node.all n))) zz1) zz4 zz5), zz7 (List.getD (List.map (fun n => Gv.Node.h n) zz1) zz4 zz5)])), some (Sum.inl (74, [zz7 0, zz7 0, zz7 0, zz7 0, zz7 0, zz7 0, zz7 0, zz7 0, zz7 0, zz7 0, zz7 0])), some (Sum.inl (74, [zz7 (List.getD (List.map (fun n => El.k (Gv.Node.e n)) zz1) zz4 zz5), zz7 (List.getD (List.map (fun n => El.w (Gv.Node.e n)) zz1) zz4 zz5), zz7 (List.getD (List.map (fun n => Gv.Ref.i (Gv.Node.l n)) zz1) zz4 zz5), zz7 (List.getD (List.map (fun n => Gv.Ref.g (Gv.Node.l n)) zz1) zz4 zz5), zz7 (List.getD (List.map (fun n => Gv.Ref.i (Gv.Node.r n)) zz1) zz4 zz5), zz7 (List.getD (List.map (fun n => Gv.Ref.g (Gv.Node.r n)) zz1) zz4 zz5), zz7 (List.getD (List.map (fun n => Gv.Part.n (Gv.Node.all n)) zz1) zz4 zz5), zz7 (List.getD (List.map (fun n => Ti.Td.n (Gv.Part.sum (Gv.Node.all n))) zz1) zz4 zz5), zz7 (List.getD (List.map (fun n => Ti.Td.s (Gv.Part.sum (Gv.Node.all n))) zz1) zz4 zz5), zz7 (List.getD (List.map (fun n => Ti.Td.l (Gv.Part.sum (Gv.Node.all n))) zz1) zz4 zz5), zz7 (List.getD (List.map (fun n => Gv.Node.h n) zz1) zz4 zz5)])), some (Sum.inr (Sum.inl (3, Row.mk [zz7 0] 1 [Col.mk [i] [] []]))), some (Sum.inr (Sum.inl (3, Row.mk [zz7 0] (List.length (Gv.PM.free m) + 1) [Col.mk (cut (Gv.PM.free m) 0 zz6 ++ cut [i] 0 1) [] []])))])) ∧ (decide (List.getD (Gv.PM.gens m) zz4 zz5 < (4294967295 : Int)) = false → Post (G (Value.tuple (Array.mk [Value.agg (Array.mk [zz7 (List.getD (List.map (fun n => El.k (Gv.Node.e n)) zz1) zz4 zz5), zz7 (List.getD (List.map (fun n => El.w (Gv.Node.e n)) zz1) zz4 zz5), zz7 (List.getD (List.map (fun n => Gv.Ref.i (Gv.Node.l n)) zz1) zz4 zz5), zz7 (List.getD (List.map (fun n => Gv.Ref.g (Gv.Node.l n)) zz1) zz4 zz5), zz7 (List.getD (List.map (fun n => Gv.Ref.i (Gv.Node.r n)) zz1) zz4 zz5), zz7 (List.getD (List.map (fun n => Gv.Ref.g (Gv.Node.r n)) zz1) zz4 zz5), zz7 (List.getD (List.map (fun n => Gv.Part.n (Gv.Node.all n)) zz1) zz4 zz5), zz7 (List.getD (List.map (fun n => Ti.Td.n (Gv.Part.sum (Gv.Node.all n))) zz1) zz4 zz5), zz7 (List.getD (List.map (fun n => Ti.Td.s (Gv.Part.sum (Gv.Node.all n))) zz1) zz4 zz5), zz7 (List.getD (List.map (fun n => Ti.Td.l (Gv.Part.sum (Gv.Node.all n))) zz1) zz4 zz5), zz7 (List.getD (List.map (fun n => Gv.Node.h n) zz1) zz4 zz5)]), Value.bool true])) [some (Sum.inl (94, [Value.slice (some (Addr.mk 1 0 (some 13000))) zz2 0, Value.slice (some (Addr.mk 2 0 (some 1000))) zz6 0, zz7 (Gv.PM.held m - (1 : Int)), zz7 (Gv.PM.cap m), zz7 (IntKind.wrap IntKind.i64 (Gv.PM.visits m + (1 : Int)))])), some (Sum.inr (Sum.inl (98, Row.mk [zz7 0, zz7 0, zz7 0, zz7 0, zz7 0, zz7 0, zz7 0, zz7 0, zz7 0, zz7 0, zz7 0, zz7 0, Value.bool false] zz2 [Col.mk (List.set (List.map (fun n => El.k (Gv.Node.e n)) zz1) zz4 zz5) [] [], Col.mk (List.set (List.map (fun n => El.w (Gv.Node.e n)) zz1) zz4 zz5) [] [], Col.mk (List.set (List.map (fun n => Gv.Ref.i (Gv.Node.l n)) zz1) zz4 zz5) [] [], Col.mk (List.set (List.map (fun n => Gv.Ref.g (Gv.Node.l n)) zz1) zz4 zz5) [] [], Col.mk (List.set (List.map (fun n => Gv.Ref.i (Gv.Node.r n)) zz1) zz4 zz5) [] [], Col.mk (List.set (List.map (fun n => Gv.Ref.g (Gv.Node.r n)) zz1) zz4 zz5) [] [], Col.mk (List.set (List.map (fun n => Gv.Part.n (Gv.Node.all n)) zz1) zz4 zz5) [] [], Col.mk (List.set (List.map (fun n => Ti.Td.n (Gv.Part.sum (Gv.Node.all n))) zz1) zz4 zz5) [] [], Col.mk (List.set (List.map (fun n => Ti.Td.s (Gv.Part.sum (Gv.Node.all n))) zz1) zz4 zz5) [] [], Col.mk (List.set (List.map (fun n => Ti.Td.l (Gv.Part.sum (Gv.Node.all n))) zz1) zz4 zz5) [] [], Col.mk (List.set (List.map (fun n => Gv.Node.h n) zz1) zz4 zz5) [] [], Col.mk (Gv.PM.gens m) [] [], Col.mk [] (List.set (Gv.PM.live m) zz4 false) []]))), some (Sum.inr (Sum.inl (3, Row.mk [zz7 0] zz6 [Col.mk (Gv.PM.free m) [] []]))), some (Sum.inl (70, [zz7 i, zz7 g])), some (Sum.inl (74, [zz7 (List.getD (List.map (fun n => El.k (Gv.Node.e n)) zz1) zz4 zz5), zz7 (List.getD (List.map (fun n => El.w (Gv.Node.e n)) zz1) zz4 zz5), zz7 (List.getD (List.map (fun n => Gv.Ref.i (Gv.Node.l n)) zz1) zz4 zz5), zz7 (List.getD (List.map (fun n => Gv.Ref.g (Gv.Node.l n)) zz1) zz4 zz5), zz7 (List.getD (List.map (fun n => Gv.Ref.i (Gv.Node.r n)) zz1) zz4 zz5), zz7 (List.getD (List.map (fun n => Gv.Ref.g (Gv.Node.r n)) zz1) zz4 zz5), zz7 (List.getD (List.map (fun n => Gv.Part.n (Gv.Node.all n)) zz1) zz4 zz5), zz7 (List.getD (List.map (fun n => Ti.Td.n (Gv.Part.sum (Gv.Node.all n))) zz1) zz4 zz5), zz7 (List.getD (List.map (fun n => Ti.Td.s (Gv.Part.sum (Gv.Node.all n))) zz1) zz4 zz5), zz7 (List.getD (List.map (fun n => Ti.Td.l (Gv.Part.sum (Gv.Node.all n))) zz1) zz4 zz5), zz7 (List.getD (List.map (fun n => Gv.Node.h n) zz1) zz4 zz5)])), some (Sum.inl (74, [zz7 0, zz7 0, zz7 0, zz7 0, zz7 0, zz7 0, zz7 0, zz7 0, zz7 0, zz7 0, zz7 0])), some (Sum.inl (74, [zz7 (List.getD (List.map (fun n => El.k (Gv.Node.e n)) zz1) zz4 zz5), zz7 (List.getD (List.map (fun n => El.w (Gv.Node.e n)) zz1) zz4 zz5), zz7 (List.getD (List.map (fun n => Gv.Ref.i (Gv.Node.l n)) zz1) zz4 zz5), zz7 (List.getD (List.map (fun n => Gv.Ref.g (Gv.Node.l n)) zz1) zz4 zz5), zz7 (List.getD (List.map (fun n => Gv.Ref.i (Gv.Node.r n)) zz1) zz4 zz5), zz7 (List.getD (List.map (fun n => Gv.Ref.g (Gv.Node.r n)) zz1) zz4 zz5), zz7 (List.getD (List.map (fun n => Gv.Part.n (Gv.Node.all n)) zz1) zz4 zz5), zz7 (List.getD (List.map (fun n => Ti.Td.n (Gv.Part.sum (Gv.Node.all n))) zz1) zz4 zz5), zz7 (List.getD (List.map (fun n => Ti.Td.s (Gv.Part.sum (Gv.Node.all n))) zz1) zz4 zz5), zz7 (List.getD (List.map (fun n => Ti.Td.l (Gv.Part.sum (Gv.Node.all n))) zz1) zz4 zz5), zz7 (List.getD (List.map (fun n => Gv.Node.h n) zz1) zz4 zz5)]))]))) ∧ (hasC zz2 (Gv.PM.gens m) (Gv.PM.live m) i g = false → Vc (List.length zz1 = List.length zz1 ∧ List.length (Gv.PM.gens m) = List.length zz1 ∧ List.length (Gv.PM.live m) = List.length zz1 ∧ List.length zz1 < 1000000) ∧ Post (G (Value.tuple (Array.mk [Value.agg (Array.mk [zz7 0, zz7 0, zz7 0, zz7 0, zz7 0, zz7 0, zz7 0, zz7 0, zz7 0, zz7 0, zz7 0]), Value.bool false])) [some (Sum.inl (94, [Value.slice (some (Addr.mk 1 0 (some 13000))) zz2 0, Value.slice (some (Addr.mk 2 0 (some 1000))) zz6 0, zz7 (Gv.PM.held m), zz7 (Gv.PM.cap m), zz7 (Gv.PM.visits m)])), some (Sum.inr (Sum.inl (98, Row.mk [zz7 0, zz7 0, zz7 0, zz7 0, zz7 0, zz7 0, zz7 0, zz7 0, zz7 0, zz7 0, zz7 0, zz7 0, Value.bool false] zz2 [Col.mk (List.map (fun n => El.k (Gv.Node.e n)) zz1) [] [], Col.mk (List.map (fun n => El.w (Gv.Node.e n)) zz1) [] [], Col.mk (List.map (fun n => Gv.Ref.i (Gv.Node.l n)) zz1) [] [], Col.mk (List.map (fun n => Gv.Ref.g (Gv.Node.l n)) zz1) [] [], Col.mk (List.map (fun n => Gv.Ref.i (Gv.Node.r n)) zz1) [] [], Col.mk (List.map (fun n => Gv.Ref.g (Gv.Node.r n)) zz1) [] [], Col.mk (List.map (fun n => Gv.Part.n (Gv.Node.all n)) zz1) [] [], Col.mk (List.map (fun n => Ti.Td.n (Gv.Part.sum (Gv.Node.all n))) zz1) [] [], Col.mk (List.map (fun n => Ti.Td.s (Gv.Part.sum (Gv.Node.all n))) zz1) [] [], Col.mk (List.map (fun n => Ti.Td.l (Gv.Part.sum (Gv.Node.all n))) zz1) [] [], Col.mk (List.map (fun n => Gv.Node.h n) zz1) [] [], Col.mk (Gv.PM.gens m) [] [], Col.mk [] (Gv.PM.live m) []]))), some (Sum.inr (Sum.inl (3, Row.mk [zz7 0] zz6 [Col.mk (Gv.PM.free m) [] []]))), some (Sum.inl (70, [zz7 i, zz7 g])), some (Sum.inl (74, [zz7 0, zz7 0, zz7 0, zz7 0, zz7 0, zz7 0, zz7 0, zz7 0, zz7 0, zz7 0, zz7 0])), some (Sum.inl (74, [zz7 0, zz7 0, zz7 0, zz7 0, zz7 0, zz7 0, zz7 0, zz7 0, zz7 0, zz7 0, zz7 0]))]))) ?_ (by kernel_rfl)
    intro zz7 zz1 zz2 zz3 zz4 zz5 zz6; subst zz6 zz5 zz4 zz3 zz2 zz1 zz7
    subst hG
    have v1 := hv.gens
    have v2 := hv.live
    have v3 := hv.cells
    have v4 := hv.frees
    have v5 := hv.hld
    simp only [hasC_eq, map_get (fun n : Nd => n.e.k) m _ 0 rfl, map_get (fun n : Nd => n.e.w) m _ 0 rfl, map_get (fun n : Nd => n.l.i) m _ 0 rfl, map_get (fun n : Nd => n.l.g) m _ 0 rfl, map_get (fun n : Nd => n.r.i) m _ 0 rfl, map_get (fun n : Nd => n.r.g) m _ 0 rfl, map_get (fun n : Nd => n.all.n) m _ 0 rfl, map_get (fun n : Nd => n.all.sum.n) m _ 0 rfl, map_get (fun n : Nd => n.all.sum.s) m _ 0 rfl, map_get (fun n : Nd => n.all.sum.l) m _ 0 rfl, map_get (fun n : Nd => n.h) m _ 0 rfl, map_set (fun n : Nd => n.e.k) m.vs _ zd 0 rfl, map_set (fun n : Nd => n.e.w) m.vs _ zd 0 rfl, map_set (fun n : Nd => n.l.i) m.vs _ zd 0 rfl, map_set (fun n : Nd => n.l.g) m.vs _ zd 0 rfl, map_set (fun n : Nd => n.r.i) m.vs _ zd 0 rfl, map_set (fun n : Nd => n.r.g) m.vs _ zd 0 rfl, map_set (fun n : Nd => n.all.n) m.vs _ zd 0 rfl, map_set (fun n : Nd => n.all.sum.n) m.vs _ zd 0 rfl, map_set (fun n : Nd => n.all.sum.s) m.vs _ zd 0 rfl, map_set (fun n : Nd => n.all.sum.l) m.vs _ zd 0 rfl, map_set (fun n : Nd => n.h) m.vs _ zd 0 rfl, Nat.zero_add]
    repeat' (first | apply And.intro | apply Vc.mk | apply fits.mk | intro h | apply Post.mk)
    all_goals (try simp only [decide_eq_true_eq, decide_eq_false_iff_not, Nat.zero_add, ge_iff_le, Int.not_le, Int.not_lt, Int.toNat_natCast, beq_iff_eq, beq_eq_false_iff_ne, bne_iff_ne, bne_eq_false_iff_eq, Bool.not_eq_true', Bool.not_eq_false'] at *)
    all_goals first | contradiction | omega | (apply congrArg Value.bool; assumption) | exact congrArg Value.bool (decide_eq_true (by assumption)) | exact congrArg Value.bool (decide_eq_false (Int.not_lt.mpr (by assumption))) | exact ⟨rfl, by omega⟩ | exact rfl | (simp [*, -List.getD_eq_getElem?_getD]; done) | skip
    all_goals first | omega | (have := has_at (by assumption); omega) | (have := Gv.gens_bound (i := i.toNat) hv.gen; omega) | skip
    · have h : Gv.has m ⟨i, g⟩ = true := by assumption
      have h3 : m.gens.getD i.toNat 0 < 4294967295 := by assumption
      refine ⟨[0, 1, 8], ?_, rfl, ?_, rfl, rfl, rfl, rfl, rfl⟩
      · simp only [mvV, mvL, dnV, dnL, Gv.look, h, if_true]
      · simp [layPool, unf, unfGo, unfB, off, width, L, lay, newHp, mvO, mvSB, Pulls, pullB, nth, at2, dnL, dnV, mvL, mvV, mvA, mvQ_lt, blt_true, blt_false, RowLe, colI, colB, Gv.drop, Gv.seen, h, h3, -List.getD_eq_getElem?_getD]
        try (left; rfl)
    · have h : Gv.has m ⟨i, g⟩ = false := by assumption
      refine ⟨[0, 1, 2], ?_, rfl, ?_, rfl, rfl, rfl, rfl, rfl⟩
      · simp only [mvV, mvL, dnV, dnL, Gv.look, h, Bool.false_eq_true, if_false]
        rfl
      · simp [layPool, unf, unfGo, unfB, off, width, L, lay, newHp, mvO, mvSB, Pulls, pullB, nth, at2, dnL, dnV, mvL, mvV, mvA, mvQ_lt, blt_true, blt_false, RowLe, colI, colB, Gv.drop, h]
  · cases hx
end Go.Proofs.Ytclagkjjgmeifaa.G7


/- grove: a pool of nodes of keys and numbers: Put. -/
namespace Go.Proofs.Ytclagkjjgmeifaa.G7
open Go.Proofs.Ytclagkjjgmeifaa.Rx
set_option linter.unusedVariables false
set_option linter.unusedSimpArgs false
set_option maxRecDepth 100000
def putP : Prim Rs := fun args hh => match args, hh with
  | [.pointer (some ⟨0, 0, none⟩), .agg ⟨[.int .i64 x0, .int .i64 x1, .int .i64 x2, .int .i64 x3, .int .i64 x4, .int .i64 x5, .int .i64 x6, .int .i64 x7, .int .i64 x8, .int .i64 x9, .int .i64 x10]⟩], [some (.inr (.inr (.inr (.pool m))))] => some ⟨PP m, .tuple #[.agg ⟨[.int .i64 (Gv.putR zd m).i, .int .i64 (Gv.putR zd m).g]⟩, .bool (!decide (m.held = m.cap))], none, [some (.inr (.inr (.inr (.pool (Gv.put zd m (⟨⟨x0, x1⟩, ⟨x2, x3⟩, ⟨x4, x5⟩, ⟨x6, ⟨x7, x8, x9⟩⟩, x10⟩ : Nd))))))], [], [(0, 0)]⟩
  | _, _ => none
theorem put_ok : ConOk D Try.prog 41 (con1 putP) := by
  refine con1_ok (res_prim (L := L) (D0 := NoR) (fn := Try.f41) (root := codeOf Try.f41) (by kernel_rfl) (by kernel_rfl) (by kernel_rfl) fun args hh x hx => ?_)
  unfold putP at hx
  split at hx
  · rename_i x0 x1 x2 x3 x4 x5 x6 x7 x8 x9 x10 m
    injection hx with hx
    subst hx
    refine ⟨by first | exact Nat.le_refl _ | exact Nat.zero_le _ | exact Nat.le_succ _, noLit rfl, (fun hw => by first | rfl | cases hw), fun _ hv => ?_⟩
    generalize hG : EndsU (R := Rs) (R0 := Empty) _ _ _ = G
    refine rx_ok (T := TA) TA_ok mixed 200 ?_
    refine as_text (q := let zz10 := Value.int IntKind.i64; let zz1 := (Gv.PM.vs m); let zz2 := (Gv.PM.free m); let zz3 := (0 : Int); let zz4 := (↑(List.length zz1) : Int); let zz5 := (List.getD (Gv.PM.gens m ++ [zz3]) (0 + Int.toNat zz4) zz3 + (1 : Int)); let zz6 := (List.getD (List.set (Gv.PM.gens m ++ [zz3]) (0 + Int.toNat zz4) zz5) (0 + Int.toNat zz4) zz3); let zz7 := (List.length zz2 - 1); let zz8 := (List.getD (Gv.PM.gens m) (0 + Int.toNat (List.getD zz2 zz7 zz3)) zz3 + (1 : Int)); let zz9 := (List.set (Gv.PM.gens m) (0 + Int.toNat (List.getD zz2 zz7 zz3)) zz8); ((Gv.PM.held m == Gv.PM.cap m) = true → Post (G (Value.tuple (Array.mk [Value.agg (Array.mk [zz10 0, zz10 0]), Value.bool false])) [some (Sum.inl (94, [Value.slice (some (Addr.mk 1 0 (some 13000))) (List.length zz1) 0, Value.slice (some (Addr.mk 2 0 (some 1000))) (List.length zz2) 0, zz10 (Gv.PM.held m), zz10 (Gv.PM.cap m), zz10 (Gv.PM.visits m)])), some (Sum.inr (Sum.inl (98, Row.mk [zz10 0, zz10 0, zz10 0, zz10 0, zz10 0, zz10 0, zz10 0, zz10 0, zz10 0, zz10 0, zz10 0, zz10 0, Value.bool false] (List.length zz1) [Col.mk (List.map (fun n => El.k (Gv.Node.e n)) zz1) [] [], Col.mk (List.map (fun n => El.w (Gv.Node.e n)) zz1) [] [], Col.mk (List.map (fun n => Gv.Ref.i (Gv.Node.l n)) zz1) [] [], Col.mk (List.map (fun n => Gv.Ref.g (Gv.Node.l n)) zz1) [] [], Col.mk (List.map (fun n => Gv.Ref.i (Gv.Node.r n)) zz1) [] [], Col.mk (List.map (fun n => Gv.Ref.g (Gv.Node.r n)) zz1) [] [], Col.mk (List.map (fun n => Gv.Part.n (Gv.Node.all n)) zz1) [] [], Col.mk (List.map (fun n => Ti.Td.n (Gv.Part.sum (Gv.Node.all n))) zz1) [] [], Col.mk (List.map (fun n => Ti.Td.s (Gv.Part.sum (Gv.Node.all n))) zz1) [] [], Col.mk (List.map (fun n => Ti.Td.l (Gv.Part.sum (Gv.Node.all n))) zz1) [] [], Col.mk (List.map (fun n => Gv.Node.h n) zz1) [] [], Col.mk (Gv.PM.gens m) [] [], Col.mk [] (Gv.PM.live m) []]))), some (Sum.inr (Sum.inl (3, Row.mk [zz10 0] (List.length zz2) [Col.mk zz2 [] []]))), some (Sum.inl (74, [zz10 x0, zz10 x1, zz10 x2, zz10 x3, zz10 x4, zz10 x5, zz10 x6, zz10 x7, zz10 x8, zz10 x9, zz10 x10])), some (Sum.inl (70, [zz10 0, zz10 0]))])) ∧ ((Gv.PM.held m == Gv.PM.cap m) = false → (decide (List.length zz2 = 0) = true → Vc (List.length zz1 = List.length zz1 ∧ List.length zz2 = 0 ∧ List.length zz2 = List.length zz2 ∧ 0 = 0 ∧ 0 = 0 ∧ List.length (List.map (fun n => El.k (Gv.Node.e n)) zz1) = List.length zz1 ∧ List.length (List.map (fun n => El.w (Gv.Node.e n)) zz1) = List.length zz1 ∧ List.length (List.map (fun n => Gv.Ref.i (Gv.Node.l n)) zz1) = List.length zz1 ∧ List.length (List.map (fun n => Gv.Ref.g (Gv.Node.l n)) zz1) = List.length zz1 ∧ List.length (List.map (fun n => Gv.Ref.i (Gv.Node.r n)) zz1) = List.length zz1 ∧ List.length (List.map (fun n => Gv.Ref.g (Gv.Node.r n)) zz1) = List.length zz1 ∧ List.length (List.map (fun n => Gv.Part.n (Gv.Node.all n)) zz1) = List.length zz1 ∧ List.length (List.map (fun n => Ti.Td.n (Gv.Part.sum (Gv.Node.all n))) zz1) = List.length zz1 ∧ List.length (List.map (fun n => Ti.Td.s (Gv.Part.sum (Gv.Node.all n))) zz1) = List.length zz1 ∧ List.length (List.map (fun n => Ti.Td.l (Gv.Part.sum (Gv.Node.all n))) zz1) = List.length zz1 ∧ List.length (List.map (fun n => Gv.Node.h n) zz1) = List.length zz1 ∧ List.length (Gv.PM.gens m) = List.length zz1 ∧ List.length (Gv.PM.live m) = List.length zz1 ∧ List.length zz1 < 1000000) ∧ Vc (zz3 ≤ zz4 ∧ zz4 < (↑(List.length zz1 + 1) : Int) ∧ 0 + (List.length zz1 + 1) ≤ List.length zz1 + 1) ∧ Vc (0 + Int.toNat zz4 < List.length zz1 + 1) ∧ Vc (0 + Int.toNat zz4 < List.length zz1 + 1) ∧ Vc (0 + Int.toNat zz4 < List.length zz1 + 1) ∧ Vc (fits zz5) ∧ Vc (0 + Int.toNat zz4 < List.length zz1 + 1) ∧ Vc (fits (Gv.PM.held m + (1 : Int))) ∧ Vc (0 + Int.toNat zz4 < List.length zz1 + 1) ∧ Post (G (Value.tuple (Array.mk [Value.agg (Array.mk [zz10 zz4, zz10 zz6]), Value.bool true])) [some (Sum.inl (94, [Value.slice (some (Addr.mk 5 0 (some 13000))) (List.length zz1 + 1) 0, Value.slice (some (Addr.mk 2 0 (some 1000))) (List.length zz2) 0, zz10 (Gv.PM.held m + (1 : Int)), zz10 (Gv.PM.cap m), zz10 (Gv.PM.visits m)])), none, some (Sum.inr (Sum.inl (3, Row.mk [zz10 0] (List.length zz2) [Col.mk zz2 [] []]))), some (Sum.inl (74, [zz10 x0, zz10 x1, zz10 x2, zz10 x3, zz10 x4, zz10 x5, zz10 x6, zz10 x7, zz10 x8, zz10 x9, zz10 x10])), some (Sum.inl (70, [zz10 zz4, zz10 zz6])), some (Sum.inr (Sum.inl (98, Row.mk [zz10 0, zz10 0, zz10 0, zz10 0, zz10 0, zz10 0, zz10 0, zz10 0, zz10 0, zz10 0, zz10 0, zz10 0, Value.bool false] (List.length zz1 + 1) [Col.mk (List.set (List.map (fun n => El.k (Gv.Node.e n)) zz1 ++ [zz3]) (0 + Int.toNat zz4) x0) [] [], Col.mk (List.set (List.map (fun n => El.w (Gv.Node.e n)) zz1 ++ [zz3]) (0 + Int.toNat zz4) x1) [] [], Col.mk (List.set (List.map (fun n => Gv.Ref.i (Gv.Node.l n)) zz1 ++ [zz3]) (0 + Int.toNat zz4) x2) [] [], Col.mk (List.set (List.map (fun n => Gv.Ref.g (Gv.Node.l n)) zz1 ++ [zz3]) (0 + Int.toNat zz4) x3) [] [], Col.mk (List.set (List.map (fun n => Gv.Ref.i (Gv.Node.r n)) zz1 ++ [zz3]) (0 + Int.toNat zz4) x4) [] [], Col.mk (List.set (List.map (fun n => Gv.Ref.g (Gv.Node.r n)) zz1 ++ [zz3]) (0 + Int.toNat zz4) x5) [] [], Col.mk (List.set (List.map (fun n => Gv.Part.n (Gv.Node.all n)) zz1 ++ [zz3]) (0 + Int.toNat zz4) x6) [] [], Col.mk (List.set (List.map (fun n => Ti.Td.n (Gv.Part.sum (Gv.Node.all n))) zz1 ++ [zz3]) (0 + Int.toNat zz4) x7) [] [], Col.mk (List.set (List.map (fun n => Ti.Td.s (Gv.Part.sum (Gv.Node.all n))) zz1 ++ [zz3]) (0 + Int.toNat zz4) x8) [] [], Col.mk (List.set (List.map (fun n => Ti.Td.l (Gv.Part.sum (Gv.Node.all n))) zz1 ++ [zz3]) (0 + Int.toNat zz4) x9) [] [], Col.mk (List.set (List.map (fun n => Gv.Node.h n) zz1 ++ [zz3]) (0 + Int.toNat zz4) x10) [] [], Col.mk (List.set (Gv.PM.gens m ++ [zz3]) (0 + Int.toNat zz4) zz5) [] [], Col.mk [] (List.set (Gv.PM.live m ++ [false]) (0 + Int.toNat zz4) true) []])))])) ∧ (decide (List.length zz2 = 0) = false → Vc (List.length zz2 ≠ 0 ∧ List.length zz2 = List.length zz2 ∧ List.length zz2 = List.length zz2 ∧ 0 = 0 ∧ 0 = 0 ∧ List.length zz2 < 1000000) ∧ Vc (zz3 ≤ List.getD zz2 zz7 zz3 ∧ List.getD zz2 zz7 zz3 < zz4 ∧ 0 + List.length zz1 ≤ List.length zz1) ∧ Vc (0 + Int.toNat (List.getD zz2 zz7 zz3) < List.length zz1) ∧ Vc (0 + Int.toNat (List.getD zz2 zz7 zz3) < List.length zz1) ∧ Vc (0 + Int.toNat (List.getD zz2 zz7 zz3) < List.length zz1) ∧ Vc (fits zz8) ∧ Vc (0 + Int.toNat (List.getD zz2 zz7 zz3) < List.length zz1) ∧ Vc (fits (Gv.PM.held m + (1 : Int))) ∧ Vc (0 + Int.toNat (List.getD zz2 zz7 zz3) < List.length zz1) ∧ Post (G (Value.tuple (Array.mk [Value.agg (Array.mk [zz10 (List.getD zz2 zz7 zz3), zz10 (List.getD zz9 (0 + Int.toNat (List.getD zz2 zz7 zz3)) zz3)]), Value.bool true])) [some (Sum.inl (94, [Value.slice (some (Addr.mk 1 0 (some 13000))) (List.length zz1) 0, Value.slice (some (Addr.mk 2 0 (some 1000))) zz7 0, zz10 (Gv.PM.held m + (1 : Int)), zz10 (Gv.PM.cap m), zz10 (Gv.PM.visits m)])), some (Sum.inr (Sum.inl (98, Row.mk [zz10 0, zz10 0, zz10 0, zz10 0, zz10 0, zz10 0, zz10 0, zz10 0, zz10 0, zz10 0, zz10 0, zz10 0, Value.bool false] (List.length zz1) [Col.mk (List.set (List.map (fun n => El.k (Gv.Node.e n)) zz1) (0 + Int.toNat (List.getD zz2 zz7 zz3)) x0) [] [], Col.mk (List.set (List.map (fun n => El.w (Gv.Node.e n)) zz1) (0 + Int.toNat (List.getD zz2 zz7 zz3)) x1) [] [], Col.mk (List.set (List.map (fun n => Gv.Ref.i (Gv.Node.l n)) zz1) (0 + Int.toNat (List.getD zz2 zz7 zz3)) x2) [] [], Col.mk (List.set (List.map (fun n => Gv.Ref.g (Gv.Node.l n)) zz1) (0 + Int.toNat (List.getD zz2 zz7 zz3)) x3) [] [], Col.mk (List.set (List.map (fun n => Gv.Ref.i (Gv.Node.r n)) zz1) (0 + Int.toNat (List.getD zz2 zz7 zz3)) x4) [] [], Col.mk (List.set (List.map (fun n => Gv.Ref.g (Gv.Node.r n)) zz1) (0 + Int.toNat (List.getD zz2 zz7 zz3)) x5) [] [], Col.mk (List.set (List.map (fun n => Gv.Part.n (Gv.Node.all n)) zz1) (0 + Int.toNat (List.getD zz2 zz7 zz3)) x6) [] [], Col.mk (List.set (List.map (fun n => Ti.Td.n (Gv.Part.sum (Gv.Node.all n))) zz1) (0 + Int.toNat (List.getD zz2 zz7 zz3)) x7) [] [], Col.mk (List.set (List.map (fun n => Ti.Td.s (Gv.Part.sum (Gv.Node.all n))) zz1) (0 + Int.toNat (List.getD zz2 zz7 zz3)) x8) [] [], Col.mk (List.set (List.map (fun n => Ti.Td.l (Gv.Part.sum (Gv.Node.all n))) zz1) (0 + Int.toNat (List.getD zz2 zz7 zz3)) x9) [] [], Col.mk (List.set (List.map (fun n => Gv.Node.h n) zz1) (0 + Int.toNat (List.getD zz2 zz7 zz3)) x10) [] [], Col.mk zz9 [] [], Col.mk [] (List.set (Gv.PM.live m) (0 + Int.toNat (List.getD zz2 zz7 zz3)) true) []]))), some (Sum.inr (Sum.inl (3, Row.mk [zz10 0] zz7 [Col.mk (List.take zz7 zz2) [] []]))), some (Sum.inl (74, [zz10 x0, zz10 x1, zz10 x2, zz10 x3, zz10 x4, zz10 x5, zz10 x6, zz10 x7, zz10 x8, zz10 x9, zz10 x10])), some (Sum.inl (70, [zz10 (List.getD zz2 zz7 zz3), zz10 (List.getD zz9 (0 + Int.toNat (List.getD zz2 zz7 zz3)) zz3)]))])))) ?_ (by kernel_rfl)
    intro zz10 zz1 zz2 zz3 zz4 zz5 zz6 zz7 zz8 zz9; subst zz9 zz8 zz7 zz6 zz5 zz4 zz3 zz2 zz1 zz10
    subst hG
    have v1 := hv.gens
    have v2 := hv.live
    have v3 := hv.cells
    have v4 := hv.frees
    have v5 := hv.hld
    have h6 := Gv.gens_bound (i := (Gv.nextIdx m).toNat) hv.gen
    have h7 := Gv.gens_bound (i := (m.free.getD (m.free.length - 1) 0).toNat) hv.gen
    obtain ⟨a, b, c, c', d, e⟩ := Gv.nextIdx_ok zd hv
    have e0 : ((m.vs.length : Int)).toNat = m.vs.length := by omega
    have e1 : (m.gens ++ [0]).getD m.vs.length 0 = 0 := by rw [getD_append1, if_pos v1.symm]
    have k1 := fun h : m.free.length ≠ 0 => hv.inn _ (getD_mem (d := 0) (l := m.free) (i := m.free.length - 1) (by omega))
    simp only [map_snoc (fun n : Nd => n.e.k) m.vs 0 rfl, map_snoc (fun n : Nd => n.e.w) m.vs 0 rfl, map_snoc (fun n : Nd => n.l.i) m.vs 0 rfl, map_snoc (fun n : Nd => n.l.g) m.vs 0 rfl, map_snoc (fun n : Nd => n.r.i) m.vs 0 rfl, map_snoc (fun n : Nd => n.r.g) m.vs 0 rfl, map_snoc (fun n : Nd => n.all.n) m.vs 0 rfl, map_snoc (fun n : Nd => n.all.sum.n) m.vs 0 rfl, map_snoc (fun n : Nd => n.all.sum.s) m.vs 0 rfl, map_snoc (fun n : Nd => n.all.sum.l) m.vs 0 rfl, map_snoc (fun n : Nd => n.h) m.vs 0 rfl, Nat.zero_add, e0, e1]
    simp only [map_set (fun n : Nd => n.e.k) (m.vs ++ [zd]) _ (⟨⟨x0, x1⟩, ⟨x2, x3⟩, ⟨x4, x5⟩, ⟨x6, ⟨x7, x8, x9⟩⟩, x10⟩ : Nd) x0 rfl, map_set (fun n : Nd => n.e.w) (m.vs ++ [zd]) _ (⟨⟨x0, x1⟩, ⟨x2, x3⟩, ⟨x4, x5⟩, ⟨x6, ⟨x7, x8, x9⟩⟩, x10⟩ : Nd) x1 rfl, map_set (fun n : Nd => n.l.i) (m.vs ++ [zd]) _ (⟨⟨x0, x1⟩, ⟨x2, x3⟩, ⟨x4, x5⟩, ⟨x6, ⟨x7, x8, x9⟩⟩, x10⟩ : Nd) x2 rfl, map_set (fun n : Nd => n.l.g) (m.vs ++ [zd]) _ (⟨⟨x0, x1⟩, ⟨x2, x3⟩, ⟨x4, x5⟩, ⟨x6, ⟨x7, x8, x9⟩⟩, x10⟩ : Nd) x3 rfl, map_set (fun n : Nd => n.r.i) (m.vs ++ [zd]) _ (⟨⟨x0, x1⟩, ⟨x2, x3⟩, ⟨x4, x5⟩, ⟨x6, ⟨x7, x8, x9⟩⟩, x10⟩ : Nd) x4 rfl, map_set (fun n : Nd => n.r.g) (m.vs ++ [zd]) _ (⟨⟨x0, x1⟩, ⟨x2, x3⟩, ⟨x4, x5⟩, ⟨x6, ⟨x7, x8, x9⟩⟩, x10⟩ : Nd) x5 rfl, map_set (fun n : Nd => n.all.n) (m.vs ++ [zd]) _ (⟨⟨x0, x1⟩, ⟨x2, x3⟩, ⟨x4, x5⟩, ⟨x6, ⟨x7, x8, x9⟩⟩, x10⟩ : Nd) x6 rfl, map_set (fun n : Nd => n.all.sum.n) (m.vs ++ [zd]) _ (⟨⟨x0, x1⟩, ⟨x2, x3⟩, ⟨x4, x5⟩, ⟨x6, ⟨x7, x8, x9⟩⟩, x10⟩ : Nd) x7 rfl, map_set (fun n : Nd => n.all.sum.s) (m.vs ++ [zd]) _ (⟨⟨x0, x1⟩, ⟨x2, x3⟩, ⟨x4, x5⟩, ⟨x6, ⟨x7, x8, x9⟩⟩, x10⟩ : Nd) x8 rfl, map_set (fun n : Nd => n.all.sum.l) (m.vs ++ [zd]) _ (⟨⟨x0, x1⟩, ⟨x2, x3⟩, ⟨x4, x5⟩, ⟨x6, ⟨x7, x8, x9⟩⟩, x10⟩ : Nd) x9 rfl, map_set (fun n : Nd => n.h) (m.vs ++ [zd]) _ (⟨⟨x0, x1⟩, ⟨x2, x3⟩, ⟨x4, x5⟩, ⟨x6, ⟨x7, x8, x9⟩⟩, x10⟩ : Nd) x10 rfl, map_set (fun n : Nd => n.e.k) m.vs _ (⟨⟨x0, x1⟩, ⟨x2, x3⟩, ⟨x4, x5⟩, ⟨x6, ⟨x7, x8, x9⟩⟩, x10⟩ : Nd) x0 rfl, map_set (fun n : Nd => n.e.w) m.vs _ (⟨⟨x0, x1⟩, ⟨x2, x3⟩, ⟨x4, x5⟩, ⟨x6, ⟨x7, x8, x9⟩⟩, x10⟩ : Nd) x1 rfl, map_set (fun n : Nd => n.l.i) m.vs _ (⟨⟨x0, x1⟩, ⟨x2, x3⟩, ⟨x4, x5⟩, ⟨x6, ⟨x7, x8, x9⟩⟩, x10⟩ : Nd) x2 rfl, map_set (fun n : Nd => n.l.g) m.vs _ (⟨⟨x0, x1⟩, ⟨x2, x3⟩, ⟨x4, x5⟩, ⟨x6, ⟨x7, x8, x9⟩⟩, x10⟩ : Nd) x3 rfl, map_set (fun n : Nd => n.r.i) m.vs _ (⟨⟨x0, x1⟩, ⟨x2, x3⟩, ⟨x4, x5⟩, ⟨x6, ⟨x7, x8, x9⟩⟩, x10⟩ : Nd) x4 rfl, map_set (fun n : Nd => n.r.g) m.vs _ (⟨⟨x0, x1⟩, ⟨x2, x3⟩, ⟨x4, x5⟩, ⟨x6, ⟨x7, x8, x9⟩⟩, x10⟩ : Nd) x5 rfl, map_set (fun n : Nd => n.all.n) m.vs _ (⟨⟨x0, x1⟩, ⟨x2, x3⟩, ⟨x4, x5⟩, ⟨x6, ⟨x7, x8, x9⟩⟩, x10⟩ : Nd) x6 rfl, map_set (fun n : Nd => n.all.sum.n) m.vs _ (⟨⟨x0, x1⟩, ⟨x2, x3⟩, ⟨x4, x5⟩, ⟨x6, ⟨x7, x8, x9⟩⟩, x10⟩ : Nd) x7 rfl, map_set (fun n : Nd => n.all.sum.s) m.vs _ (⟨⟨x0, x1⟩, ⟨x2, x3⟩, ⟨x4, x5⟩, ⟨x6, ⟨x7, x8, x9⟩⟩, x10⟩ : Nd) x8 rfl, map_set (fun n : Nd => n.all.sum.l) m.vs _ (⟨⟨x0, x1⟩, ⟨x2, x3⟩, ⟨x4, x5⟩, ⟨x6, ⟨x7, x8, x9⟩⟩, x10⟩ : Nd) x9 rfl, map_set (fun n : Nd => n.h) m.vs _ (⟨⟨x0, x1⟩, ⟨x2, x3⟩, ⟨x4, x5⟩, ⟨x6, ⟨x7, x8, x9⟩⟩, x10⟩ : Nd) x10 rfl]
    repeat' (first | apply And.intro | apply Vc.mk | apply fits.mk | intro h | apply Post.mk)
    all_goals (try simp only [decide_eq_true_eq, decide_eq_false_iff_not, Nat.zero_add, ge_iff_le, Int.not_le, Int.not_lt, Int.toNat_natCast, beq_iff_eq, beq_eq_false_iff_ne, bne_iff_ne, bne_eq_false_iff_eq, Bool.not_eq_true', Bool.not_eq_false'] at *)
    all_goals first | contradiction | omega | (apply congrArg Value.bool; assumption) | exact congrArg Value.bool (decide_eq_true (by assumption)) | exact congrArg Value.bool (decide_eq_false (Int.not_lt.mpr (by assumption))) | exact ⟨rfl, by omega⟩ | exact rfl | (simp [*, -List.getD_eq_getElem?_getD]; done) | skip
    all_goals first | omega | (simp; done) | (simp; omega) | (have := k1 (by assumption); omega) | skip
    · have h0 : m.held = m.cap := by assumption
      refine ⟨[0, 1, 2], ?_, rfl, ?_, rfl, rfl, rfl, rfl, rfl⟩
      · simp [mvV, mvL, dnV, dnL, Gv.putR, Gv.r0, h0]
      · simp [layPool, unf, unfGo, unfB, off, width, L, lay, newHp, mvO, mvSB, Pulls, pullB, nth, at2, dnL, dnV, mvL, mvV, mvA, mvQ_lt, blt_true, blt_false, RowLe, colI, colB, Gv.put, h0]
    · have h0 : m.held ≠ m.cap := by assumption
      have hf : m.free.length = 0 := by assumption
      have en : Gv.nextIdx m = m.vs.length := by rw [Gv.nextIdx, if_pos hf]
      have eg : Gv.putG zd m = 0 + 1 := by rw [Gv.putG, Gv.nextPM, if_pos hf, en, Int.toNat_natCast]; simp only [e1]
      refine ⟨[0, 5, 2], ?_, rfl, ?_, rfl, rfl, rfl, rfl, rfl⟩
      · simp only [mvV, mvL, dnV, dnL, Gv.putR, if_neg h0, en, eg, getD_set, decide_eq_false h0, List.length_append, List.length_singleton, v1]
        simp
      · simp [layPool, unf, unfGo, unfB, off, width, L, lay, newHp, mvO, mvSB, Pulls, pullB, nth, at2, dnL, dnV, mvL, mvV, mvA, mvQ_lt, blt_true, blt_false, RowLe, colI, colB, Gv.put, h0, Gv.nextPM, hf, en, Int.toNat_natCast, eg]
    · have h0 : m.held ≠ m.cap := by assumption
      have hf : ¬ m.free.length = 0 := by assumption
      have en : Gv.nextIdx m = m.free.getD (m.free.length - 1) 0 := by rw [Gv.nextIdx, if_neg hf]
      have eg : Gv.putG zd m = m.gens.getD (m.free.getD (m.free.length - 1) 0).toNat 0 + 1 := by rw [Gv.putG, Gv.nextPM, if_neg hf, en]
      obtain ⟨k2, k3, _⟩ := k1 hf
      refine ⟨[0, 1, 2], ?_, rfl, ?_, rfl, rfl, rfl, rfl, rfl⟩
      · rw [getD_set, if_pos ⟨rfl, by omega⟩]
        simp only [mvV, mvL, dnV, dnL, Gv.putR, if_neg h0, en, eg, decide_eq_false h0]
        rfl
      · simp [layPool, unf, unfGo, unfB, off, width, L, lay, newHp, mvO, mvSB, Pulls, pullB, nth, at2, dnL, dnV, mvL, mvV, mvA, mvQ_lt, blt_true, blt_false, RowLe, colI, colB, Gv.put, h0, Gv.nextPM, hf, en, eg, -List.getD_eq_getElem?_getD]
  · cases hx
end Go.Proofs.Ytclagkjjgmeifaa.G7


/- grove: a pool of nodes of keys and numbers: its functions: look, set. -/
namespace Go.Proofs.Ytclagkjjgmeifaa.G7
open Go.Proofs.Ytclagkjjgmeifaa.Rx
set_option linter.unusedVariables false
set_option linter.unusedSimpArgs false
set_option maxRecDepth 100000
def TOne {R : Type} : Tab R := [(83, liftC zN 2 (con1 sumP))]
theorem TOne_ok {R : Type} {D : Res R} : TabOk D Try.prog (TOne : Tab R) := ⟨liftC_ok _ _ sum_ok, trivial⟩
def TPlus {R : Type} : Tab R := [(1000000000, wrapCon), (85, liftC zN 2 (con1 Ti.plusP))]
theorem TPlus_ok {R : Type} {D : Res R} : TabOk D Try.prog (TPlus : Tab R) := ⟨wrapCon_ok, liftC_ok _ _ Ti.plus_ok, trivial⟩
def oneP {R : Type} : Prim R := fun args hh => match args, hh with
  | [.agg ⟨[.int .i64 k0, .int .i64 k1]⟩], [] => some ⟨True, .agg ⟨[.int .i64 (Gv.one O7 (⟨k0, k1⟩ : El)).n, .int .i64 (Gv.one O7 (⟨k0, k1⟩ : El)).sum.n, .int .i64 (Gv.one O7 (⟨k0, k1⟩ : El)).sum.s, .int .i64 (Gv.one O7 (⟨k0, k1⟩ : El)).sum.l]⟩, none, hh, [], []⟩
  | _, _ => none
theorem one_ok {R : Type} {D : Res R} : ConOk D Try.prog 42 (con1 oneP) := by
  refine con1_ok (prim_at (fn := Try.f42) (root := codeOf Try.f42) (by kernel_rfl) (by kernel_rfl) (by kernel_rfl) fun args hh x hx => ?_)
  unfold oneP at hx
  split at hx
  · rename_i k0 k1
    injection hx with hx
    subst hx
    refine ⟨by first | exact Nat.le_refl _ | exact Nat.zero_le _ | exact Nat.le_succ _, noLit rfl, (fun hw => by first | rfl | cases hw), fun _ hv => ?_⟩
    generalize hG : Rx.Ends (R := R) _ _ = G
    refine rx_ok (T := TOne) TOne_ok mixed 200 ?_
    refine as_text (q := let zz1 := Value.int IntKind.i64; Vc True ∧ Vc True ∧ Post (G (Value.agg (Array.mk [zz1 1, zz1 (Ti.Td.n (Gv.Ops.sum O7 (El.mk k0 k1))), zz1 (Ti.Td.s (Gv.Ops.sum O7 (El.mk k0 k1))), zz1 (Ti.Td.l (Gv.Ops.sum O7 (El.mk k0 k1)))])) [some (Sum.inl (28, [zz1 k0, zz1 k1])), some (Sum.inl (72, [zz1 1, zz1 (Ti.Td.n (Gv.Ops.sum O7 (El.mk k0 k1))), zz1 (Ti.Td.s (Gv.Ops.sum O7 (El.mk k0 k1))), zz1 (Ti.Td.l (Gv.Ops.sum O7 (El.mk k0 k1)))]))])) ?_ (by kernel_rfl)
    intro zz1; subst zz1
    subst hG
    repeat' (first | apply And.intro | apply Vc.mk | apply fits.mk | intro h | apply Post.mk)
    all_goals (try simp only [decide_eq_true_eq, decide_eq_false_iff_not, Nat.zero_add, ge_iff_le, Int.not_le, Int.not_lt, Int.toNat_natCast, beq_iff_eq, beq_eq_false_iff_ne, bne_iff_ne, bne_eq_false_iff_eq, Bool.not_eq_true', Bool.not_eq_false'] at *)
    all_goals first | contradiction | omega | (apply congrArg Value.bool; assumption) | exact congrArg Value.bool (decide_eq_true (by assumption)) | exact congrArg Value.bool (decide_eq_false (Int.not_lt.mpr (by assumption))) | exact ⟨rfl, by omega⟩ | exact rfl | (simp [*, -List.getD_eq_getElem?_getD]; done) | skip
    exact ⟨[], rfl, rfl, trivial, rfl, rfl, rfl, rfl⟩
  · cases hx
def plusP {R : Type} : Prim R := fun args hh => match args, hh with
  | [.agg ⟨[.int .i64 p0, .int .i64 p1, .int .i64 p2, .int .i64 p3]⟩, .agg ⟨[.int .i64 q0, .int .i64 q1, .int .i64 q2, .int .i64 q3]⟩], [] => some ⟨True, .agg ⟨[.int .i64 (Gv.plusP O7 (⟨p0, ⟨p1, p2, p3⟩⟩ : Gv.Part Ti.Td) (⟨q0, ⟨q1, q2, q3⟩⟩ : Gv.Part Ti.Td)).n, .int .i64 (Gv.plusP O7 (⟨p0, ⟨p1, p2, p3⟩⟩ : Gv.Part Ti.Td) (⟨q0, ⟨q1, q2, q3⟩⟩ : Gv.Part Ti.Td)).sum.n, .int .i64 (Gv.plusP O7 (⟨p0, ⟨p1, p2, p3⟩⟩ : Gv.Part Ti.Td) (⟨q0, ⟨q1, q2, q3⟩⟩ : Gv.Part Ti.Td)).sum.s, .int .i64 (Gv.plusP O7 (⟨p0, ⟨p1, p2, p3⟩⟩ : Gv.Part Ti.Td) (⟨q0, ⟨q1, q2, q3⟩⟩ : Gv.Part Ti.Td)).sum.l]⟩, none, hh, [], []⟩
  | _, _ => none
theorem plus_ok {R : Type} {D : Res R} : ConOk D Try.prog 60 (con1 plusP) := by
  refine con1_ok (prim_at (fn := Try.f60) (root := codeOf Try.f60) (by kernel_rfl) (by kernel_rfl) (by kernel_rfl) fun args hh x hx => ?_)
  unfold plusP at hx
  split at hx
  · rename_i p0 p1 p2 p3 q0 q1 q2 q3
    injection hx with hx
    subst hx
    refine ⟨by first | exact Nat.le_refl _ | exact Nat.zero_le _ | exact Nat.le_succ _, noLit rfl, (fun hw => by first | rfl | cases hw), fun _ hv => ?_⟩
    generalize hG : Rx.Ends (R := R) _ _ = G
    refine rx_ok (T := TPlus) TPlus_ok mixed 200 ?_
    refine as_text (q := let zz2 := Value.int IntKind.i64; let zz1 := (Ti.Td.plus (Ti.Td.mk p1 p2 p3) (Ti.Td.mk q1 q2 q3)); ((p0 == (0 : Int)) = true → Post (G (Value.agg (Array.mk [zz2 q0, zz2 q1, zz2 q2, zz2 q3])) [some (Sum.inl (72, [zz2 p0, zz2 p1, zz2 p2, zz2 p3])), some (Sum.inl (72, [zz2 q0, zz2 q1, zz2 q2, zz2 q3])), some (Sum.inl (72, [zz2 q0, zz2 q1, zz2 q2, zz2 q3]))])) ∧ ((p0 == (0 : Int)) = false → ((q0 == (0 : Int)) = true → Post (G (Value.agg (Array.mk [zz2 p0, zz2 p1, zz2 p2, zz2 p3])) [some (Sum.inl (72, [zz2 p0, zz2 p1, zz2 p2, zz2 p3])), some (Sum.inl (72, [zz2 q0, zz2 q1, zz2 q2, zz2 q3])), some (Sum.inl (72, [zz2 p0, zz2 p1, zz2 p2, zz2 p3]))])) ∧ ((q0 == (0 : Int)) = false → Vc True ∧ Vc True ∧ Vc True ∧ Post (G (Value.agg (Array.mk [zz2 (IntKind.wrap IntKind.i64 (p0 + q0)), zz2 (Ti.Td.n zz1), zz2 (Ti.Td.s zz1), zz2 (Ti.Td.l zz1)])) [some (Sum.inl (72, [zz2 p0, zz2 p1, zz2 p2, zz2 p3])), some (Sum.inl (72, [zz2 q0, zz2 q1, zz2 q2, zz2 q3])), some (Sum.inl (72, [zz2 (IntKind.wrap IntKind.i64 (p0 + q0)), zz2 (Ti.Td.n zz1), zz2 (Ti.Td.s zz1), zz2 (Ti.Td.l zz1)]))])))) ?_ (by kernel_rfl)
    intro zz2 zz1; subst zz1 zz2
    have done : ∀ (p : Gv.Part Ti.Td) (hp : Hp R), p = Gv.plusP O7 (⟨p0, ⟨p1, p2, p3⟩⟩ : Gv.Part Ti.Td) (⟨q0, ⟨q1, q2, q3⟩⟩ : Gv.Part Ti.Td) → G (.agg ⟨[.int .i64 p.n, .int .i64 p.sum.n, .int .i64 p.sum.s, .int .i64 p.sum.l]⟩) hp := by
      intro p hp e
      subst e
      subst hG
      exact ⟨⟨[], rfl, rfl, trivial, rfl, rfl, rfl, rfl⟩⟩
    clear hG
    repeat' (first | apply And.intro | apply Vc.mk | apply fits.mk | intro h | apply Post.mk)
    all_goals (try simp only [decide_eq_true_eq, decide_eq_false_iff_not, Nat.zero_add, ge_iff_le, Int.not_le, Int.not_lt, Int.toNat_natCast, beq_iff_eq, beq_eq_false_iff_ne, bne_iff_ne, bne_eq_false_iff_eq, Bool.not_eq_true', Bool.not_eq_false'] at *)
    all_goals first | contradiction | omega | (apply congrArg Value.bool; assumption) | exact congrArg Value.bool (decide_eq_true (by assumption)) | exact congrArg Value.bool (decide_eq_false (Int.not_lt.mpr (by assumption))) | exact ⟨rfl, by omega⟩ | exact rfl | (simp [*, -List.getD_eq_getElem?_getD]; done) | skip
    · have h : p0 = 0 := by assumption
      exact done (⟨q0, ⟨q1, q2, q3⟩⟩ : Gv.Part Ti.Td) _ (by rw [Gv.plusP, if_pos h])
    · have h : p0 ≠ 0 := by assumption
      have h2 : q0 = 0 := by assumption
      exact done (⟨p0, ⟨p1, p2, p3⟩⟩ : Gv.Part Ti.Td) _ (by rw [Gv.plusP, if_neg h, if_pos h2])
    · have h : p0 ≠ 0 := by assumption
      have h2 : q0 ≠ 0 := by assumption
      exact done ⟨Gv.W (p0 + q0), O7.plus (⟨p0, ⟨p1, p2, p3⟩⟩ : Gv.Part Ti.Td).sum (⟨q0, ⟨q1, q2, q3⟩⟩ : Gv.Part Ti.Td).sum⟩ _ (by rw [Gv.plusP, if_neg h, if_neg h2])
  · cases hx
def TLook : Tab Rs := [(59, liftC zN 2 (con1 getP))]
theorem TLook_ok : TabOk D Try.prog TLook := ⟨liftC_ok _ _ get_ok, trivial⟩
def lookP : Prim Rs := fun args hh => match args, hh with
  | [.pointer (some ⟨0, 0, none⟩), .agg ⟨[.int .i64 ri, .int .i64 rg]⟩], [some (.inl (76, [.pointer (some ⟨1, 0, none⟩), .int .i64 ti, .int .i64 tg])), some (.inr (.inr (.inr (.pool m))))] => some ⟨PP m, .agg ⟨[.int .i64 (Gv.lk O7 m ⟨ri, rg⟩).e.k, .int .i64 (Gv.lk O7 m ⟨ri, rg⟩).e.w, .int .i64 (Gv.lk O7 m ⟨ri, rg⟩).l.i, .int .i64 (Gv.lk O7 m ⟨ri, rg⟩).l.g, .int .i64 (Gv.lk O7 m ⟨ri, rg⟩).r.i, .int .i64 (Gv.lk O7 m ⟨ri, rg⟩).r.g, .int .i64 (Gv.lk O7 m ⟨ri, rg⟩).all.n, .int .i64 (Gv.lk O7 m ⟨ri, rg⟩).all.sum.n, .int .i64 (Gv.lk O7 m ⟨ri, rg⟩).all.sum.s, .int .i64 (Gv.lk O7 m ⟨ri, rg⟩).all.sum.l, .int .i64 (Gv.lk O7 m ⟨ri, rg⟩).h]⟩, none, [some (.inl (76, [.pointer (some ⟨1, 0, none⟩), .int .i64 ti, .int .i64 tg])), some (.inr (.inr (.inr (.pool (Gv.see m ⟨ri, rg⟩)))))], [], [(0, 0)]⟩
  | _, _ => none
theorem look_ok : ConOk D Try.prog 46 (con1 lookP) := by
  refine con1_ok (prim_at (fn := Try.f46) (root := codeOf Try.f46) (by kernel_rfl) (by kernel_rfl) (by kernel_rfl) fun args hh x hx => ?_)
  unfold lookP at hx
  split at hx
  · rename_i ri rg ti tg m
    injection hx with hx
    subst hx
    refine ⟨by first | exact Nat.le_refl _ | exact Nat.zero_le _ | exact Nat.le_succ _, noLit rfl, (fun hw => by first | rfl | cases hw), fun _ hv => ?_⟩
    generalize hG : Rx.Ends (R := Rs) _ _ = G
    refine rx_ok (T := TLook) TLook_ok mixed 200 ?_
    refine as_text (q := let zz2 := Value.int IntKind.i64; let zz1 := (Gv.look zd m (Gv.Ref.mk ri rg)); Vc (PP m) ∧ Post (G (Value.agg (Array.mk [zz2 (El.k (Gv.Node.e zz1)), zz2 (El.w (Gv.Node.e zz1)), zz2 (Gv.Ref.i (Gv.Node.l zz1)), zz2 (Gv.Ref.g (Gv.Node.l zz1)), zz2 (Gv.Ref.i (Gv.Node.r zz1)), zz2 (Gv.Ref.g (Gv.Node.r zz1)), zz2 (Gv.Part.n (Gv.Node.all zz1)), zz2 (Ti.Td.n (Gv.Part.sum (Gv.Node.all zz1))), zz2 (Ti.Td.s (Gv.Part.sum (Gv.Node.all zz1))), zz2 (Ti.Td.l (Gv.Part.sum (Gv.Node.all zz1))), zz2 (Gv.Node.h zz1)])) [some (Sum.inl (76, [Value.pointer (some (Addr.mk 1 0 none)), zz2 ti, zz2 tg])), some (Sum.inr (Sum.inr (Sum.inr (Rs.pool (Gv.see m (Gv.Ref.mk ri rg)))))), some (Sum.inl (70, [zz2 ri, zz2 rg])), some (Sum.inl (74, [zz2 (El.k (Gv.Node.e zz1)), zz2 (El.w (Gv.Node.e zz1)), zz2 (Gv.Ref.i (Gv.Node.l zz1)), zz2 (Gv.Ref.g (Gv.Node.l zz1)), zz2 (Gv.Ref.i (Gv.Node.r zz1)), zz2 (Gv.Ref.g (Gv.Node.r zz1)), zz2 (Gv.Part.n (Gv.Node.all zz1)), zz2 (Ti.Td.n (Gv.Part.sum (Gv.Node.all zz1))), zz2 (Ti.Td.s (Gv.Part.sum (Gv.Node.all zz1))), zz2 (Ti.Td.l (Gv.Part.sum (Gv.Node.all zz1))), zz2 (Gv.Node.h zz1)])), some (Sum.inl (74, [zz2 (El.k (Gv.Node.e zz1)), zz2 (El.w (Gv.Node.e zz1)), zz2 (Gv.Ref.i (Gv.Node.l zz1)), zz2 (Gv.Ref.g (Gv.Node.l zz1)), zz2 (Gv.Ref.i (Gv.Node.r zz1)), zz2 (Gv.Ref.g (Gv.Node.r zz1)), zz2 (Gv.Part.n (Gv.Node.all zz1)), zz2 (Ti.Td.n (Gv.Part.sum (Gv.Node.all zz1))), zz2 (Ti.Td.s (Gv.Part.sum (Gv.Node.all zz1))), zz2 (Ti.Td.l (Gv.Part.sum (Gv.Node.all zz1))), zz2 (Gv.Node.h zz1)]))])) ?_ (by kernel_rfl)
    intro zz2 zz1; subst zz1 zz2
    subst hG
    exact ⟨⟨hv⟩, ⟨⟨[0, 1], rfl, rfl, ⟨.inl rfl, rfl, trivial⟩, rfl, rfl, rfl, rfl⟩⟩⟩
  · cases hx
def TSet : Tab Rs := [(1000000000, wrapCon), (42, liftC zN 2 (con1 oneP)), (60, liftC zN 2 (con1 plusP)), (66, liftC zN 2 (con1 setP))]
theorem TSet_ok : TabOk D Try.prog TSet := ⟨wrapCon_ok, liftC_ok _ _ one_ok, liftC_ok _ _ plus_ok, liftC_ok _ _ set_ok, trivial⟩
def setNP : Prim Rs := fun args hh => match args, hh with
  | [.pointer (some ⟨0, 0, none⟩), .agg ⟨[.int .i64 ri, .int .i64 rg]⟩, .agg ⟨[.int .i64 x0, .int .i64 x1, .int .i64 x2, .int .i64 x3, .int .i64 x4, .int .i64 x5, .int .i64 x6, .int .i64 x7, .int .i64 x8, .int .i64 x9, .int .i64 x10]⟩, .agg ⟨[.int .i64 y0, .int .i64 y1, .int .i64 y2, .int .i64 y3, .int .i64 y4, .int .i64 y5, .int .i64 y6, .int .i64 y7, .int .i64 y8, .int .i64 y9, .int .i64 y10]⟩, .agg ⟨[.int .i64 z0, .int .i64 z1, .int .i64 z2, .int .i64 z3, .int .i64 z4, .int .i64 z5, .int .i64 z6, .int .i64 z7, .int .i64 z8, .int .i64 z9, .int .i64 z10]⟩], [some (.inl (76, [.pointer (some ⟨1, 0, none⟩), .int .i64 ti, .int .i64 tg])), some (.inr (.inr (.inr (.pool m))))] => some ⟨PP m, .agg ⟨[.int .i64 ri, .int .i64 rg]⟩, none, [some (.inl (76, [.pointer (some ⟨1, 0, none⟩), .int .i64 ti, .int .i64 tg])), some (.inr (.inr (.inr (.pool (Gv.setN O7 m ⟨ri, rg⟩ (⟨⟨x0, x1⟩, ⟨x2, x3⟩, ⟨x4, x5⟩, ⟨x6, ⟨x7, x8, x9⟩⟩, x10⟩ : Nd) (⟨⟨y0, y1⟩, ⟨y2, y3⟩, ⟨y4, y5⟩, ⟨y6, ⟨y7, y8, y9⟩⟩, y10⟩ : Nd) (⟨⟨z0, z1⟩, ⟨z2, z3⟩, ⟨z4, z5⟩, ⟨z6, ⟨z7, z8, z9⟩⟩, z10⟩ : Nd))))))], [], [(0, 0)]⟩
  | _, _ => none
theorem setN_ok : ConOk D Try.prog 63 (con1 setNP) := by
  refine con1_ok (prim_at (fn := Try.f63) (root := codeOf Try.f63) (by kernel_rfl) (by kernel_rfl) (by kernel_rfl) fun args hh x hx => ?_)
  unfold setNP at hx
  split at hx
  · rename_i ri rg x0 x1 x2 x3 x4 x5 x6 x7 x8 x9 x10 y0 y1 y2 y3 y4 y5 y6 y7 y8 y9 y10 z0 z1 z2 z3 z4 z5 z6 z7 z8 z9 z10 ti tg m
    injection hx with hx
    subst hx
    refine ⟨by first | exact Nat.le_refl _ | exact Nat.zero_le _ | exact Nat.le_succ _, noLit rfl, (fun hw => by first | rfl | cases hw), fun _ hv => ?_⟩
    generalize hG : Rx.Ends (R := Rs) _ _ = G
    refine rx_ok (T := TSet) TSet_ok mixed 200 ?_
    refine as_text (q := let zz3 := Value.int IntKind.i64; let zz1 := (Gv.plusP O7 (Gv.plusP O7 (Gv.Part.mk y6 (Ti.Td.mk y7 y8 y9)) (Gv.one O7 (El.mk x0 x1))) (Gv.Part.mk z6 (Ti.Td.mk z7 z8 z9))); let zz2 := (IntKind.wrap IntKind.i64 ((1 : Int) + if z10 > y10 then z10 else y10)); Vc True ∧ Vc True ∧ Vc True ∧ Vc True ∧ Vc (PP m) ∧ Post (G (Value.agg (Array.mk [zz3 ri, zz3 rg])) [some (Sum.inl (76, [Value.pointer (some (Addr.mk 1 0 none)), zz3 ti, zz3 tg])), some (Sum.inr (Sum.inr (Sum.inr (Rs.pool (Gv.put1 m (Gv.Ref.mk ri rg) (Gv.Node.mk (El.mk x0 x1) (Gv.Ref.mk x2 x3) (Gv.Ref.mk x4 x5) zz1 zz2)))))), some (Sum.inl (70, [zz3 ri, zz3 rg])), some (Sum.inl (74, [zz3 x0, zz3 x1, zz3 x2, zz3 x3, zz3 x4, zz3 x5, zz3 (Gv.Part.n zz1), zz3 (Ti.Td.n (Gv.Part.sum zz1)), zz3 (Ti.Td.s (Gv.Part.sum zz1)), zz3 (Ti.Td.l (Gv.Part.sum zz1)), zz3 zz2])), some (Sum.inl (74, [zz3 y0, zz3 y1, zz3 y2, zz3 y3, zz3 y4, zz3 y5, zz3 y6, zz3 y7, zz3 y8, zz3 y9, zz3 y10])), some (Sum.inl (74, [zz3 z0, zz3 z1, zz3 z2, zz3 z3, zz3 z4, zz3 z5, zz3 z6, zz3 z7, zz3 z8, zz3 z9, zz3 z10])), some (Sum.inl (70, [zz3 ri, zz3 rg]))])) ?_ (by kernel_rfl)
    intro zz3 zz1 zz2; subst zz2 zz1 zz3
    subst hG
    repeat' (first | apply And.intro | apply Vc.mk | apply fits.mk | intro h | apply Post.mk)
    all_goals (try simp only [decide_eq_true_eq, decide_eq_false_iff_not, Nat.zero_add, ge_iff_le, Int.not_le, Int.not_lt, Int.toNat_natCast, beq_iff_eq, beq_eq_false_iff_ne, bne_iff_ne, bne_eq_false_iff_eq, Bool.not_eq_true', Bool.not_eq_false'] at *)
    all_goals first | contradiction | omega | (apply congrArg Value.bool; assumption) | exact congrArg Value.bool (decide_eq_true (by assumption)) | exact congrArg Value.bool (decide_eq_false (Int.not_lt.mpr (by assumption))) | exact ⟨rfl, by omega⟩ | exact rfl | (simp [*, -List.getD_eq_getElem?_getD]; done) | skip
    all_goals first | assumption | exact ⟨[0, 1], rfl, rfl, ⟨.inl rfl, rfl, trivial⟩, rfl, rfl, rfl, rfl⟩
  · cases hx
end Go.Proofs.Ytclagkjjgmeifaa.G7


/- grove: a pool of nodes of keys and numbers: its functions: tie, level. -/
namespace Go.Proofs.Ytclagkjjgmeifaa.G7
open Go.Proofs.Ytclagkjjgmeifaa.Rx
set_option linter.unusedVariables false
set_option linter.unusedSimpArgs false
set_option maxRecDepth 100000
def TTie : Tab Rs := [(46, liftC zN 2 (con1 lookP)), (63, liftC zN 2 (con1 setNP))]
theorem TTie_ok : TabOk D Try.prog TTie := ⟨liftC_ok _ _ look_ok, liftC_ok _ _ setN_ok, trivial⟩
def tieP : Prim Rs := fun args hh => match args, hh with
  | [.pointer (some ⟨0, 0, none⟩), .agg ⟨[.int .i64 ri, .int .i64 rg]⟩, .agg ⟨[.int .i64 x0, .int .i64 x1, .int .i64 x2, .int .i64 x3, .int .i64 x4, .int .i64 x5, .int .i64 x6, .int .i64 x7, .int .i64 x8, .int .i64 x9, .int .i64 x10]⟩], [some (.inl (76, [.pointer (some ⟨1, 0, none⟩), .int .i64 ti, .int .i64 tg])), some (.inr (.inr (.inr (.pool m))))] => some ⟨PP m, .agg ⟨[.int .i64 ri, .int .i64 rg]⟩, none, [some (.inl (76, [.pointer (some ⟨1, 0, none⟩), .int .i64 ti, .int .i64 tg])), some (.inr (.inr (.inr (.pool (Gv.tie O7 m ⟨ri, rg⟩ (⟨⟨x0, x1⟩, ⟨x2, x3⟩, ⟨x4, x5⟩, ⟨x6, ⟨x7, x8, x9⟩⟩, x10⟩ : Nd))))))], [], [(0, 0)]⟩
  | _, _ => none
theorem tie_ok : ConOk D Try.prog 55 (con1 tieP) := by
  refine con1_ok (prim_at (fn := Try.f55) (root := codeOf Try.f55) (by kernel_rfl) (by kernel_rfl) (by kernel_rfl) fun args hh x hx => ?_)
  unfold tieP at hx
  split at hx
  · rename_i ri rg x0 x1 x2 x3 x4 x5 x6 x7 x8 x9 x10 ti tg m
    injection hx with hx
    subst hx
    refine ⟨by first | exact Nat.le_refl _ | exact Nat.zero_le _ | exact Nat.le_succ _, noLit rfl, (fun hw => by first | rfl | cases hw), fun _ hv => ?_⟩
    generalize hG : Rx.Ends (R := Rs) _ _ = G
    refine rx_ok (T := TTie) TTie_ok mixed 200 ?_
    refine as_text (q := let zz1 := Value.int IntKind.i64; Vc (PP m) ∧ Vc (PP (Gv.see m (Gv.Ref.mk x2 x3))) ∧ Vc (PP (Gv.see (Gv.see m (Gv.Ref.mk x2 x3)) (Gv.Ref.mk x4 x5))) ∧ Post (G (Value.agg (Array.mk [zz1 ri, zz1 rg])) [some (Sum.inl (76, [Value.pointer (some (Addr.mk 1 0 none)), zz1 ti, zz1 tg])), some (Sum.inr (Sum.inr (Sum.inr (Rs.pool (Gv.setN O7 (Gv.see (Gv.see m (Gv.Ref.mk x2 x3)) (Gv.Ref.mk x4 x5)) (Gv.Ref.mk ri rg) (Gv.Node.mk (El.mk x0 x1) (Gv.Ref.mk x2 x3) (Gv.Ref.mk x4 x5) (Gv.Part.mk x6 (Ti.Td.mk x7 x8 x9)) x10) (Gv.lk O7 m (Gv.Ref.mk x2 x3)) (Gv.lk O7 (Gv.see m (Gv.Ref.mk x2 x3)) (Gv.Ref.mk x4 x5))))))), some (Sum.inl (70, [zz1 ri, zz1 rg])), some (Sum.inl (74, [zz1 x0, zz1 x1, zz1 x2, zz1 x3, zz1 x4, zz1 x5, zz1 x6, zz1 x7, zz1 x8, zz1 x9, zz1 x10])), some (Sum.inl (70, [zz1 ri, zz1 rg]))])) ?_ (by kernel_rfl)
    intro zz1; subst zz1
    subst hG
    repeat' (first | apply And.intro | apply Vc.mk | apply fits.mk | intro h | apply Post.mk)
    all_goals (try simp only [decide_eq_true_eq, decide_eq_false_iff_not, Nat.zero_add, ge_iff_le, Int.not_le, Int.not_lt, Int.toNat_natCast, beq_iff_eq, beq_eq_false_iff_ne, bne_iff_ne, bne_eq_false_iff_eq, Bool.not_eq_true', Bool.not_eq_false'] at *)
    all_goals first | contradiction | omega | (apply congrArg Value.bool; assumption) | exact congrArg Value.bool (decide_eq_true (by assumption)) | exact congrArg Value.bool (decide_eq_false (Int.not_lt.mpr (by assumption))) | exact ⟨rfl, by omega⟩ | exact rfl | (simp [*, -List.getD_eq_getElem?_getD]; done) | skip
    all_goals first | assumption | (simp only [Gv.see_ok, Gv.put1_ok, Gv.setN_ok, Gv.tie_ok, Gv.turnL_ok, Gv.turnR_ok, Gv.level_ok, Gv.replace_ok, Gv.hang_ok, Gv.link_ok, Gv.pickF_ok, Gv.glue_ok, Gv.pick_ok, Gv.cutF_ok, Gv.gather_ok, Gv.between_ok, Gv.first_ok, Gv.last_ok]; assumption) | skip
    exact ⟨[0, 1], rfl, rfl, ⟨.inl rfl, rfl, trivial⟩, rfl, rfl, rfl, rfl⟩
  · cases hx
def TTurn : Tab Rs := [(46, liftC zN 2 (con1 lookP)), (55, liftC zN 2 (con1 tieP))]
theorem TTurn_ok : TabOk D Try.prog TTurn := ⟨liftC_ok _ _ look_ok, liftC_ok _ _ tie_ok, trivial⟩
def turnLP : Prim Rs := fun args hh => match args, hh with
  | [.pointer (some ⟨0, 0, none⟩), .agg ⟨[.int .i64 ri, .int .i64 rg]⟩, .agg ⟨[.int .i64 x0, .int .i64 x1, .int .i64 x2, .int .i64 x3, .int .i64 x4, .int .i64 x5, .int .i64 x6, .int .i64 x7, .int .i64 x8, .int .i64 x9, .int .i64 x10]⟩], [some (.inl (76, [.pointer (some ⟨1, 0, none⟩), .int .i64 ti, .int .i64 tg])), some (.inr (.inr (.inr (.pool m))))] => some ⟨PP m, .agg ⟨[.int .i64 x4, .int .i64 x5]⟩, none, [some (.inl (76, [.pointer (some ⟨1, 0, none⟩), .int .i64 ti, .int .i64 tg])), some (.inr (.inr (.inr (.pool (Gv.turnL O7 m ⟨ri, rg⟩ (⟨⟨x0, x1⟩, ⟨x2, x3⟩, ⟨x4, x5⟩, ⟨x6, ⟨x7, x8, x9⟩⟩, x10⟩ : Nd))))))], [], [(0, 0)]⟩
  | _, _ => none
theorem turnL_ok : ConOk D Try.prog 64 (con1 turnLP) := by
  refine con1_ok (prim_at (fn := Try.f64) (root := codeOf Try.f64) (by kernel_rfl) (by kernel_rfl) (by kernel_rfl) fun args hh x hx => ?_)
  unfold turnLP at hx
  split at hx
  · rename_i ri rg x0 x1 x2 x3 x4 x5 x6 x7 x8 x9 x10 ti tg m
    injection hx with hx
    subst hx
    refine ⟨by first | exact Nat.le_refl _ | exact Nat.zero_le _ | exact Nat.le_succ _, noLit rfl, (fun hw => by first | rfl | cases hw), fun _ hv => ?_⟩
    generalize hG : Rx.Ends (R := Rs) _ _ = G
    refine rx_ok (T := TTurn) TTurn_ok mixed 200 ?_
    refine as_text (q := let zz3 := Value.int IntKind.i64; let zz1 := (Gv.lk O7 m (Gv.Ref.mk x4 x5)); let zz2 := (Gv.tie O7 (Gv.see m (Gv.Ref.mk x4 x5)) (Gv.Ref.mk ri rg) (Gv.Node.mk (El.mk x0 x1) (Gv.Ref.mk x2 x3) (Gv.Node.l zz1) (Gv.Part.mk x6 (Ti.Td.mk x7 x8 x9)) x10)); Vc (PP m) ∧ Vc (PP (Gv.see m (Gv.Ref.mk x4 x5))) ∧ Vc (PP zz2) ∧ Post (G (Value.agg (Array.mk [zz3 x4, zz3 x5])) [some (Sum.inl (76, [Value.pointer (some (Addr.mk 1 0 none)), zz3 ti, zz3 tg])), some (Sum.inr (Sum.inr (Sum.inr (Rs.pool (Gv.tie O7 zz2 (Gv.Ref.mk x4 x5) (Gv.Node.mk (Gv.Node.e zz1) (Gv.Ref.mk ri rg) (Gv.Node.r zz1) (Gv.Node.all zz1) (Gv.Node.h zz1))))))), some (Sum.inl (70, [zz3 ri, zz3 rg])), some (Sum.inl (74, [zz3 x0, zz3 x1, zz3 x2, zz3 x3, zz3 (Gv.Ref.i (Gv.Node.l zz1)), zz3 (Gv.Ref.g (Gv.Node.l zz1)), zz3 x6, zz3 x7, zz3 x8, zz3 x9, zz3 x10])), some (Sum.inl (70, [zz3 x4, zz3 x5])), some (Sum.inl (70, [zz3 x4, zz3 x5])), some (Sum.inl (74, [zz3 (El.k (Gv.Node.e zz1)), zz3 (El.w (Gv.Node.e zz1)), zz3 ri, zz3 rg, zz3 (Gv.Ref.i (Gv.Node.r zz1)), zz3 (Gv.Ref.g (Gv.Node.r zz1)), zz3 (Gv.Part.n (Gv.Node.all zz1)), zz3 (Ti.Td.n (Gv.Part.sum (Gv.Node.all zz1))), zz3 (Ti.Td.s (Gv.Part.sum (Gv.Node.all zz1))), zz3 (Ti.Td.l (Gv.Part.sum (Gv.Node.all zz1))), zz3 (Gv.Node.h zz1)]))])) ?_ (by kernel_rfl)
    intro zz3 zz1 zz2; subst zz2 zz1 zz3
    subst hG
    repeat' (first | apply And.intro | apply Vc.mk | apply fits.mk | intro h | apply Post.mk)
    all_goals (try simp only [decide_eq_true_eq, decide_eq_false_iff_not, Nat.zero_add, ge_iff_le, Int.not_le, Int.not_lt, Int.toNat_natCast, beq_iff_eq, beq_eq_false_iff_ne, bne_iff_ne, bne_eq_false_iff_eq, Bool.not_eq_true', Bool.not_eq_false'] at *)
    all_goals first | contradiction | omega | (apply congrArg Value.bool; assumption) | exact congrArg Value.bool (decide_eq_true (by assumption)) | exact congrArg Value.bool (decide_eq_false (Int.not_lt.mpr (by assumption))) | exact ⟨rfl, by omega⟩ | exact rfl | (simp [*, -List.getD_eq_getElem?_getD]; done) | skip
    all_goals first | assumption | (simp only [Gv.see_ok, Gv.put1_ok, Gv.setN_ok, Gv.tie_ok, Gv.turnL_ok, Gv.turnR_ok, Gv.level_ok, Gv.replace_ok, Gv.hang_ok, Gv.link_ok, Gv.pickF_ok, Gv.glue_ok, Gv.pick_ok, Gv.cutF_ok, Gv.gather_ok, Gv.between_ok, Gv.first_ok, Gv.last_ok]; assumption) | skip
    exact ⟨[0, 1], rfl, rfl, ⟨.inl rfl, rfl, trivial⟩, rfl, rfl, rfl, rfl⟩
  · cases hx
def turnRP : Prim Rs := fun args hh => match args, hh with
  | [.pointer (some ⟨0, 0, none⟩), .agg ⟨[.int .i64 ri, .int .i64 rg]⟩, .agg ⟨[.int .i64 x0, .int .i64 x1, .int .i64 x2, .int .i64 x3, .int .i64 x4, .int .i64 x5, .int .i64 x6, .int .i64 x7, .int .i64 x8, .int .i64 x9, .int .i64 x10]⟩], [some (.inl (76, [.pointer (some ⟨1, 0, none⟩), .int .i64 ti, .int .i64 tg])), some (.inr (.inr (.inr (.pool m))))] => some ⟨PP m, .agg ⟨[.int .i64 x2, .int .i64 x3]⟩, none, [some (.inl (76, [.pointer (some ⟨1, 0, none⟩), .int .i64 ti, .int .i64 tg])), some (.inr (.inr (.inr (.pool (Gv.turnR O7 m ⟨ri, rg⟩ (⟨⟨x0, x1⟩, ⟨x2, x3⟩, ⟨x4, x5⟩, ⟨x6, ⟨x7, x8, x9⟩⟩, x10⟩ : Nd))))))], [], [(0, 0)]⟩
  | _, _ => none
theorem turnR_ok : ConOk D Try.prog 65 (con1 turnRP) := by
  refine con1_ok (prim_at (fn := Try.f65) (root := codeOf Try.f65) (by kernel_rfl) (by kernel_rfl) (by kernel_rfl) fun args hh x hx => ?_)
  unfold turnRP at hx
  split at hx
  · rename_i ri rg x0 x1 x2 x3 x4 x5 x6 x7 x8 x9 x10 ti tg m
    injection hx with hx
    subst hx
    refine ⟨by first | exact Nat.le_refl _ | exact Nat.zero_le _ | exact Nat.le_succ _, noLit rfl, (fun hw => by first | rfl | cases hw), fun _ hv => ?_⟩
    generalize hG : Rx.Ends (R := Rs) _ _ = G
    refine rx_ok (T := TTurn) TTurn_ok mixed 200 ?_
    refine as_text (q := let zz3 := Value.int IntKind.i64; let zz1 := (Gv.lk O7 m (Gv.Ref.mk x2 x3)); let zz2 := (Gv.tie O7 (Gv.see m (Gv.Ref.mk x2 x3)) (Gv.Ref.mk ri rg) (Gv.Node.mk (El.mk x0 x1) (Gv.Node.r zz1) (Gv.Ref.mk x4 x5) (Gv.Part.mk x6 (Ti.Td.mk x7 x8 x9)) x10)); Vc (PP m) ∧ Vc (PP (Gv.see m (Gv.Ref.mk x2 x3))) ∧ Vc (PP zz2) ∧ Post (G (Value.agg (Array.mk [zz3 x2, zz3 x3])) [some (Sum.inl (76, [Value.pointer (some (Addr.mk 1 0 none)), zz3 ti, zz3 tg])), some (Sum.inr (Sum.inr (Sum.inr (Rs.pool (Gv.tie O7 zz2 (Gv.Ref.mk x2 x3) (Gv.Node.mk (Gv.Node.e zz1) (Gv.Node.l zz1) (Gv.Ref.mk ri rg) (Gv.Node.all zz1) (Gv.Node.h zz1))))))), some (Sum.inl (70, [zz3 ri, zz3 rg])), some (Sum.inl (74, [zz3 x0, zz3 x1, zz3 (Gv.Ref.i (Gv.Node.r zz1)), zz3 (Gv.Ref.g (Gv.Node.r zz1)), zz3 x4, zz3 x5, zz3 x6, zz3 x7, zz3 x8, zz3 x9, zz3 x10])), some (Sum.inl (70, [zz3 x2, zz3 x3])), some (Sum.inl (70, [zz3 x2, zz3 x3])), some (Sum.inl (74, [zz3 (El.k (Gv.Node.e zz1)), zz3 (El.w (Gv.Node.e zz1)), zz3 (Gv.Ref.i (Gv.Node.l zz1)), zz3 (Gv.Ref.g (Gv.Node.l zz1)), zz3 ri, zz3 rg, zz3 (Gv.Part.n (Gv.Node.all zz1)), zz3 (Ti.Td.n (Gv.Part.sum (Gv.Node.all zz1))), zz3 (Ti.Td.s (Gv.Part.sum (Gv.Node.all zz1))), zz3 (Ti.Td.l (Gv.Part.sum (Gv.Node.all zz1))), zz3 (Gv.Node.h zz1)]))])) ?_ (by kernel_rfl)
    intro zz3 zz1 zz2; subst zz2 zz1 zz3
    subst hG
    repeat' (first | apply And.intro | apply Vc.mk | apply fits.mk | intro h | apply Post.mk)
    all_goals (try simp only [decide_eq_true_eq, decide_eq_false_iff_not, Nat.zero_add, ge_iff_le, Int.not_le, Int.not_lt, Int.toNat_natCast, beq_iff_eq, beq_eq_false_iff_ne, bne_iff_ne, bne_eq_false_iff_eq, Bool.not_eq_true', Bool.not_eq_false'] at *)
    all_goals first | contradiction | omega | (apply congrArg Value.bool; assumption) | exact congrArg Value.bool (decide_eq_true (by assumption)) | exact congrArg Value.bool (decide_eq_false (Int.not_lt.mpr (by assumption))) | exact ⟨rfl, by omega⟩ | exact rfl | (simp [*, -List.getD_eq_getElem?_getD]; done) | skip
    all_goals first | assumption | (simp only [Gv.see_ok, Gv.put1_ok, Gv.setN_ok, Gv.tie_ok, Gv.turnL_ok, Gv.turnR_ok, Gv.level_ok, Gv.replace_ok, Gv.hang_ok, Gv.link_ok, Gv.pickF_ok, Gv.glue_ok, Gv.pick_ok, Gv.cutF_ok, Gv.gather_ok, Gv.between_ok, Gv.first_ok, Gv.last_ok]; assumption) | skip
    exact ⟨[0, 1], rfl, rfl, ⟨.inl rfl, rfl, trivial⟩, rfl, rfl, rfl, rfl⟩
  · cases hx
def TLev : Tab Rs := [(1000000000, wrapCon), (46, liftC zN 2 (con1 lookP)), (63, liftC zN 2 (con1 setNP)), (64, liftC zN 2 (con1 turnLP)), (65, liftC zN 2 (con1 turnRP))]
theorem TLev_ok : TabOk D Try.prog TLev := ⟨wrapCon_ok, liftC_ok _ _ look_ok, liftC_ok _ _ setN_ok, liftC_ok _ _ turnL_ok, liftC_ok _ _ turnR_ok, trivial⟩
def levelP : Prim Rs := fun args hh => match args, hh with
  | [.pointer (some ⟨0, 0, none⟩), .agg ⟨[.int .i64 ri, .int .i64 rg]⟩, .agg ⟨[.int .i64 x0, .int .i64 x1, .int .i64 x2, .int .i64 x3, .int .i64 x4, .int .i64 x5, .int .i64 x6, .int .i64 x7, .int .i64 x8, .int .i64 x9, .int .i64 x10]⟩], [some (.inl (76, [.pointer (some ⟨1, 0, none⟩), .int .i64 ti, .int .i64 tg])), some (.inr (.inr (.inr (.pool m))))] => some ⟨PP m, .agg ⟨[.int .i64 (Gv.level O7 m ⟨ri, rg⟩ (⟨⟨x0, x1⟩, ⟨x2, x3⟩, ⟨x4, x5⟩, ⟨x6, ⟨x7, x8, x9⟩⟩, x10⟩ : Nd)).1.i, .int .i64 (Gv.level O7 m ⟨ri, rg⟩ (⟨⟨x0, x1⟩, ⟨x2, x3⟩, ⟨x4, x5⟩, ⟨x6, ⟨x7, x8, x9⟩⟩, x10⟩ : Nd)).1.g]⟩, none, [some (.inl (76, [.pointer (some ⟨1, 0, none⟩), .int .i64 ti, .int .i64 tg])), some (.inr (.inr (.inr (.pool (Gv.level O7 m ⟨ri, rg⟩ (⟨⟨x0, x1⟩, ⟨x2, x3⟩, ⟨x4, x5⟩, ⟨x6, ⟨x7, x8, x9⟩⟩, x10⟩ : Nd)).2))))], [], [(0, 0)]⟩
  | _, _ => none
theorem level_ok : ConOk D Try.prog 57 (con1 levelP) := by
  refine con1_ok (prim_at (fn := Try.f57) (root := codeOf Try.f57) (by kernel_rfl) (by kernel_rfl) (by kernel_rfl) fun args hh x hx => ?_)
  unfold levelP at hx
  split at hx
  · rename_i ri rg x0 x1 x2 x3 x4 x5 x6 x7 x8 x9 x10 ti tg m
    injection hx with hx
    subst hx
    refine ⟨by first | exact Nat.le_refl _ | exact Nat.zero_le _ | exact Nat.le_succ _, noLit rfl, (fun hw => by first | rfl | cases hw), fun _ hv => ?_⟩
    generalize hG : Rx.Ends (R := Rs) _ _ = G
    refine rx_ok (T := TLev) TLev_ok mixed 200 ?_
    refine as_text (q := let zz16 := Value.pointer (some (Addr.mk 1 0 none)); let zz17 := Value.int IntKind.i64; let zz1 := (Gv.lk O7 m (Gv.Ref.mk x2 x3)); let zz2 := (Gv.lk O7 (Gv.see m (Gv.Ref.mk x2 x3)) (Gv.Ref.mk x4 x5)); let zz3 := (Gv.Node.h zz1 > IntKind.wrap IntKind.i64 (Gv.Node.h zz2 + (1 : Int))); let zz4 := (Gv.see (Gv.see m (Gv.Ref.mk x2 x3)) (Gv.Ref.mk x4 x5)); let zz5 := (Gv.Node.h (Gv.lk O7 zz4 (Gv.Node.r zz1)) > Gv.Node.h (Gv.lk O7 (Gv.see zz4 (Gv.Node.r zz1)) (Gv.Node.l zz1))); let zz6 := (Gv.see (Gv.see zz4 (Gv.Node.r zz1)) (Gv.Node.l zz1)); let zz7 := (Gv.Ref.i (Gv.Node.r zz1)); let zz8 := (Gv.Ref.g (Gv.Node.r zz1)); let zz9 := (Gv.Part.mk x6 (Ti.Td.mk x7 x8 x9)); let zz10 := (Gv.Ref.i (Gv.Node.l zz2)); let zz11 := (Gv.Ref.g (Gv.Node.l zz2)); let zz12 := (Gv.Node.mk (El.mk x0 x1) (Gv.Ref.mk x2 x3) (Gv.Ref.mk x4 x5) zz9 x10); let zz13 := (Gv.Node.h zz2 > IntKind.wrap IntKind.i64 (Gv.Node.h zz1 + (1 : Int))); let zz14 := (Gv.Node.h (Gv.lk O7 zz4 (Gv.Node.l zz2)) > Gv.Node.h (Gv.lk O7 (Gv.see zz4 (Gv.Node.l zz2)) (Gv.Node.r zz2))); let zz15 := (Gv.see (Gv.see zz4 (Gv.Node.l zz2)) (Gv.Node.r zz2)); Vc (PP m) ∧ Vc (PP (Gv.see m (Gv.Ref.mk x2 x3))) ∧ Vc True ∧ (decide zz3 = true → Vc (PP zz4) ∧ Vc (PP (Gv.see zz4 (Gv.Node.r zz1))) ∧ (decide zz5 = true → Vc (PP zz6) ∧ Vc (PP (Gv.turnL O7 zz6 (Gv.Ref.mk x2 x3) zz1)) ∧ Post (G (Value.agg (Array.mk [zz17 zz7, zz17 zz8])) [some (Sum.inl (76, [zz16, zz17 ti, zz17 tg])), some (Sum.inr (Sum.inr (Sum.inr (Rs.pool (Gv.turnR O7 (Gv.turnL O7 zz6 (Gv.Ref.mk x2 x3) zz1) (Gv.Ref.mk ri rg) (Gv.Node.mk (El.mk x0 x1) (Gv.Node.r zz1) (Gv.Ref.mk x4 x5) zz9 x10)))))), some (Sum.inl (70, [zz17 ri, zz17 rg])), some (Sum.inl (74, [zz17 x0, zz17 x1, zz17 zz7, zz17 zz8, zz17 x4, zz17 x5, zz17 x6, zz17 x7, zz17 x8, zz17 x9, zz17 x10])), some (Sum.inl (70, [zz17 zz7, zz17 zz8])), some (Sum.inl (74, [zz17 (El.k (Gv.Node.e zz1)), zz17 (El.w (Gv.Node.e zz1)), zz17 (Gv.Ref.i (Gv.Node.l zz1)), zz17 (Gv.Ref.g (Gv.Node.l zz1)), zz17 zz7, zz17 zz8, zz17 (Gv.Part.n (Gv.Node.all zz1)), zz17 (Ti.Td.n (Gv.Part.sum (Gv.Node.all zz1))), zz17 (Ti.Td.s (Gv.Part.sum (Gv.Node.all zz1))), zz17 (Ti.Td.l (Gv.Part.sum (Gv.Node.all zz1))), zz17 (Gv.Node.h zz1)])), some (Sum.inl (74, [zz17 (El.k (Gv.Node.e zz2)), zz17 (El.w (Gv.Node.e zz2)), zz17 zz10, zz17 zz11, zz17 (Gv.Ref.i (Gv.Node.r zz2)), zz17 (Gv.Ref.g (Gv.Node.r zz2)), zz17 (Gv.Part.n (Gv.Node.all zz2)), zz17 (Ti.Td.n (Gv.Part.sum (Gv.Node.all zz2))), zz17 (Ti.Td.s (Gv.Part.sum (Gv.Node.all zz2))), zz17 (Ti.Td.l (Gv.Part.sum (Gv.Node.all zz2))), zz17 (Gv.Node.h zz2)]))])) ∧ (decide zz5 = false → Vc (PP zz6) ∧ Post (G (Value.agg (Array.mk [zz17 x2, zz17 x3])) [some (Sum.inl (76, [zz16, zz17 ti, zz17 tg])), some (Sum.inr (Sum.inr (Sum.inr (Rs.pool (Gv.turnR O7 zz6 (Gv.Ref.mk ri rg) zz12))))), some (Sum.inl (70, [zz17 ri, zz17 rg])), some (Sum.inl (74, [zz17 x0, zz17 x1, zz17 x2, zz17 x3, zz17 x4, zz17 x5, zz17 x6, zz17 x7, zz17 x8, zz17 x9, zz17 x10])), some (Sum.inl (70, [zz17 x2, zz17 x3])), some (Sum.inl (74, [zz17 (El.k (Gv.Node.e zz1)), zz17 (El.w (Gv.Node.e zz1)), zz17 (Gv.Ref.i (Gv.Node.l zz1)), zz17 (Gv.Ref.g (Gv.Node.l zz1)), zz17 zz7, zz17 zz8, zz17 (Gv.Part.n (Gv.Node.all zz1)), zz17 (Ti.Td.n (Gv.Part.sum (Gv.Node.all zz1))), zz17 (Ti.Td.s (Gv.Part.sum (Gv.Node.all zz1))), zz17 (Ti.Td.l (Gv.Part.sum (Gv.Node.all zz1))), zz17 (Gv.Node.h zz1)])), some (Sum.inl (74, [zz17 (El.k (Gv.Node.e zz2)), zz17 (El.w (Gv.Node.e zz2)), zz17 zz10, zz17 zz11, zz17 (Gv.Ref.i (Gv.Node.r zz2)), zz17 (Gv.Ref.g (Gv.Node.r zz2)), zz17 (Gv.Part.n (Gv.Node.all zz2)), zz17 (Ti.Td.n (Gv.Part.sum (Gv.Node.all zz2))), zz17 (Ti.Td.s (Gv.Part.sum (Gv.Node.all zz2))), zz17 (Ti.Td.l (Gv.Part.sum (Gv.Node.all zz2))), zz17 (Gv.Node.h zz2)]))]))) ∧ (decide zz3 = false → Vc True ∧ (decide zz13 = true → Vc (PP zz4) ∧ Vc (PP (Gv.see zz4 (Gv.Node.l zz2))) ∧ (decide zz14 = true → Vc (PP zz15) ∧ Vc (PP (Gv.turnR O7 zz15 (Gv.Ref.mk x4 x5) zz2)) ∧ Post (G (Value.agg (Array.mk [zz17 zz10, zz17 zz11])) [some (Sum.inl (76, [zz16, zz17 ti, zz17 tg])), some (Sum.inr (Sum.inr (Sum.inr (Rs.pool (Gv.turnL O7 (Gv.turnR O7 zz15 (Gv.Ref.mk x4 x5) zz2) (Gv.Ref.mk ri rg) (Gv.Node.mk (El.mk x0 x1) (Gv.Ref.mk x2 x3) (Gv.Node.l zz2) zz9 x10)))))), some (Sum.inl (70, [zz17 ri, zz17 rg])), some (Sum.inl (74, [zz17 x0, zz17 x1, zz17 x2, zz17 x3, zz17 zz10, zz17 zz11, zz17 x6, zz17 x7, zz17 x8, zz17 x9, zz17 x10])), some (Sum.inl (70, [zz17 zz10, zz17 zz11])), some (Sum.inl (74, [zz17 (El.k (Gv.Node.e zz1)), zz17 (El.w (Gv.Node.e zz1)), zz17 (Gv.Ref.i (Gv.Node.l zz1)), zz17 (Gv.Ref.g (Gv.Node.l zz1)), zz17 zz7, zz17 zz8, zz17 (Gv.Part.n (Gv.Node.all zz1)), zz17 (Ti.Td.n (Gv.Part.sum (Gv.Node.all zz1))), zz17 (Ti.Td.s (Gv.Part.sum (Gv.Node.all zz1))), zz17 (Ti.Td.l (Gv.Part.sum (Gv.Node.all zz1))), zz17 (Gv.Node.h zz1)])), some (Sum.inl (74, [zz17 (El.k (Gv.Node.e zz2)), zz17 (El.w (Gv.Node.e zz2)), zz17 zz10, zz17 zz11, zz17 (Gv.Ref.i (Gv.Node.r zz2)), zz17 (Gv.Ref.g (Gv.Node.r zz2)), zz17 (Gv.Part.n (Gv.Node.all zz2)), zz17 (Ti.Td.n (Gv.Part.sum (Gv.Node.all zz2))), zz17 (Ti.Td.s (Gv.Part.sum (Gv.Node.all zz2))), zz17 (Ti.Td.l (Gv.Part.sum (Gv.Node.all zz2))), zz17 (Gv.Node.h zz2)]))])) ∧ (decide zz14 = false → Vc (PP zz15) ∧ Post (G (Value.agg (Array.mk [zz17 x4, zz17 x5])) [some (Sum.inl (76, [zz16, zz17 ti, zz17 tg])), some (Sum.inr (Sum.inr (Sum.inr (Rs.pool (Gv.turnL O7 zz15 (Gv.Ref.mk ri rg) zz12))))), some (Sum.inl (70, [zz17 ri, zz17 rg])), some (Sum.inl (74, [zz17 x0, zz17 x1, zz17 x2, zz17 x3, zz17 x4, zz17 x5, zz17 x6, zz17 x7, zz17 x8, zz17 x9, zz17 x10])), some (Sum.inl (70, [zz17 x4, zz17 x5])), some (Sum.inl (74, [zz17 (El.k (Gv.Node.e zz1)), zz17 (El.w (Gv.Node.e zz1)), zz17 (Gv.Ref.i (Gv.Node.l zz1)), zz17 (Gv.Ref.g (Gv.Node.l zz1)), zz17 zz7, zz17 zz8, zz17 (Gv.Part.n (Gv.Node.all zz1)), zz17 (Ti.Td.n (Gv.Part.sum (Gv.Node.all zz1))), zz17 (Ti.Td.s (Gv.Part.sum (Gv.Node.all zz1))), zz17 (Ti.Td.l (Gv.Part.sum (Gv.Node.all zz1))), zz17 (Gv.Node.h zz1)])), some (Sum.inl (74, [zz17 (El.k (Gv.Node.e zz2)), zz17 (El.w (Gv.Node.e zz2)), zz17 zz10, zz17 zz11, zz17 (Gv.Ref.i (Gv.Node.r zz2)), zz17 (Gv.Ref.g (Gv.Node.r zz2)), zz17 (Gv.Part.n (Gv.Node.all zz2)), zz17 (Ti.Td.n (Gv.Part.sum (Gv.Node.all zz2))), zz17 (Ti.Td.s (Gv.Part.sum (Gv.Node.all zz2))), zz17 (Ti.Td.l (Gv.Part.sum (Gv.Node.all zz2))), zz17 (Gv.Node.h zz2)]))]))) ∧ (decide zz13 = false → Vc (PP zz4) ∧ Post (G (Value.agg (Array.mk [zz17 ri, zz17 rg])) [some (Sum.inl (76, [zz16, zz17 ti, zz17 tg])), some (Sum.inr (Sum.inr (Sum.inr (Rs.pool (Gv.setN O7 zz4 (Gv.Ref.mk ri rg) zz12 zz1 zz2))))), some (Sum.inl (70, [zz17 ri, zz17 rg])), some (Sum.inl (74, [zz17 x0, zz17 x1, zz17 x2, zz17 x3, zz17 x4, zz17 x5, zz17 x6, zz17 x7, zz17 x8, zz17 x9, zz17 x10])), some (Sum.inl (70, [zz17 ri, zz17 rg])), some (Sum.inl (74, [zz17 (El.k (Gv.Node.e zz1)), zz17 (El.w (Gv.Node.e zz1)), zz17 (Gv.Ref.i (Gv.Node.l zz1)), zz17 (Gv.Ref.g (Gv.Node.l zz1)), zz17 zz7, zz17 zz8, zz17 (Gv.Part.n (Gv.Node.all zz1)), zz17 (Ti.Td.n (Gv.Part.sum (Gv.Node.all zz1))), zz17 (Ti.Td.s (Gv.Part.sum (Gv.Node.all zz1))), zz17 (Ti.Td.l (Gv.Part.sum (Gv.Node.all zz1))), zz17 (Gv.Node.h zz1)])), some (Sum.inl (74, [zz17 (El.k (Gv.Node.e zz2)), zz17 (El.w (Gv.Node.e zz2)), zz17 zz10, zz17 zz11, zz17 (Gv.Ref.i (Gv.Node.r zz2)), zz17 (Gv.Ref.g (Gv.Node.r zz2)), zz17 (Gv.Part.n (Gv.Node.all zz2)), zz17 (Ti.Td.n (Gv.Part.sum (Gv.Node.all zz2))), zz17 (Ti.Td.s (Gv.Part.sum (Gv.Node.all zz2))), zz17 (Ti.Td.l (Gv.Part.sum (Gv.Node.all zz2))), zz17 (Gv.Node.h zz2)]))])))) ?_ (by kernel_rfl)
    intro zz16 zz17 zz1 zz2 zz3 zz4 zz5 zz6 zz7 zz8 zz9 zz10 zz11 zz12 zz13 zz14 zz15; subst zz15 zz14 zz13 zz12 zz11 zz10 zz9 zz8 zz7 zz6 zz5 zz4 zz3 zz2 zz1 zz17 zz16
    have done : ∀ (i g : Int) (m' : Pl) (rest : Hp Rs), Gv.level O7 m ⟨ri, rg⟩ (⟨⟨x0, x1⟩, ⟨x2, x3⟩, ⟨x4, x5⟩, ⟨x6, ⟨x7, x8, x9⟩⟩, x10⟩ : Nd) = (⟨i, g⟩, m') → G (.agg ⟨[.int .i64 i, .int .i64 g]⟩) ([some (.inl (76, [.pointer (some ⟨1, 0, none⟩), .int .i64 ti, .int .i64 tg])), some (.inr (.inr (.inr (.pool m'))))] ++ rest) := by
      intro i g m' rest e
      subst hG
      refine ⟨[0, 1], ?_, rfl, ⟨.inl rfl, ?_, trivial⟩, rfl, rfl, rfl, rfl⟩
      · simp only [e]; rfl
      · simp only [e]; rfl
    clear hG
    repeat' (first | apply And.intro | apply Vc.mk | apply fits.mk | intro h | apply Post.mk)
    all_goals (try simp only [decide_eq_true_eq, decide_eq_false_iff_not, Nat.zero_add, ge_iff_le, Int.not_le, Int.not_lt, Int.toNat_natCast, beq_iff_eq, beq_eq_false_iff_ne, bne_iff_ne, bne_eq_false_iff_eq, Bool.not_eq_true', Bool.not_eq_false'] at *)
    all_goals first | contradiction | omega | (apply congrArg Value.bool; assumption) | exact congrArg Value.bool (decide_eq_true (by assumption)) | exact congrArg Value.bool (decide_eq_false (Int.not_lt.mpr (by assumption))) | exact ⟨rfl, by omega⟩ | exact rfl | (simp [*, -List.getD_eq_getElem?_getD]; done) | skip
    all_goals first | assumption | (simp only [Gv.see_ok, Gv.put1_ok, Gv.setN_ok, Gv.tie_ok, Gv.turnL_ok, Gv.turnR_ok, Gv.level_ok, Gv.replace_ok, Gv.hang_ok, Gv.link_ok, Gv.pickF_ok, Gv.glue_ok, Gv.pick_ok, Gv.cutF_ok, Gv.gather_ok, Gv.between_ok, Gv.first_ok, Gv.last_ok]; assumption) | skip
    all_goals (refine done _ _ _ _ ?_; unfold Gv.level; dsimp only [Gv.W]; repeat' split)
    all_goals first | rfl | (exfalso; omega)
  · cases hx
end Go.Proofs.Ytclagkjjgmeifaa.G7


/- grove: a pool of nodes of keys and numbers: its functions: replace, hang. -/
namespace Go.Proofs.Ytclagkjjgmeifaa.G7
open Go.Proofs.Ytclagkjjgmeifaa.Rx
set_option linter.unusedVariables false
set_option linter.unusedSimpArgs false
set_option maxRecDepth 100000
def hangP  (k : Nat) : Prim Rs := fun args hh => match args, hh with
  | [.pointer (some ⟨0, 0, none⟩), .agg ⟨[.int .i64 ri, .int .i64 rg]⟩, .agg ⟨[.int .i64 fi, .int .i64 fg]⟩, .agg ⟨[.int .i64 k0, .int .i64 k1]⟩], [some (.inl (76, [.pointer (some ⟨1, 0, none⟩), .int .i64 ti, .int .i64 tg])), some (.inr (.inr (.inr (.pool m))))] => some ⟨PP m ∧ Gv.Deep O7 k m ⟨ri, rg⟩, .agg ⟨[.int .i64 (Gv.hang O7 k m ⟨ri, rg⟩ ⟨fi, fg⟩ (⟨k0, k1⟩ : El)).1.i, .int .i64 (Gv.hang O7 k m ⟨ri, rg⟩ ⟨fi, fg⟩ (⟨k0, k1⟩ : El)).1.g]⟩, none, [some (.inl (76, [.pointer (some ⟨1, 0, none⟩), .int .i64 ti, .int .i64 tg])), some (.inr (.inr (.inr (.pool (Gv.hang O7 k m ⟨ri, rg⟩ ⟨fi, fg⟩ (⟨k0, k1⟩ : El)).2))))], [], [(0, 0)]⟩
  | _, _ => none
def THang (k : Nat) : Tab Rs := [(82, liftC zN 2 (con1 cmpP)), (46, liftC zN 2 (con1 lookP)), (57, liftC zN 2 (con1 levelP)), (43, liftC zN 2 (con1 (hangP k)))]
theorem hang_ok : ∀ k : Nat, ConOk D Try.prog 43 (con1 (hangP k))
  | 0 => by
    refine con1_ok (prim_at (fn := Try.f43) (root := codeOf Try.f43) (by kernel_rfl) (by kernel_rfl) (by kernel_rfl) fun args hh x hx => ?_)
    unfold hangP at hx
    split at hx
    · rename_i ri rg fi fg k0 k1 ti tg m
      injection hx with hx
      subst hx
      refine ⟨by first | exact Nat.le_refl _ | exact Nat.zero_le _ | exact Nat.le_succ _, noLit rfl, (fun hw => by first | rfl | cases hw), fun _ hv => ?_⟩
      exact False.elim (And.right hv)
    · cases hx
  | k + 1 => by
    have ih := hang_ok k
    refine con1_ok (prim_at (fn := Try.f43) (root := codeOf Try.f43) (by kernel_rfl) (by kernel_rfl) (by kernel_rfl) fun args hh x hx => ?_)
    unfold hangP at hx
    split at hx
    · rename_i ri rg fi fg k0 k1 ti tg m
      injection hx with hx
      subst hx
      refine ⟨by first | exact Nat.le_refl _ | exact Nat.zero_le _ | exact Nat.le_succ _, noLit rfl, (fun hw => by first | rfl | cases hw), fun _ hv => ?_⟩
      obtain ⟨hp, hd⟩ := hv
      generalize hG : Rx.Ends (R := Rs) _ _ = G
      refine rx_ok (T := (THang k)) (show TabOk D Try.prog (THang k) from ⟨liftC_ok _ _ cmp_ok, liftC_ok _ _ look_ok, liftC_ok _ _ level_ok, liftC_ok _ _ ih, trivial⟩) mixed 200 ?_
      refine as_text (q := let zz10 := Value.pointer (some (Addr.mk 1 0 none)); let zz11 := Value.int IntKind.i64; let zz1 := (Gv.lk O7 m (Gv.Ref.mk ri rg)); let zz2 := (Gv.see m (Gv.Ref.mk ri rg)); let zz3 := (Ti.Td.n (Gv.Part.sum (Gv.Node.all zz1))); let zz4 := (Ti.Td.s (Gv.Part.sum (Gv.Node.all zz1))); let zz5 := (Ti.Td.l (Gv.Part.sum (Gv.Node.all zz1))); let zz6 := (Gv.hang O7 k zz2 (Gv.Node.l zz1) (Gv.Ref.mk fi fg) (El.mk k0 k1)); let zz7 := (Gv.level O7 (Prod.snd zz6) (Gv.Ref.mk ri rg) (Gv.Node.mk (Gv.Node.e zz1) (Prod.fst zz6) (Gv.Node.r zz1) (Gv.Node.all zz1) (Gv.Node.h zz1))); let zz8 := (Gv.hang O7 k zz2 (Gv.Node.r zz1) (Gv.Ref.mk fi fg) (El.mk k0 k1)); let zz9 := (Gv.level O7 (Prod.snd zz8) (Gv.Ref.mk ri rg) (Gv.Node.mk (Gv.Node.e zz1) (Gv.Node.l zz1) (Prod.fst zz8) (Gv.Node.all zz1) (Gv.Node.h zz1))); Vc (PP m) ∧ ((Gv.Node.h zz1 == (0 : Int)) = true → Post (G (Value.agg (Array.mk [zz11 fi, zz11 fg])) [some (Sum.inl (76, [zz10, zz11 ti, zz11 tg])), some (Sum.inr (Sum.inr (Sum.inr (Rs.pool zz2)))), some (Sum.inl (70, [zz11 ri, zz11 rg])), some (Sum.inl (70, [zz11 fi, zz11 fg])), some (Sum.inl (28, [zz11 k0, zz11 k1])), some (Sum.inl (70, [zz11 fi, zz11 fg])), some (Sum.inl (74, [zz11 (El.k (Gv.Node.e zz1)), zz11 (El.w (Gv.Node.e zz1)), zz11 (Gv.Ref.i (Gv.Node.l zz1)), zz11 (Gv.Ref.g (Gv.Node.l zz1)), zz11 (Gv.Ref.i (Gv.Node.r zz1)), zz11 (Gv.Ref.g (Gv.Node.r zz1)), zz11 (Gv.Part.n (Gv.Node.all zz1)), zz11 zz3, zz11 zz4, zz11 zz5, zz11 (Gv.Node.h zz1)]))])) ∧ ((Gv.Node.h zz1 == (0 : Int)) = false → Vc True ∧ Vc True ∧ (decide (Gv.Ops.cmp O7 (El.mk k0 k1) (Gv.Node.e zz1) < (0 : Int)) = true → Vc (PP zz2 ∧ Gv.Deep O7 k zz2 (Gv.Node.l zz1)) ∧ Vc (PP (Prod.snd zz6)) ∧ Post (G (Value.agg (Array.mk [zz11 (Gv.Ref.i (Prod.fst zz7)), zz11 (Gv.Ref.g (Prod.fst zz7))])) [some (Sum.inl (76, [zz10, zz11 ti, zz11 tg])), some (Sum.inr (Sum.inr (Sum.inr (Rs.pool (Prod.snd zz7))))), some (Sum.inl (70, [zz11 ri, zz11 rg])), some (Sum.inl (70, [zz11 fi, zz11 fg])), some (Sum.inl (28, [zz11 k0, zz11 k1])), some (Sum.inl (70, [zz11 (Gv.Ref.i (Prod.fst zz7)), zz11 (Gv.Ref.g (Prod.fst zz7))])), some (Sum.inl (74, [zz11 (El.k (Gv.Node.e zz1)), zz11 (El.w (Gv.Node.e zz1)), zz11 (Gv.Ref.i (Prod.fst zz6)), zz11 (Gv.Ref.g (Prod.fst zz6)), zz11 (Gv.Ref.i (Gv.Node.r zz1)), zz11 (Gv.Ref.g (Gv.Node.r zz1)), zz11 (Gv.Part.n (Gv.Node.all zz1)), zz11 zz3, zz11 zz4, zz11 zz5, zz11 (Gv.Node.h zz1)]))])) ∧ (decide (Gv.Ops.cmp O7 (El.mk k0 k1) (Gv.Node.e zz1) < (0 : Int)) = false → Vc (PP zz2 ∧ Gv.Deep O7 k zz2 (Gv.Node.r zz1)) ∧ Vc (PP (Prod.snd zz8)) ∧ Post (G (Value.agg (Array.mk [zz11 (Gv.Ref.i (Prod.fst zz9)), zz11 (Gv.Ref.g (Prod.fst zz9))])) [some (Sum.inl (76, [zz10, zz11 ti, zz11 tg])), some (Sum.inr (Sum.inr (Sum.inr (Rs.pool (Prod.snd zz9))))), some (Sum.inl (70, [zz11 ri, zz11 rg])), some (Sum.inl (70, [zz11 fi, zz11 fg])), some (Sum.inl (28, [zz11 k0, zz11 k1])), some (Sum.inl (70, [zz11 (Gv.Ref.i (Prod.fst zz9)), zz11 (Gv.Ref.g (Prod.fst zz9))])), some (Sum.inl (74, [zz11 (El.k (Gv.Node.e zz1)), zz11 (El.w (Gv.Node.e zz1)), zz11 (Gv.Ref.i (Gv.Node.l zz1)), zz11 (Gv.Ref.g (Gv.Node.l zz1)), zz11 (Gv.Ref.i (Prod.fst zz8)), zz11 (Gv.Ref.g (Prod.fst zz8)), zz11 (Gv.Part.n (Gv.Node.all zz1)), zz11 zz3, zz11 zz4, zz11 zz5, zz11 (Gv.Node.h zz1)]))])))) ?_ (by kernel_rfl)
      intro zz10 zz11 zz1 zz2 zz3 zz4 zz5 zz6 zz7 zz8 zz9; subst zz9 zz8 zz7 zz6 zz5 zz4 zz3 zz2 zz1 zz11 zz10
      simp only [Gv.Deep] at hd
      have done : ∀ (i g : Int) (m' : Pl) (rest : Hp Rs), Gv.hang O7 (k + 1) m ⟨ri, rg⟩ ⟨fi, fg⟩ (⟨k0, k1⟩ : El) = (⟨i, g⟩, m') → G (.agg ⟨[.int .i64 i, .int .i64 g]⟩) ([some (.inl (76, [.pointer (some ⟨1, 0, none⟩), .int .i64 ti, .int .i64 tg])), some (.inr (.inr (.inr (.pool m'))))] ++ rest) := by
        intro i g m' rest e
        subst hG
        refine ⟨[0, 1], ?_, rfl, ⟨.inl rfl, ?_, trivial⟩, rfl, rfl, rfl, rfl⟩
        · simp only [e]; rfl
        · simp only [e]; rfl
      clear hG
      repeat' (first | apply And.intro | apply Vc.mk | apply fits.mk | intro h | apply Post.mk)
      all_goals (try simp only [decide_eq_true_eq, decide_eq_false_iff_not, Nat.zero_add, ge_iff_le, Int.not_le, Int.not_lt, Int.toNat_natCast, beq_iff_eq, beq_eq_false_iff_ne, bne_iff_ne, bne_eq_false_iff_eq, Bool.not_eq_true', Bool.not_eq_false'] at *)
      all_goals first | contradiction | omega | (apply congrArg Value.bool; assumption) | exact congrArg Value.bool (decide_eq_true (by assumption)) | exact congrArg Value.bool (decide_eq_false (Int.not_lt.mpr (by assumption))) | exact ⟨rfl, by omega⟩ | exact rfl | (simp [*, -List.getD_eq_getElem?_getD]; done) | skip
      all_goals first | assumption | (simp only [Gv.see_ok, Gv.put1_ok, Gv.setN_ok, Gv.tie_ok, Gv.turnL_ok, Gv.turnR_ok, Gv.level_ok, Gv.replace_ok, Gv.hang_ok, Gv.link_ok, Gv.pickF_ok, Gv.glue_ok, Gv.pick_ok, Gv.cutF_ok, Gv.gather_ok, Gv.between_ok, Gv.first_ok, Gv.last_ok]; assumption) | skip
      all_goals first | (rw [Gv.Deep_see]; rcases hd with hd | hd; exfalso; omega; first | exact hd.1 | exact hd.2) | skip
      all_goals (refine done _ _ _ _ ?_; rw [Gv.hang]; (try dsimp only [Gv.W]); repeat' split)
      all_goals first | rfl | (exfalso; omega) | contradiction | exact Prod.ext (Eq.symm (by assumption)) rfl | (exfalso; simp_all; done)
    · cases hx
def replaceP  (k : Nat) : Prim Rs := fun args hh => match args, hh with
  | [.pointer (some ⟨0, 0, none⟩), .agg ⟨[.int .i64 ri, .int .i64 rg]⟩, .agg ⟨[.int .i64 k0, .int .i64 k1]⟩], [some (.inl (76, [.pointer (some ⟨1, 0, none⟩), .int .i64 ti, .int .i64 tg])), some (.inr (.inr (.inr (.pool m))))] => some ⟨PP m ∧ Gv.Deep O7 k m ⟨ri, rg⟩, .bool (Gv.replace O7 k m ⟨ri, rg⟩ (⟨k0, k1⟩ : El)).1, none, [some (.inl (76, [.pointer (some ⟨1, 0, none⟩), .int .i64 ti, .int .i64 tg])), some (.inr (.inr (.inr (.pool (Gv.replace O7 k m ⟨ri, rg⟩ (⟨k0, k1⟩ : El)).2))))], [], [(0, 0)]⟩
  | _, _ => none
def TRepl (k : Nat) : Tab Rs := [(82, liftC zN 2 (con1 cmpP)), (46, liftC zN 2 (con1 lookP)), (55, liftC zN 2 (con1 tieP)), (40, liftC zN 2 (con1 (replaceP k)))]
theorem replace_ok : ∀ k : Nat, ConOk D Try.prog 40 (con1 (replaceP k))
  | 0 => by
    refine con1_ok (prim_at (fn := Try.f40) (root := codeOf Try.f40) (by kernel_rfl) (by kernel_rfl) (by kernel_rfl) fun args hh x hx => ?_)
    unfold replaceP at hx
    split at hx
    · rename_i ri rg k0 k1 ti tg m
      injection hx with hx
      subst hx
      refine ⟨by first | exact Nat.le_refl _ | exact Nat.zero_le _ | exact Nat.le_succ _, noLit rfl, (fun hw => by first | rfl | cases hw), fun _ hv => ?_⟩
      exact False.elim (And.right hv)
    · cases hx
  | k + 1 => by
    have ih := replace_ok k
    refine con1_ok (prim_at (fn := Try.f40) (root := codeOf Try.f40) (by kernel_rfl) (by kernel_rfl) (by kernel_rfl) fun args hh x hx => ?_)
    unfold replaceP at hx
    split at hx
    · rename_i ri rg k0 k1 ti tg m
      injection hx with hx
      subst hx
      refine ⟨by first | exact Nat.le_refl _ | exact Nat.zero_le _ | exact Nat.le_succ _, noLit rfl, (fun hw => by first | rfl | cases hw), fun _ hv => ?_⟩
      obtain ⟨hp, hd⟩ := hv
      generalize hG : Rx.Ends (R := Rs) _ _ = G
      refine rx_ok (T := (TRepl k)) (show TabOk D Try.prog (TRepl k) from ⟨liftC_ok _ _ cmp_ok, liftC_ok _ _ look_ok, liftC_ok _ _ tie_ok, liftC_ok _ _ ih, trivial⟩) mixed 200 ?_
      refine as_text (q := let zz5 := Value.pointer (some (Addr.mk 1 0 none)); let zz6 := Value.int IntKind.i64; let zz1 := (Gv.lk O7 m (Gv.Ref.mk ri rg)); let zz2 := (Gv.see m (Gv.Ref.mk ri rg)); let zz3 := (Gv.replace O7 k zz2 (Gv.Node.l zz1) (El.mk k0 k1)); let zz4 := (Gv.replace O7 k zz2 (Gv.Node.r zz1) (El.mk k0 k1)); Vc (PP m) ∧ ((Gv.Node.h zz1 == (0 : Int)) = true → Post (G (Value.bool false) [some (Sum.inl (76, [zz5, zz6 ti, zz6 tg])), some (Sum.inr (Sum.inr (Sum.inr (Rs.pool zz2)))), some (Sum.inl (70, [zz6 ri, zz6 rg])), some (Sum.inl (28, [zz6 k0, zz6 k1])), some (Sum.inl (74, [zz6 (El.k (Gv.Node.e zz1)), zz6 (El.w (Gv.Node.e zz1)), zz6 (Gv.Ref.i (Gv.Node.l zz1)), zz6 (Gv.Ref.g (Gv.Node.l zz1)), zz6 (Gv.Ref.i (Gv.Node.r zz1)), zz6 (Gv.Ref.g (Gv.Node.r zz1)), zz6 (Gv.Part.n (Gv.Node.all zz1)), zz6 (Ti.Td.n (Gv.Part.sum (Gv.Node.all zz1))), zz6 (Ti.Td.s (Gv.Part.sum (Gv.Node.all zz1))), zz6 (Ti.Td.l (Gv.Part.sum (Gv.Node.all zz1))), zz6 (Gv.Node.h zz1)]))])) ∧ ((Gv.Node.h zz1 == (0 : Int)) = false → Vc True ∧ Vc True ∧ (decide (Gv.Ops.cmp O7 (El.mk k0 k1) (Gv.Node.e zz1) < (0 : Int)) = true → Vc (PP zz2 ∧ Gv.Deep O7 k zz2 (Gv.Node.l zz1)) ∧ (Prod.fst zz3 = true → Vc (PP (Prod.snd zz3)) ∧ Post (G (Value.bool (Prod.fst zz3)) [some (Sum.inl (76, [zz5, zz6 ti, zz6 tg])), some (Sum.inr (Sum.inr (Sum.inr (Rs.pool (Gv.tie O7 (Prod.snd zz3) (Gv.Ref.mk ri rg) zz1))))), some (Sum.inl (70, [zz6 ri, zz6 rg])), some (Sum.inl (28, [zz6 k0, zz6 k1])), some (Sum.inl (74, [zz6 (El.k (Gv.Node.e zz1)), zz6 (El.w (Gv.Node.e zz1)), zz6 (Gv.Ref.i (Gv.Node.l zz1)), zz6 (Gv.Ref.g (Gv.Node.l zz1)), zz6 (Gv.Ref.i (Gv.Node.r zz1)), zz6 (Gv.Ref.g (Gv.Node.r zz1)), zz6 (Gv.Part.n (Gv.Node.all zz1)), zz6 (Ti.Td.n (Gv.Part.sum (Gv.Node.all zz1))), zz6 (Ti.Td.s (Gv.Part.sum (Gv.Node.all zz1))), zz6 (Ti.Td.l (Gv.Part.sum (Gv.Node.all zz1))), zz6 (Gv.Node.h zz1)]))])) ∧ (Prod.fst zz3 = false → Post (G (Value.bool (Prod.fst zz3)) [some (Sum.inl (76, [zz5, zz6 ti, zz6 tg])), some (Sum.inr (Sum.inr (Sum.inr (Rs.pool (Prod.snd zz3))))), some (Sum.inl (70, [zz6 ri, zz6 rg])), some (Sum.inl (28, [zz6 k0, zz6 k1])), some (Sum.inl (74, [zz6 (El.k (Gv.Node.e zz1)), zz6 (El.w (Gv.Node.e zz1)), zz6 (Gv.Ref.i (Gv.Node.l zz1)), zz6 (Gv.Ref.g (Gv.Node.l zz1)), zz6 (Gv.Ref.i (Gv.Node.r zz1)), zz6 (Gv.Ref.g (Gv.Node.r zz1)), zz6 (Gv.Part.n (Gv.Node.all zz1)), zz6 (Ti.Td.n (Gv.Part.sum (Gv.Node.all zz1))), zz6 (Ti.Td.s (Gv.Part.sum (Gv.Node.all zz1))), zz6 (Ti.Td.l (Gv.Part.sum (Gv.Node.all zz1))), zz6 (Gv.Node.h zz1)]))]))) ∧ (decide (Gv.Ops.cmp O7 (El.mk k0 k1) (Gv.Node.e zz1) < (0 : Int)) = false → (decide (Gv.Ops.cmp O7 (El.mk k0 k1) (Gv.Node.e zz1) > (0 : Int)) = true → Vc (PP zz2 ∧ Gv.Deep O7 k zz2 (Gv.Node.r zz1)) ∧ (Prod.fst zz4 = true → Vc (PP (Prod.snd zz4)) ∧ Post (G (Value.bool (Prod.fst zz4)) [some (Sum.inl (76, [zz5, zz6 ti, zz6 tg])), some (Sum.inr (Sum.inr (Sum.inr (Rs.pool (Gv.tie O7 (Prod.snd zz4) (Gv.Ref.mk ri rg) zz1))))), some (Sum.inl (70, [zz6 ri, zz6 rg])), some (Sum.inl (28, [zz6 k0, zz6 k1])), some (Sum.inl (74, [zz6 (El.k (Gv.Node.e zz1)), zz6 (El.w (Gv.Node.e zz1)), zz6 (Gv.Ref.i (Gv.Node.l zz1)), zz6 (Gv.Ref.g (Gv.Node.l zz1)), zz6 (Gv.Ref.i (Gv.Node.r zz1)), zz6 (Gv.Ref.g (Gv.Node.r zz1)), zz6 (Gv.Part.n (Gv.Node.all zz1)), zz6 (Ti.Td.n (Gv.Part.sum (Gv.Node.all zz1))), zz6 (Ti.Td.s (Gv.Part.sum (Gv.Node.all zz1))), zz6 (Ti.Td.l (Gv.Part.sum (Gv.Node.all zz1))), zz6 (Gv.Node.h zz1)]))])) ∧ (Prod.fst zz4 = false → Post (G (Value.bool (Prod.fst zz4)) [some (Sum.inl (76, [zz5, zz6 ti, zz6 tg])), some (Sum.inr (Sum.inr (Sum.inr (Rs.pool (Prod.snd zz4))))), some (Sum.inl (70, [zz6 ri, zz6 rg])), some (Sum.inl (28, [zz6 k0, zz6 k1])), some (Sum.inl (74, [zz6 (El.k (Gv.Node.e zz1)), zz6 (El.w (Gv.Node.e zz1)), zz6 (Gv.Ref.i (Gv.Node.l zz1)), zz6 (Gv.Ref.g (Gv.Node.l zz1)), zz6 (Gv.Ref.i (Gv.Node.r zz1)), zz6 (Gv.Ref.g (Gv.Node.r zz1)), zz6 (Gv.Part.n (Gv.Node.all zz1)), zz6 (Ti.Td.n (Gv.Part.sum (Gv.Node.all zz1))), zz6 (Ti.Td.s (Gv.Part.sum (Gv.Node.all zz1))), zz6 (Ti.Td.l (Gv.Part.sum (Gv.Node.all zz1))), zz6 (Gv.Node.h zz1)]))]))) ∧ (decide (Gv.Ops.cmp O7 (El.mk k0 k1) (Gv.Node.e zz1) > (0 : Int)) = false → Vc (PP zz2) ∧ Post (G (Value.bool true) [some (Sum.inl (76, [zz5, zz6 ti, zz6 tg])), some (Sum.inr (Sum.inr (Sum.inr (Rs.pool (Gv.tie O7 zz2 (Gv.Ref.mk ri rg) (Gv.Node.mk (El.mk k0 k1) (Gv.Node.l zz1) (Gv.Node.r zz1) (Gv.Node.all zz1) (Gv.Node.h zz1))))))), some (Sum.inl (70, [zz6 ri, zz6 rg])), some (Sum.inl (28, [zz6 k0, zz6 k1])), some (Sum.inl (74, [zz6 k0, zz6 k1, zz6 (Gv.Ref.i (Gv.Node.l zz1)), zz6 (Gv.Ref.g (Gv.Node.l zz1)), zz6 (Gv.Ref.i (Gv.Node.r zz1)), zz6 (Gv.Ref.g (Gv.Node.r zz1)), zz6 (Gv.Part.n (Gv.Node.all zz1)), zz6 (Ti.Td.n (Gv.Part.sum (Gv.Node.all zz1))), zz6 (Ti.Td.s (Gv.Part.sum (Gv.Node.all zz1))), zz6 (Ti.Td.l (Gv.Part.sum (Gv.Node.all zz1))), zz6 (Gv.Node.h zz1)]))]))))) ?_ (by kernel_rfl)
      intro zz5 zz6 zz1 zz2 zz3 zz4; subst zz4 zz3 zz2 zz1 zz6 zz5
      simp only [Gv.Deep] at hd
      have done : ∀ (b : Bool) (m' : Pl) (rest : Hp Rs), Gv.replace O7 (k + 1) m ⟨ri, rg⟩ (⟨k0, k1⟩ : El) = (b, m') → G (.bool b) ([some (.inl (76, [.pointer (some ⟨1, 0, none⟩), .int .i64 ti, .int .i64 tg])), some (.inr (.inr (.inr (.pool m'))))] ++ rest) := by
        intro b m' rest e
        subst hG
        refine ⟨[0, 1], ?_, rfl, ⟨.inl rfl, ?_, trivial⟩, rfl, rfl, rfl, rfl⟩
        · simp only [e]; rfl
        · simp only [e]; rfl
      clear hG
      repeat' (first | apply And.intro | apply Vc.mk | apply fits.mk | intro h | apply Post.mk)
      all_goals (try simp only [decide_eq_true_eq, decide_eq_false_iff_not, Nat.zero_add, ge_iff_le, Int.not_le, Int.not_lt, Int.toNat_natCast, beq_iff_eq, beq_eq_false_iff_ne, bne_iff_ne, bne_eq_false_iff_eq, Bool.not_eq_true', Bool.not_eq_false'] at *)
      all_goals first | contradiction | omega | (apply congrArg Value.bool; assumption) | exact congrArg Value.bool (decide_eq_true (by assumption)) | exact congrArg Value.bool (decide_eq_false (Int.not_lt.mpr (by assumption))) | exact ⟨rfl, by omega⟩ | exact rfl | (simp [*, -List.getD_eq_getElem?_getD]; done) | skip
      all_goals first | assumption | (simp only [Gv.see_ok, Gv.put1_ok, Gv.setN_ok, Gv.tie_ok, Gv.turnL_ok, Gv.turnR_ok, Gv.level_ok, Gv.replace_ok, Gv.hang_ok, Gv.link_ok, Gv.pickF_ok, Gv.glue_ok, Gv.pick_ok, Gv.cutF_ok, Gv.gather_ok, Gv.between_ok, Gv.first_ok, Gv.last_ok]; assumption) | skip
      all_goals first | (rw [Gv.Deep_see]; rcases hd with hd | hd; exfalso; omega; first | exact hd.1 | exact hd.2) | skip
      all_goals (refine done _ _ _ ?_; rw [Gv.replace]; (try dsimp only [Gv.W]); repeat' split)
      all_goals first | rfl | (exfalso; omega) | contradiction | exact Prod.ext (Eq.symm (by assumption)) rfl | (exfalso; simp_all; done)
    · cases hx
end Go.Proofs.Ytclagkjjgmeifaa.G7


