/- grove: a pool of nodes of marks: visit, next. -/
import Derived.Test.YtegekenkfomlbaaG8Lay
namespace Go.Proofs.Ytegekenkfomlbaa.G8
open Go.Proofs.Ytegekenkfomlbaa.Rx
set_option linter.unusedVariables false
set_option linter.unusedSimpArgs false
set_option maxRecDepth 100000
/-- a column of so many ints, bools -/
def IsI (n : Nat) (c : Col) : Prop := ∃ l : List Int, c = ⟨l, [], []⟩ ∧ l.length = n
def IsB (n : Nat) (c : Col) : Prop := ∃ l : List Bool, c = ⟨[], l, []⟩ ∧ l.length = n
/-- does a handle live, by the columns -/
def hasC (n : Nat) (gs : List Int) (lv : List Bool) (i g : Int) : Bool := decide (0 ≤ i) && decide (i < n) && lv.getD i.toNat false && decide (gs.getD i.toNat 0 = g)
/-- the columns of so many cells -/
structure Cols (n : Nat) (c0 c1 c2 c3 c4 c5 c6 c7 c8 c9 c10 c11 c12 c13 c14 c15 c16 c17 c18 c19 c20 c21 c22 c23 c24 c25 c26 c27 c28 c29 c30 c31 : Col) : Prop where
  hc0 : IsI n c0
  hc1 : IsB n c1
  hc2 : IsI n c2
  hc3 : IsI n c3
  hc4 : IsB n c4
  hc5 : IsB n c5
  hc6 : IsI n c6
  hc7 : IsI n c7
  hc8 : IsI n c8
  hc9 : IsI n c9
  hc10 : IsI n c10
  hc11 : IsI n c11
  hc12 : IsI n c12
  hc13 : IsI n c13
  hc14 : IsI n c14
  hc15 : IsI n c15
  hc16 : IsI n c16
  hc17 : IsI n c17
  hc18 : IsI n c18
  hc19 : IsI n c19
  hc20 : IsI n c20
  hc21 : IsI n c21
  hc22 : IsI n c22
  hc23 : IsB n c23
  hc24 : IsI n c24
  hc25 : IsI n c25
  hc26 : IsB n c26
  hc27 : IsI n c27
  hc28 : IsI n c28
  hc29 : IsI n c29
  hc30 : IsI n c30
  hc31 : IsB n c31
def ColsL (n : Nat) : List Col → Prop
  | [c0, c1, c2, c3, c4, c5, c6, c7, c8, c9, c10, c11, c12, c13, c14, c15, c16, c17, c18, c19, c20, c21, c22, c23, c24, c25, c26, c27, c28, c29, c30, c31] => Cols n c0 c1 c2 c3 c4 c5 c6 c7 c8 c9 c10 c11 c12 c13 c14 c15 c16 c17 c18 c19 c20 c21 c22 c23 c24 c25 c26 c27 c28 c29 c30 c31
  | _ => False
def visitW : List Value → Hp Empty → Option Bool := fun args hh => match args, hh with
  | [.pointer (some ⟨0, 0, none⟩), .agg ⟨[.int .i64 i, .int .i64 g]⟩], [some (.inl (89, [.slice (some ⟨1, 0, some 32000⟩) n cp, .slice (some ⟨2, 0, some 1000⟩) fn fc, .int .i64 hd, .int .i64 ca, .int .i64 vi])), some (.inr (.inl (92, ⟨tm, n2, [c0, c1, c2, c3, c4, c5, c6, c7, c8, c9, c10, c11, c12, c13, c14, c15, c16, c17, c18, c19, c20, c21, c22, c23, c24, c25, c26, c27, c28, c29, c30, c31]⟩))), some (.inr (.inl (3, ⟨[.int .i64 0], f2, [⟨fr, [], []⟩]⟩)))] => some (hasC n c30.i c31.b i g)
  | _, _ => none
def visitY : Prim Empty := fun args hh => match args, hh with
  | [.pointer (some ⟨0, 0, none⟩), .agg ⟨[.int .i64 i, .int .i64 g]⟩], [some (.inl (89, [.slice (some ⟨1, 0, some 32000⟩) n cp, .slice (some ⟨2, 0, some 1000⟩) fn fc, .int .i64 hd, .int .i64 ca, .int .i64 vi])), some (.inr (.inl (92, ⟨tm, n2, [c0, c1, c2, c3, c4, c5, c6, c7, c8, c9, c10, c11, c12, c13, c14, c15, c16, c17, c18, c19, c20, c21, c22, c23, c24, c25, c26, c27, c28, c29, c30, c31]⟩))), some (.inr (.inl (3, ⟨[.int .i64 0], f2, [⟨fr, [], []⟩]⟩)))] => some ⟨tm = cellTm ∧ n2 = n ∧ n < 1000000 ∧ ColsL n [c0, c1, c2, c3, c4, c5, c6, c7, c8, c9, c10, c11, c12, c13, c14, c15, c16, c17, c18, c19, c20, c21, c22, c23, c24, c25, c26, c27, c28, c29, c30, c31], .pointer (some ⟨1, i.toNat, some 32000⟩), none, [some (.inl (89, [.slice (some ⟨1, 0, some 32000⟩) n cp, .slice (some ⟨2, 0, some 1000⟩) fn fc, .int .i64 hd, .int .i64 ca, .int .i64 (IntKind.i64.wrap (vi + 1))])), some (.inr (.inl (92, ⟨tm, n2, [c0, c1, c2, c3, c4, c5, c6, c7, c8, c9, c10, c11, c12, c13, c14, c15, c16, c17, c18, c19, c20, c21, c22, c23, c24, c25, c26, c27, c28, c29, c30, c31]⟩))), some (.inr (.inl (3, ⟨[.int .i64 0], f2, [⟨fr, [], []⟩]⟩)))], [], [(0, 0)]⟩
  | _, _ => none
def visitN : Prim Empty := fun args hh => match args, hh with
  | [.pointer (some ⟨0, 0, none⟩), .agg ⟨[.int .i64 i, .int .i64 g]⟩], [some (.inl (89, [.slice (some ⟨1, 0, some 32000⟩) n cp, .slice (some ⟨2, 0, some 1000⟩) fn fc, .int .i64 hd, .int .i64 ca, .int .i64 vi])), some (.inr (.inl (92, ⟨tm, n2, [c0, c1, c2, c3, c4, c5, c6, c7, c8, c9, c10, c11, c12, c13, c14, c15, c16, c17, c18, c19, c20, c21, c22, c23, c24, c25, c26, c27, c28, c29, c30, c31]⟩))), some (.inr (.inl (3, ⟨[.int .i64 0], f2, [⟨fr, [], []⟩]⟩)))] => some ⟨tm = cellTm ∧ n2 = n ∧ n < 1000000 ∧ ColsL n [c0, c1, c2, c3, c4, c5, c6, c7, c8, c9, c10, c11, c12, c13, c14, c15, c16, c17, c18, c19, c20, c21, c22, c23, c24, c25, c26, c27, c28, c29, c30, c31], .pointer none, none, hh, [], []⟩
  | _, _ => none
def visitC : Con Empty := ⟨visitW, visitY, visitN⟩
def TWr : Tab Empty := [(1000000000, wrapCon)]
theorem TWr_ok : TabOk NoR Try.prog TWr := ⟨wrapCon_ok, trivial⟩
theorem visitY_ok : PrimOk NoR Try.prog 46 (way visitC true) (visitC.go true) := by
  refine prim_at (fn := Try.f46) (root := codeOf Try.f46) (by kernel_rfl) (by kernel_rfl) (by kernel_rfl) fun args hh x hx => ?_
  unfold visitC Con.go visitY at hx
  simp only at hx
  split at hx
  · rename_i i g n cp fn fc hd ca vi tm n2 c0 c1 c2 c3 c4 c5 c6 c7 c8 c9 c10 c11 c12 c13 c14 c15 c16 c17 c18 c19 c20 c21 c22 c23 c24 c25 c26 c27 c28 c29 c30 c31 f2 fr
    injection hx with hx
    subst hx
    refine ⟨Nat.le_refl _, (fun b hb => by cases hb), (fun hw => by first | rfl | cases hw), fun hon hv => ?_⟩
    obtain ⟨rfl, rfl, hv1, ⟨⟨l0, rfl, hl0⟩, ⟨l1, rfl, hl1⟩, ⟨l2, rfl, hl2⟩, ⟨l3, rfl, hl3⟩, ⟨l4, rfl, hl4⟩, ⟨l5, rfl, hl5⟩, ⟨l6, rfl, hl6⟩, ⟨l7, rfl, hl7⟩, ⟨l8, rfl, hl8⟩, ⟨l9, rfl, hl9⟩, ⟨l10, rfl, hl10⟩, ⟨l11, rfl, hl11⟩, ⟨l12, rfl, hl12⟩, ⟨l13, rfl, hl13⟩, ⟨l14, rfl, hl14⟩, ⟨l15, rfl, hl15⟩, ⟨l16, rfl, hl16⟩, ⟨l17, rfl, hl17⟩, ⟨l18, rfl, hl18⟩, ⟨l19, rfl, hl19⟩, ⟨l20, rfl, hl20⟩, ⟨l21, rfl, hl21⟩, ⟨l22, rfl, hl22⟩, ⟨l23, rfl, hl23⟩, ⟨l24, rfl, hl24⟩, ⟨l25, rfl, hl25⟩, ⟨l26, rfl, hl26⟩, ⟨l27, rfl, hl27⟩, ⟨l28, rfl, hl28⟩, ⟨l29, rfl, hl29⟩, ⟨l30, rfl, hl30⟩, ⟨l31, rfl, hl31⟩⟩⟩ := hv
    have hw : hasC n2 l30 l31 i g = true := by
      rcases hon with ⟨h, _⟩ | h
      · exact (Option.some_ne_none _ h).elim
      · exact Option.some.inj h
    clear hon
    generalize hG : Rx.Ends (R := Empty) _ _ = G
    refine rx_ok (T := TWr) TWr_ok mixed 200 ?_
    refine as_text (q := let zz1 := Value.int IntKind.i64; (decide (i < (0 : Int)) = true → Vc (Value.bool (decide (i < (0 : Int))) = Value.bool true) ∧ Post (G (Value.pointer none) [some (Sum.inl (89, [Value.slice (some (Addr.mk 1 0 (some 32000))) n2 cp, Value.slice (some (Addr.mk 2 0 (some 1000))) fn fc, zz1 hd, zz1 ca, zz1 vi])), some (Sum.inr (Sum.inl (92, Row.mk cellTm n2 (cV l0 l1 l2 l3 l4 l5 l6 l7 l8 l9 l10 l11 l12 l13 l14 l15 l16 l17 l18 l19 l20 l21 l22 l23 l24 l25 l26 l27 l28 l29 l30 l31)))), some (Sum.inr (Sum.inl (3, Row.mk [zz1 0] f2 [Col.mk fr [] []]))), some (Sum.inl (70, [zz1 i, zz1 g]))])) ∧ (decide (i < (0 : Int)) = false → Vc (Value.bool (decide (i < (0 : Int))) = Value.bool false) ∧ (decide (i ≥ (↑n2 : Int)) = true → Post (G (Value.pointer none) [some (Sum.inl (89, [Value.slice (some (Addr.mk 1 0 (some 32000))) n2 cp, Value.slice (some (Addr.mk 2 0 (some 1000))) fn fc, zz1 hd, zz1 ca, zz1 vi])), some (Sum.inr (Sum.inl (92, Row.mk cellTm n2 (cV l0 l1 l2 l3 l4 l5 l6 l7 l8 l9 l10 l11 l12 l13 l14 l15 l16 l17 l18 l19 l20 l21 l22 l23 l24 l25 l26 l27 l28 l29 l30 l31)))), some (Sum.inr (Sum.inl (3, Row.mk [zz1 0] f2 [Col.mk fr [] []]))), some (Sum.inl (70, [zz1 i, zz1 g]))])) ∧ (decide (i ≥ (↑n2 : Int)) = false → Vc ((0 : Int) ≤ i ∧ i < (↑n2 : Int) ∧ 0 + n2 ≤ n2) ∧ Vc (0 + Int.toNat i < n2) ∧ ((!List.getD l31 (0 + Int.toNat i) false) = true → Vc (0 + Int.toNat i < n2) ∧ Vc ((Value.bool !List.getD l31 (0 + Int.toNat i) false) = Value.bool true) ∧ Post (G (Value.pointer none) [some (Sum.inl (89, [Value.slice (some (Addr.mk 1 0 (some 32000))) n2 cp, Value.slice (some (Addr.mk 2 0 (some 1000))) fn fc, zz1 hd, zz1 ca, zz1 vi])), some (Sum.inr (Sum.inl (92, Row.mk cellTm n2 (cV l0 l1 l2 l3 l4 l5 l6 l7 l8 l9 l10 l11 l12 l13 l14 l15 l16 l17 l18 l19 l20 l21 l22 l23 l24 l25 l26 l27 l28 l29 l30 l31)))), some (Sum.inr (Sum.inl (3, Row.mk [zz1 0] f2 [Col.mk fr [] []]))), some (Sum.inl (70, [zz1 i, zz1 g]))])) ∧ ((!List.getD l31 (0 + Int.toNat i) false) = false → Vc (0 + Int.toNat i < n2) ∧ Vc ((Value.bool !List.getD l31 (0 + Int.toNat i) false) = Value.bool false) ∧ Vc (0 + Int.toNat i < n2) ∧ ((List.getD l30 (0 + Int.toNat i) (0 : Int) != g) = true → Post (G (Value.pointer none) [some (Sum.inl (89, [Value.slice (some (Addr.mk 1 0 (some 32000))) n2 cp, Value.slice (some (Addr.mk 2 0 (some 1000))) fn fc, zz1 hd, zz1 ca, zz1 vi])), some (Sum.inr (Sum.inl (92, Row.mk cellTm n2 (cV l0 l1 l2 l3 l4 l5 l6 l7 l8 l9 l10 l11 l12 l13 l14 l15 l16 l17 l18 l19 l20 l21 l22 l23 l24 l25 l26 l27 l28 l29 l30 l31)))), some (Sum.inr (Sum.inl (3, Row.mk [zz1 0] f2 [Col.mk fr [] []]))), some (Sum.inl (70, [zz1 i, zz1 g]))])) ∧ ((List.getD l30 (0 + Int.toNat i) (0 : Int) != g) = false → Vc True ∧ Post (G (Value.pointer (some (Addr.mk 1 (0 + Int.toNat i) (some 32000)))) [some (Sum.inl (89, [Value.slice (some (Addr.mk 1 0 (some 32000))) n2 cp, Value.slice (some (Addr.mk 2 0 (some 1000))) fn fc, zz1 hd, zz1 ca, zz1 (IntKind.wrap IntKind.i64 (vi + (1 : Int)))])), some (Sum.inr (Sum.inl (92, Row.mk cellTm n2 (cV l0 l1 l2 l3 l4 l5 l6 l7 l8 l9 l10 l11 l12 l13 l14 l15 l16 l17 l18 l19 l20 l21 l22 l23 l24 l25 l26 l27 l28 l29 l30 l31)))), some (Sum.inr (Sum.inl (3, Row.mk [zz1 0] f2 [Col.mk fr [] []]))), some (Sum.inl (70, [zz1 i, zz1 g]))])))))) ?_ (by kernel_rfl)
    intro zz1; subst zz1
    have e0 : 0 + i.toNat = i.toNat := Nat.zero_add _
    rw [e0]
    clear hl0 hl1 hl2 hl3 hl4 hl5 hl6 hl7 hl8 hl9 hl10 hl11 hl12 hl13 hl14 hl15 hl16 hl17 hl18 hl19 hl20 hl21 hl22 hl23 hl24 hl25 hl26 hl27 hl28 hl29 hl30 hl31
    subst hG
    have hw3 : hasC n2 l30 l31 i g = (decide (0 ≤ i) && decide (i < n2) && (l31).getD i.toNat false && decide ((l30).getD i.toNat 0 = g)) := rfl
    refine ⟨fun h => ⟨⟨congrArg Value.bool h⟩, ⟨?_⟩⟩, fun h => ⟨⟨congrArg Value.bool h⟩, fun h2 => ⟨?_⟩, fun h2 => ?_⟩⟩
    rotate_left 2
    · have i0 := of_decide_eq_false h
      have i1 := of_decide_eq_false h2
      rw [decide_eq_true (by omega), decide_eq_true (by omega), Bool.true_and, Bool.true_and] at hw3
      refine ⟨⟨by omega, by omega, by omega⟩, ⟨by omega⟩, fun h3 => ⟨⟨by omega⟩, ⟨congrArg Value.bool h3⟩, ⟨?_⟩⟩, fun h3 => ⟨⟨by omega⟩, ⟨congrArg Value.bool h3⟩, ⟨by omega⟩, fun h4 => ⟨?_⟩, fun h4 => ⟨⟨trivial⟩, ⟨?_⟩⟩⟩⟩
      · rw [Bool.not_eq_true'] at h3; rw [hw, h3] at hw3; cases hw3
      · rw [hw, decide_eq_false (ne_of_beq_false (by simpa using h4)), Bool.and_false] at hw3; cases hw3
      · exact ⟨[0, 1, 2], rfl, rfl, ⟨.inl rfl, ⟨_, rfl, .inl rfl⟩, ⟨_, rfl, .inl rfl⟩, trivial⟩, rfl, rfl, rfl, rfl⟩
    · have := of_decide_eq_true h; rw [hw, decide_eq_false (by omega)] at hw3; cases hw3
    · have := of_decide_eq_true h2; rw [hw, decide_eq_false (p := i < n2) (by omega), Bool.and_false] at hw3; cases hw3
  · cases hx
theorem visitN_ok : PrimOk NoR Try.prog 46 (way visitC false) (visitC.go false) := by
  refine prim_at (fn := Try.f46) (root := codeOf Try.f46) (by kernel_rfl) (by kernel_rfl) (by kernel_rfl) fun args hh x hx => ?_
  unfold visitC Con.go visitN at hx
  simp only at hx
  split at hx
  · rename_i i g n cp fn fc hd ca vi tm n2 c0 c1 c2 c3 c4 c5 c6 c7 c8 c9 c10 c11 c12 c13 c14 c15 c16 c17 c18 c19 c20 c21 c22 c23 c24 c25 c26 c27 c28 c29 c30 c31 f2 fr
    injection hx with hx
    subst hx
    refine ⟨Nat.le_refl _, (fun b hb => by cases hb), (fun hw => by first | rfl | cases hw), fun hon hv => ?_⟩
    obtain ⟨rfl, rfl, hv1, ⟨⟨l0, rfl, hl0⟩, ⟨l1, rfl, hl1⟩, ⟨l2, rfl, hl2⟩, ⟨l3, rfl, hl3⟩, ⟨l4, rfl, hl4⟩, ⟨l5, rfl, hl5⟩, ⟨l6, rfl, hl6⟩, ⟨l7, rfl, hl7⟩, ⟨l8, rfl, hl8⟩, ⟨l9, rfl, hl9⟩, ⟨l10, rfl, hl10⟩, ⟨l11, rfl, hl11⟩, ⟨l12, rfl, hl12⟩, ⟨l13, rfl, hl13⟩, ⟨l14, rfl, hl14⟩, ⟨l15, rfl, hl15⟩, ⟨l16, rfl, hl16⟩, ⟨l17, rfl, hl17⟩, ⟨l18, rfl, hl18⟩, ⟨l19, rfl, hl19⟩, ⟨l20, rfl, hl20⟩, ⟨l21, rfl, hl21⟩, ⟨l22, rfl, hl22⟩, ⟨l23, rfl, hl23⟩, ⟨l24, rfl, hl24⟩, ⟨l25, rfl, hl25⟩, ⟨l26, rfl, hl26⟩, ⟨l27, rfl, hl27⟩, ⟨l28, rfl, hl28⟩, ⟨l29, rfl, hl29⟩, ⟨l30, rfl, hl30⟩, ⟨l31, rfl, hl31⟩⟩⟩ := hv
    have hw : hasC n2 l30 l31 i g = false := by
      rcases hon with ⟨h, _⟩ | h
      · exact (Option.some_ne_none _ h).elim
      · exact Option.some.inj h
    clear hon
    generalize hG : Rx.Ends (R := Empty) _ _ = G
    refine rx_ok (T := TWr) TWr_ok mixed 200 ?_
    refine as_text (q := let zz1 := Value.int IntKind.i64; (decide (i < (0 : Int)) = true → Vc (Value.bool (decide (i < (0 : Int))) = Value.bool true) ∧ Post (G (Value.pointer none) [some (Sum.inl (89, [Value.slice (some (Addr.mk 1 0 (some 32000))) n2 cp, Value.slice (some (Addr.mk 2 0 (some 1000))) fn fc, zz1 hd, zz1 ca, zz1 vi])), some (Sum.inr (Sum.inl (92, Row.mk cellTm n2 (cV l0 l1 l2 l3 l4 l5 l6 l7 l8 l9 l10 l11 l12 l13 l14 l15 l16 l17 l18 l19 l20 l21 l22 l23 l24 l25 l26 l27 l28 l29 l30 l31)))), some (Sum.inr (Sum.inl (3, Row.mk [zz1 0] f2 [Col.mk fr [] []]))), some (Sum.inl (70, [zz1 i, zz1 g]))])) ∧ (decide (i < (0 : Int)) = false → Vc (Value.bool (decide (i < (0 : Int))) = Value.bool false) ∧ (decide (i ≥ (↑n2 : Int)) = true → Post (G (Value.pointer none) [some (Sum.inl (89, [Value.slice (some (Addr.mk 1 0 (some 32000))) n2 cp, Value.slice (some (Addr.mk 2 0 (some 1000))) fn fc, zz1 hd, zz1 ca, zz1 vi])), some (Sum.inr (Sum.inl (92, Row.mk cellTm n2 (cV l0 l1 l2 l3 l4 l5 l6 l7 l8 l9 l10 l11 l12 l13 l14 l15 l16 l17 l18 l19 l20 l21 l22 l23 l24 l25 l26 l27 l28 l29 l30 l31)))), some (Sum.inr (Sum.inl (3, Row.mk [zz1 0] f2 [Col.mk fr [] []]))), some (Sum.inl (70, [zz1 i, zz1 g]))])) ∧ (decide (i ≥ (↑n2 : Int)) = false → Vc ((0 : Int) ≤ i ∧ i < (↑n2 : Int) ∧ 0 + n2 ≤ n2) ∧ Vc (0 + Int.toNat i < n2) ∧ ((!List.getD l31 (0 + Int.toNat i) false) = true → Vc (0 + Int.toNat i < n2) ∧ Vc ((Value.bool !List.getD l31 (0 + Int.toNat i) false) = Value.bool true) ∧ Post (G (Value.pointer none) [some (Sum.inl (89, [Value.slice (some (Addr.mk 1 0 (some 32000))) n2 cp, Value.slice (some (Addr.mk 2 0 (some 1000))) fn fc, zz1 hd, zz1 ca, zz1 vi])), some (Sum.inr (Sum.inl (92, Row.mk cellTm n2 (cV l0 l1 l2 l3 l4 l5 l6 l7 l8 l9 l10 l11 l12 l13 l14 l15 l16 l17 l18 l19 l20 l21 l22 l23 l24 l25 l26 l27 l28 l29 l30 l31)))), some (Sum.inr (Sum.inl (3, Row.mk [zz1 0] f2 [Col.mk fr [] []]))), some (Sum.inl (70, [zz1 i, zz1 g]))])) ∧ ((!List.getD l31 (0 + Int.toNat i) false) = false → Vc (0 + Int.toNat i < n2) ∧ Vc ((Value.bool !List.getD l31 (0 + Int.toNat i) false) = Value.bool false) ∧ Vc (0 + Int.toNat i < n2) ∧ ((List.getD l30 (0 + Int.toNat i) (0 : Int) != g) = true → Post (G (Value.pointer none) [some (Sum.inl (89, [Value.slice (some (Addr.mk 1 0 (some 32000))) n2 cp, Value.slice (some (Addr.mk 2 0 (some 1000))) fn fc, zz1 hd, zz1 ca, zz1 vi])), some (Sum.inr (Sum.inl (92, Row.mk cellTm n2 (cV l0 l1 l2 l3 l4 l5 l6 l7 l8 l9 l10 l11 l12 l13 l14 l15 l16 l17 l18 l19 l20 l21 l22 l23 l24 l25 l26 l27 l28 l29 l30 l31)))), some (Sum.inr (Sum.inl (3, Row.mk [zz1 0] f2 [Col.mk fr [] []]))), some (Sum.inl (70, [zz1 i, zz1 g]))])) ∧ ((List.getD l30 (0 + Int.toNat i) (0 : Int) != g) = false → Vc True ∧ Post (G (Value.pointer (some (Addr.mk 1 (0 + Int.toNat i) (some 32000)))) [some (Sum.inl (89, [Value.slice (some (Addr.mk 1 0 (some 32000))) n2 cp, Value.slice (some (Addr.mk 2 0 (some 1000))) fn fc, zz1 hd, zz1 ca, zz1 (IntKind.wrap IntKind.i64 (vi + (1 : Int)))])), some (Sum.inr (Sum.inl (92, Row.mk cellTm n2 (cV l0 l1 l2 l3 l4 l5 l6 l7 l8 l9 l10 l11 l12 l13 l14 l15 l16 l17 l18 l19 l20 l21 l22 l23 l24 l25 l26 l27 l28 l29 l30 l31)))), some (Sum.inr (Sum.inl (3, Row.mk [zz1 0] f2 [Col.mk fr [] []]))), some (Sum.inl (70, [zz1 i, zz1 g]))])))))) ?_ (by kernel_rfl)
    intro zz1; subst zz1
    have e0 : 0 + i.toNat = i.toNat := Nat.zero_add _
    rw [e0]
    clear hl0 hl1 hl2 hl3 hl4 hl5 hl6 hl7 hl8 hl9 hl10 hl11 hl12 hl13 hl14 hl15 hl16 hl17 hl18 hl19 hl20 hl21 hl22 hl23 hl24 hl25 hl26 hl27 hl28 hl29 hl30 hl31
    subst hG
    have hw3 : hasC n2 l30 l31 i g = (decide (0 ≤ i) && decide (i < n2) && (l31).getD i.toNat false && decide ((l30).getD i.toNat 0 = g)) := rfl
    refine ⟨fun h => ⟨⟨congrArg Value.bool h⟩, ⟨?_⟩⟩, fun h => ⟨⟨congrArg Value.bool h⟩, fun h2 => ⟨?_⟩, fun h2 => ?_⟩⟩
    rotate_left 2
    · have i0 := of_decide_eq_false h
      have i1 := of_decide_eq_false h2
      rw [decide_eq_true (by omega), decide_eq_true (by omega), Bool.true_and, Bool.true_and] at hw3
      refine ⟨⟨by omega, by omega, by omega⟩, ⟨by omega⟩, fun h3 => ⟨⟨by omega⟩, ⟨congrArg Value.bool h3⟩, ⟨?_⟩⟩, fun h3 => ⟨⟨by omega⟩, ⟨congrArg Value.bool h3⟩, ⟨by omega⟩, fun h4 => ⟨?_⟩, fun h4 => ⟨⟨trivial⟩, ⟨?_⟩⟩⟩⟩
      · exact ⟨[0, 1, 2], rfl, rfl, ⟨.inl rfl, ⟨_, rfl, .inl rfl⟩, ⟨_, rfl, .inl rfl⟩, trivial⟩, rfl, rfl, rfl, rfl⟩
      · exact ⟨[0, 1, 2], rfl, rfl, ⟨.inl rfl, ⟨_, rfl, .inl rfl⟩, ⟨_, rfl, .inl rfl⟩, trivial⟩, rfl, rfl, rfl, rfl⟩
      · rw [hw, decide_eq_true (by simpa using h4), Bool.and_true] at hw3; rw [Bool.not_eq_false'] at h3; rw [h3] at hw3; cases hw3
    · exact ⟨[0, 1, 2], rfl, rfl, ⟨.inl rfl, ⟨_, rfl, .inl rfl⟩, ⟨_, rfl, .inl rfl⟩, trivial⟩, rfl, rfl, rfl, rfl⟩
    · exact ⟨[0, 1, 2], rfl, rfl, ⟨.inl rfl, ⟨_, rfl, .inl rfl⟩, ⟨_, rfl, .inl rfl⟩, trivial⟩, rfl, rfl, rfl, rfl⟩
  · cases hx
theorem visit_ok : ConOk NoR Try.prog 46 visitC := fun b => by cases b; exact visitN_ok; exact visitY_ok
theorem fits_m1 : Vc (fits (-1)) := ⟨⟨by omega, by omega⟩⟩
theorem nx_cap {n : Nat} (h : n < 1000000) : Vc (0 + n ≤ n ∧ 1 ≤ 1 ∧ (n + 1) * 256 ≤ 140737488355328 ∧ n + 1 ≤ 140737488355328) := ⟨by omega, by omega, by omega, by omega⟩
theorem nx_fits {n : Nat} (h : n < 1000000) : Vc (fits (((n + 1 : Nat) : Int) - 1)) := ⟨⟨by omega, by omega⟩⟩
theorem nx_e1 (n : Nat) : ((n + 1 : Nat) : Int) - 1 = n := by omega
def nextW : List Value → Hp Empty → Option Bool := fun args hh => match args, hh with
  | [.pointer (some ⟨0, 0, none⟩)], [some (.inl (89, [.slice (some ⟨1, 0, some 32000⟩) n cp, .slice (some ⟨2, 0, some 1000⟩) fn fc, .int .i64 hd, .int .i64 ca, .int .i64 vi])), some (.inr (.inl (92, ⟨tm, n2, [c0, c1, c2, c3, c4, c5, c6, c7, c8, c9, c10, c11, c12, c13, c14, c15, c16, c17, c18, c19, c20, c21, c22, c23, c24, c25, c26, c27, c28, c29, c30, c31]⟩))), some (.inr (.inl (3, ⟨[.int .i64 0], f2, [⟨fr, [], []⟩]⟩)))] => some (decide (fn = 0))
  | _, _ => none
def nextY : Prim Empty := fun args hh => match args, hh with
  | [.pointer (some ⟨0, 0, none⟩)], [some (.inl (89, [.slice (some ⟨1, 0, some 32000⟩) n cp, .slice (some ⟨2, 0, some 1000⟩) fn fc, .int .i64 hd, .int .i64 ca, .int .i64 vi])), some (.inr (.inl (92, ⟨tm, n2, [c0, c1, c2, c3, c4, c5, c6, c7, c8, c9, c10, c11, c12, c13, c14, c15, c16, c17, c18, c19, c20, c21, c22, c23, c24, c25, c26, c27, c28, c29, c30, c31]⟩))), some (.inr (.inl (3, ⟨[.int .i64 0], f2, [⟨fr, [], []⟩]⟩)))] => some ⟨fn = 0 ∧ f2 = fn ∧ fc = 0 ∧ cp = 0 ∧ tm = cellTm ∧ n2 = n ∧ n < 1000000 ∧ ColsL n [c0, c1, c2, c3, c4, c5, c6, c7, c8, c9, c10, c11, c12, c13, c14, c15, c16, c17, c18, c19, c20, c21, c22, c23, c24, c25, c26, c27, c28, c29, c30, c31], .int .i64 n, none, [some (.inl (89, [.slice (some ⟨3, 0, some 32000⟩) (n + 1) 0, .slice (some ⟨2, 0, some 1000⟩) fn fc, .int .i64 hd, .int .i64 ca, .int .i64 vi])), none, some (.inr (.inl (3, ⟨[.int .i64 0], f2, [⟨fr, [], []⟩]⟩))), some (.inr (.inl (92, ⟨tm, (n + 1), [⟨c0.i ++ [0], [], []⟩, ⟨[], c1.b ++ [false], []⟩, ⟨c2.i ++ [0], [], []⟩, ⟨c3.i ++ [0], [], []⟩, ⟨[], c4.b ++ [false], []⟩, ⟨[], c5.b ++ [false], []⟩, ⟨c6.i ++ [0], [], []⟩, ⟨c7.i ++ [0], [], []⟩, ⟨c8.i ++ [0], [], []⟩, ⟨c9.i ++ [0], [], []⟩, ⟨c10.i ++ [0], [], []⟩, ⟨c11.i ++ [0], [], []⟩, ⟨c12.i ++ [0], [], []⟩, ⟨c13.i ++ [0], [], []⟩, ⟨c14.i ++ [0], [], []⟩, ⟨c15.i ++ [0], [], []⟩, ⟨c16.i ++ [0], [], []⟩, ⟨c17.i ++ [0], [], []⟩, ⟨c18.i ++ [0], [], []⟩, ⟨c19.i ++ [0], [], []⟩, ⟨c20.i ++ [0], [], []⟩, ⟨c21.i ++ [0], [], []⟩, ⟨c22.i ++ [0], [], []⟩, ⟨[], c23.b ++ [false], []⟩, ⟨c24.i ++ [0], [], []⟩, ⟨c25.i ++ [0], [], []⟩, ⟨[], c26.b ++ [false], []⟩, ⟨c27.i ++ [0], [], []⟩, ⟨c28.i ++ [0], [], []⟩, ⟨c29.i ++ [0], [], []⟩, ⟨c30.i ++ [0], [], []⟩, ⟨[], c31.b ++ [false], []⟩]⟩)))], [], [(0, 0)]⟩
  | _, _ => none
def nextN : Prim Empty := fun args hh => match args, hh with
  | [.pointer (some ⟨0, 0, none⟩)], [some (.inl (89, [.slice (some ⟨1, 0, some 32000⟩) n cp, .slice (some ⟨2, 0, some 1000⟩) fn fc, .int .i64 hd, .int .i64 ca, .int .i64 vi])), some (.inr (.inl (92, ⟨tm, n2, [c0, c1, c2, c3, c4, c5, c6, c7, c8, c9, c10, c11, c12, c13, c14, c15, c16, c17, c18, c19, c20, c21, c22, c23, c24, c25, c26, c27, c28, c29, c30, c31]⟩))), some (.inr (.inl (3, ⟨[.int .i64 0], f2, [⟨fr, [], []⟩]⟩)))] => some ⟨fn ≠ 0 ∧ f2 = fn ∧ fr.length = fn ∧ fc = 0 ∧ cp = 0 ∧ fn < 1000000 ∧ tm = cellTm ∧ n2 = n ∧ n < 1000000 ∧ ColsL n [c0, c1, c2, c3, c4, c5, c6, c7, c8, c9, c10, c11, c12, c13, c14, c15, c16, c17, c18, c19, c20, c21, c22, c23, c24, c25, c26, c27, c28, c29, c30, c31], .int .i64 (fr.getD (fn - 1) 0), none, [some (.inl (89, [.slice (some ⟨1, 0, some 32000⟩) n 0, .slice (some ⟨2, 0, some 1000⟩) (fn - 1) 0, .int .i64 hd, .int .i64 ca, .int .i64 vi])), some (.inr (.inl (92, ⟨tm, n2, [c0, c1, c2, c3, c4, c5, c6, c7, c8, c9, c10, c11, c12, c13, c14, c15, c16, c17, c18, c19, c20, c21, c22, c23, c24, c25, c26, c27, c28, c29, c30, c31]⟩))), some (.inr (.inl (3, ⟨[.int .i64 0], (fn - 1), [⟨(fr.take (fn - 1)), [], []⟩]⟩)))], [], [(0, 0)]⟩
  | _, _ => none
def nextC : Con Empty := ⟨nextW, nextY, nextN⟩
theorem nextY_ok : PrimOk NoR Try.prog 43 (way nextC true) (nextC.go true) := by
  refine prim_at (fn := Try.f43) (root := codeOf Try.f43) (by kernel_rfl) (by kernel_rfl) (by kernel_rfl) fun args hh x hx => ?_
  unfold nextC Con.go nextY at hx
  simp only at hx
  split at hx
  · rename_i n cp fn fc hd ca vi tm n2 c0 c1 c2 c3 c4 c5 c6 c7 c8 c9 c10 c11 c12 c13 c14 c15 c16 c17 c18 c19 c20 c21 c22 c23 c24 c25 c26 c27 c28 c29 c30 c31 f2 fr
    injection hx with hx
    subst hx
    refine ⟨by first | exact Nat.le_refl _ | exact Nat.le_succ _, (fun b hb => by cases hb), (fun hw => by first | rfl | cases hw), fun hon hv => ?_⟩
    obtain ⟨rfl, rfl, rfl, rfl, hv⟩ := hv
    obtain ⟨rfl, rfl, hv1, ⟨⟨l0, rfl, hl0⟩, ⟨l1, rfl, hl1⟩, ⟨l2, rfl, hl2⟩, ⟨l3, rfl, hl3⟩, ⟨l4, rfl, hl4⟩, ⟨l5, rfl, hl5⟩, ⟨l6, rfl, hl6⟩, ⟨l7, rfl, hl7⟩, ⟨l8, rfl, hl8⟩, ⟨l9, rfl, hl9⟩, ⟨l10, rfl, hl10⟩, ⟨l11, rfl, hl11⟩, ⟨l12, rfl, hl12⟩, ⟨l13, rfl, hl13⟩, ⟨l14, rfl, hl14⟩, ⟨l15, rfl, hl15⟩, ⟨l16, rfl, hl16⟩, ⟨l17, rfl, hl17⟩, ⟨l18, rfl, hl18⟩, ⟨l19, rfl, hl19⟩, ⟨l20, rfl, hl20⟩, ⟨l21, rfl, hl21⟩, ⟨l22, rfl, hl22⟩, ⟨l23, rfl, hl23⟩, ⟨l24, rfl, hl24⟩, ⟨l25, rfl, hl25⟩, ⟨l26, rfl, hl26⟩, ⟨l27, rfl, hl27⟩, ⟨l28, rfl, hl28⟩, ⟨l29, rfl, hl29⟩, ⟨l30, rfl, hl30⟩, ⟨l31, rfl, hl31⟩⟩⟩ := hv
    clear hon
    generalize hG : Rx.Ends (R := Empty) _ _ = G
    refine rx_ok (T := []) trivial mixed 200 ?_
    refine as_text (q := let zz2 := Value.int IntKind.i64; let zz1 := (0 : Int); Vc (fits (-1 : Int)) ∧ (true = true → Vc (0 + n2 ≤ n2 ∧ 1 ≤ 1 ∧ (n2 + 1) * 256 ≤ 140737488355328 ∧ n2 + 1 ≤ 140737488355328) ∧ Vc (fits ((↑(n2 + 1) : Int) - (1 : Int))) ∧ Post (G (zz2 ((↑(n2 + 1) : Int) - (1 : Int))) [some (Sum.inl (89, [Value.slice (some (Addr.mk 4 0 (some 32000))) (n2 + 1) 0, Value.slice (some (Addr.mk 2 0 (some 1000))) 0 0, zz2 hd, zz2 ca, zz2 vi])), none, some (Sum.inr (Sum.inl (3, Row.mk [zz2 0] 0 [Col.mk fr [] []]))), some (Sum.inr (Sum.inl (92, Row.mk cellTm 1 [Col.mk [zz1] [] [], Col.mk [] [false] [], Col.mk [zz1] [] [], Col.mk [zz1] [] [], Col.mk [] [false] [], Col.mk [] [false] [], Col.mk [zz1] [] [], Col.mk [zz1] [] [], Col.mk [zz1] [] [], Col.mk [zz1] [] [], Col.mk [zz1] [] [], Col.mk [zz1] [] [], Col.mk [zz1] [] [], Col.mk [zz1] [] [], Col.mk [zz1] [] [], Col.mk [zz1] [] [], Col.mk [zz1] [] [], Col.mk [zz1] [] [], Col.mk [zz1] [] [], Col.mk [zz1] [] [], Col.mk [zz1] [] [], Col.mk [zz1] [] [], Col.mk [zz1] [] [], Col.mk [] [false] [], Col.mk [zz1] [] [], Col.mk [zz1] [] [], Col.mk [] [false] [], Col.mk [zz1] [] [], Col.mk [zz1] [] [], Col.mk [zz1] [] [], Col.mk [zz1] [] [], Col.mk [] [false] []]))), some (Sum.inr (Sum.inl (92, Row.mk cellTm (n2 + 1) (cV (cut l0 0 n2 ++ [zz1]) (cut l1 0 n2 ++ [false]) (cut l2 0 n2 ++ [zz1]) (cut l3 0 n2 ++ [zz1]) (cut l4 0 n2 ++ [false]) (cut l5 0 n2 ++ [false]) (cut l6 0 n2 ++ [zz1]) (cut l7 0 n2 ++ [zz1]) (cut l8 0 n2 ++ [zz1]) (cut l9 0 n2 ++ [zz1]) (cut l10 0 n2 ++ [zz1]) (cut l11 0 n2 ++ [zz1]) (cut l12 0 n2 ++ [zz1]) (cut l13 0 n2 ++ [zz1]) (cut l14 0 n2 ++ [zz1]) (cut l15 0 n2 ++ [zz1]) (cut l16 0 n2 ++ [zz1]) (cut l17 0 n2 ++ [zz1]) (cut l18 0 n2 ++ [zz1]) (cut l19 0 n2 ++ [zz1]) (cut l20 0 n2 ++ [zz1]) (cut l21 0 n2 ++ [zz1]) (cut l22 0 n2 ++ [zz1]) (cut l23 0 n2 ++ [false]) (cut l24 0 n2 ++ [zz1]) (cut l25 0 n2 ++ [zz1]) (cut l26 0 n2 ++ [false]) (cut l27 0 n2 ++ [zz1]) (cut l28 0 n2 ++ [zz1]) (cut l29 0 n2 ++ [zz1]) (cut l30 0 n2 ++ [zz1]) (cut l31 0 n2 ++ [false])))))])) ∧ (true = false → Vc (zz1 ≤ (-1 : Int) ∧ (-1 : Int) < zz1 ∧ 0 ≤ 0) ∧ Vc (0 < 0) ∧ Vc (zz1 ≤ (-1 : Int) ∧ (-1 : Int) ≤ zz1 ∧ 0 ≤ 0) ∧ Post (G (zz2 (List.getD fr 0 zz1)) [some (Sum.inl (89, [Value.slice (some (Addr.mk 1 0 (some 32000))) n2 0, Value.slice (some (Addr.mk 2 0 (some 1000))) 0 0, zz2 hd, zz2 ca, zz2 vi])), some (Sum.inr (Sum.inl (92, Row.mk cellTm n2 (cV l0 l1 l2 l3 l4 l5 l6 l7 l8 l9 l10 l11 l12 l13 l14 l15 l16 l17 l18 l19 l20 l21 l22 l23 l24 l25 l26 l27 l28 l29 l30 l31)))), some (Sum.inr (Sum.inl (3, Row.mk [zz2 0] 0 [Col.mk fr [] []])))]))) ?_ (by kernel_rfl)
    intro zz2 zz1; subst zz1 zz2
    subst hG
    refine ⟨fits_m1, fun _ => ⟨nx_cap hv1, nx_fits hv1, ⟨?_⟩⟩, fun h => by cases h⟩
    simp only [cut_eq hl0, cut_eq hl1, cut_eq hl2, cut_eq hl3, cut_eq hl4, cut_eq hl5, cut_eq hl6, cut_eq hl7, cut_eq hl8, cut_eq hl9, cut_eq hl10, cut_eq hl11, cut_eq hl12, cut_eq hl13, cut_eq hl14, cut_eq hl15, cut_eq hl16, cut_eq hl17, cut_eq hl18, cut_eq hl19, cut_eq hl20, cut_eq hl21, cut_eq hl22, cut_eq hl23, cut_eq hl24, cut_eq hl25, cut_eq hl26, cut_eq hl27, cut_eq hl28, cut_eq hl29, cut_eq hl30, cut_eq hl31, nx_e1]
    exact ⟨[0, 1, 2, 4], rfl, rfl, ⟨.inl rfl, ⟨_, rfl, .inl rfl⟩, ⟨_, rfl, .inl rfl⟩, trivial⟩, rfl, rfl, rfl, (by kernel_rfl)⟩
  · cases hx
theorem nextN_ok : PrimOk NoR Try.prog 43 (way nextC false) (nextC.go false) := by
  refine prim_at (fn := Try.f43) (root := codeOf Try.f43) (by kernel_rfl) (by kernel_rfl) (by kernel_rfl) fun args hh x hx => ?_
  unfold nextC Con.go nextN at hx
  simp only at hx
  split at hx
  · rename_i n cp fn fc hd ca vi tm n2 c0 c1 c2 c3 c4 c5 c6 c7 c8 c9 c10 c11 c12 c13 c14 c15 c16 c17 c18 c19 c20 c21 c22 c23 c24 c25 c26 c27 c28 c29 c30 c31 f2 fr
    injection hx with hx
    subst hx
    refine ⟨by first | exact Nat.le_refl _ | exact Nat.le_succ _, (fun b hb => by cases hb), (fun hw => by first | rfl | cases hw), fun hon hv => ?_⟩
    obtain ⟨h0, rfl, hf, rfl, rfl, hv2, hv⟩ := hv
    obtain ⟨rfl, rfl, hv1, ⟨⟨l0, rfl, hl0⟩, ⟨l1, rfl, hl1⟩, ⟨l2, rfl, hl2⟩, ⟨l3, rfl, hl3⟩, ⟨l4, rfl, hl4⟩, ⟨l5, rfl, hl5⟩, ⟨l6, rfl, hl6⟩, ⟨l7, rfl, hl7⟩, ⟨l8, rfl, hl8⟩, ⟨l9, rfl, hl9⟩, ⟨l10, rfl, hl10⟩, ⟨l11, rfl, hl11⟩, ⟨l12, rfl, hl12⟩, ⟨l13, rfl, hl13⟩, ⟨l14, rfl, hl14⟩, ⟨l15, rfl, hl15⟩, ⟨l16, rfl, hl16⟩, ⟨l17, rfl, hl17⟩, ⟨l18, rfl, hl18⟩, ⟨l19, rfl, hl19⟩, ⟨l20, rfl, hl20⟩, ⟨l21, rfl, hl21⟩, ⟨l22, rfl, hl22⟩, ⟨l23, rfl, hl23⟩, ⟨l24, rfl, hl24⟩, ⟨l25, rfl, hl25⟩, ⟨l26, rfl, hl26⟩, ⟨l27, rfl, hl27⟩, ⟨l28, rfl, hl28⟩, ⟨l29, rfl, hl29⟩, ⟨l30, rfl, hl30⟩, ⟨l31, rfl, hl31⟩⟩⟩ := hv
    clear hon
    generalize hG : Rx.Ends (R := Empty) _ _ = G
    refine rx_ok (T := []) trivial mixed 200 ?_
    refine as_text (q := let zz2 := Value.int IntKind.i64; let zz1 := (0 : Int); Vc (fits ((↑f2 : Int) - (1 : Int))) ∧ (decide ((↑f2 : Int) - (1 : Int) < zz1) = true → Vc (0 + n2 ≤ n2 ∧ 1 ≤ 1 ∧ (n2 + 1) * 256 ≤ 140737488355328 ∧ n2 + 1 ≤ 140737488355328) ∧ Vc (fits ((↑(n2 + 1) : Int) - (1 : Int))) ∧ Post (G (zz2 ((↑(n2 + 1) : Int) - (1 : Int))) [some (Sum.inl (89, [Value.slice (some (Addr.mk 4 0 (some 32000))) (n2 + 1) 0, Value.slice (some (Addr.mk 2 0 (some 1000))) f2 0, zz2 hd, zz2 ca, zz2 vi])), none, some (Sum.inr (Sum.inl (3, Row.mk [zz2 0] f2 [Col.mk fr [] []]))), some (Sum.inr (Sum.inl (92, Row.mk cellTm 1 [Col.mk [zz1] [] [], Col.mk [] [false] [], Col.mk [zz1] [] [], Col.mk [zz1] [] [], Col.mk [] [false] [], Col.mk [] [false] [], Col.mk [zz1] [] [], Col.mk [zz1] [] [], Col.mk [zz1] [] [], Col.mk [zz1] [] [], Col.mk [zz1] [] [], Col.mk [zz1] [] [], Col.mk [zz1] [] [], Col.mk [zz1] [] [], Col.mk [zz1] [] [], Col.mk [zz1] [] [], Col.mk [zz1] [] [], Col.mk [zz1] [] [], Col.mk [zz1] [] [], Col.mk [zz1] [] [], Col.mk [zz1] [] [], Col.mk [zz1] [] [], Col.mk [zz1] [] [], Col.mk [] [false] [], Col.mk [zz1] [] [], Col.mk [zz1] [] [], Col.mk [] [false] [], Col.mk [zz1] [] [], Col.mk [zz1] [] [], Col.mk [zz1] [] [], Col.mk [zz1] [] [], Col.mk [] [false] []]))), some (Sum.inr (Sum.inl (92, Row.mk cellTm (n2 + 1) (cV (cut l0 0 n2 ++ [zz1]) (cut l1 0 n2 ++ [false]) (cut l2 0 n2 ++ [zz1]) (cut l3 0 n2 ++ [zz1]) (cut l4 0 n2 ++ [false]) (cut l5 0 n2 ++ [false]) (cut l6 0 n2 ++ [zz1]) (cut l7 0 n2 ++ [zz1]) (cut l8 0 n2 ++ [zz1]) (cut l9 0 n2 ++ [zz1]) (cut l10 0 n2 ++ [zz1]) (cut l11 0 n2 ++ [zz1]) (cut l12 0 n2 ++ [zz1]) (cut l13 0 n2 ++ [zz1]) (cut l14 0 n2 ++ [zz1]) (cut l15 0 n2 ++ [zz1]) (cut l16 0 n2 ++ [zz1]) (cut l17 0 n2 ++ [zz1]) (cut l18 0 n2 ++ [zz1]) (cut l19 0 n2 ++ [zz1]) (cut l20 0 n2 ++ [zz1]) (cut l21 0 n2 ++ [zz1]) (cut l22 0 n2 ++ [zz1]) (cut l23 0 n2 ++ [false]) (cut l24 0 n2 ++ [zz1]) (cut l25 0 n2 ++ [zz1]) (cut l26 0 n2 ++ [false]) (cut l27 0 n2 ++ [zz1]) (cut l28 0 n2 ++ [zz1]) (cut l29 0 n2 ++ [zz1]) (cut l30 0 n2 ++ [zz1]) (cut l31 0 n2 ++ [false])))))])) ∧ (decide ((↑f2 : Int) - (1 : Int) < zz1) = false → Vc (zz1 ≤ (↑f2 : Int) - (1 : Int) ∧ (↑f2 : Int) - (1 : Int) < (↑f2 : Int) ∧ 0 + f2 ≤ f2) ∧ Vc (0 + Int.toNat ((↑f2 : Int) - (1 : Int)) < f2) ∧ Vc (zz1 ≤ (↑f2 : Int) - (1 : Int) ∧ (↑f2 : Int) - (1 : Int) ≤ (↑f2 : Int) ∧ 0 + f2 ≤ f2) ∧ Post (G (zz2 (List.getD fr (0 + Int.toNat ((↑f2 : Int) - (1 : Int))) zz1)) [some (Sum.inl (89, [Value.slice (some (Addr.mk 1 0 (some 32000))) n2 0, Value.slice (some (Addr.mk 2 0 (some 1000))) (Int.toNat ((↑f2 : Int) - (1 : Int))) 0, zz2 hd, zz2 ca, zz2 vi])), some (Sum.inr (Sum.inl (92, Row.mk cellTm n2 (cV l0 l1 l2 l3 l4 l5 l6 l7 l8 l9 l10 l11 l12 l13 l14 l15 l16 l17 l18 l19 l20 l21 l22 l23 l24 l25 l26 l27 l28 l29 l30 l31)))), some (Sum.inr (Sum.inl (3, Row.mk [zz2 0] f2 [Col.mk fr [] []])))]))) ?_ (by kernel_rfl)
    intro zz2 zz1; subst zz1 zz2
    subst hG
    clear hl0 hl1 hl2 hl3 hl4 hl5 hl6 hl7 hl8 hl9 hl10 hl11 hl12 hl13 hl14 hl15 hl16 hl17 hl18 hl19 hl20 hl21 hl22 hl23 hl24 hl25 hl26 hl27 hl28 hl29 hl30 hl31
    have e1 : ((f2 : Int) - 1).toNat = f2 - 1 := by omega
    simp only [e1, Nat.zero_add]
    refine ⟨⟨by omega, by omega⟩, fun h => absurd (of_decide_eq_true h) (by omega), fun _ => ⟨⟨by omega, by omega, by omega⟩, ⟨by omega⟩, ⟨by omega, by omega, by omega⟩, ⟨?_⟩⟩⟩
    exact ⟨[0, 1, 2], rfl, rfl, ⟨.inl rfl, ⟨_, rfl, .inl rfl⟩, ⟨_, rfl, .inr ⟨rfl, Nat.sub_le _ _, by simp [headCol]⟩⟩, trivial⟩, rfl, rfl, rfl, (by kernel_rfl)⟩
  · cases hx
theorem next_ok : ConOk NoR Try.prog 43 nextC := fun b => by cases b; exact nextN_ok; exact nextY_ok
end Go.Proofs.Ytegekenkfomlbaa.G8
