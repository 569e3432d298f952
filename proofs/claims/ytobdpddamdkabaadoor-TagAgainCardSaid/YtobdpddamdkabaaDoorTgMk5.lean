/- tag: Make, as a call that makes a thing. -/
import Derived.Test.YtobdpddamdkabaaDoorTgMk4
import Derived.Test.YtobdpddamdkabaaDoorRxQ
namespace Go.Proofs.YtobdpddamdkabaaDoor.Tg
open Go.Proofs.YtobdpddamdkabaaDoor.Rx
set_option linter.unusedVariables false
set_option linter.unusedSimpArgs false
set_option maxRecDepth 100000
theorem make_run {G : Value → Hp MF → Prop} {m : Md} (hl : m.la.length ≤ 64) (hb : m.l.length < 1000000) (hf : ∀ y ∈ m.l, LsOk y) {c c2 : Nat}
    (gN : rightB m = false → ∀ X, G (.tuple #[.pointer none, .int .i64 2]) (vLa m.la :: vL m.l :: X))
    (gY : rightB m = true → ∀ h : BaseOk m, G (.tuple #[.pointer (some ⟨3, 0, none⟩), .int .i64 0]) (mkH m (upT m h m.l.length).ts)) :
    At D0 Tryd.prog (codeOf Tryd.f23) 2 (retK Tryd.prog Tryd.f23.results.toList G) [.inl []] ⟨someL [.int .i64 m.cap, .int .i64 m.ser, .slice (some ⟨0, 0, some 1000⟩) m.la.length c, .slice (some ⟨1, 0, some 6000⟩) m.l.length c2] ++ List.replicate (Tryd.f23.ntmps - 4) none, [], [vLa m.la, vL m.l]⟩ := by
  refine rxK_okQ (T := TMk0) [([1, 1, 0], [0, 1, 2, 3])] TMk0_ok mixed 200 (q := (decide (Md.cap m < (0 : Int)) = false → (decide (Md.cap m > (65536 : Int)) = false → (decide (Md.ser m < (0 : Int)) = false → Vc (List.length (Md.la m) = List.length (Md.la m) ∧ List.length (Md.la m) = List.length (Md.la m) ∧ List.length (Md.la m) < 1000000) ∧ ((!lasB (Md.la m)) = false → Vc (rowL (Md.l m) = rowL (uL (rowL (Md.l m))) ∧ List.length (Md.l m) = List.length (uL (rowL (Md.l m))) ∧ List.length (uL (rowL (Md.l m))) < 1000000) ∧ ((!srtB (uL (rowL (Md.l m)))) = true → Post (G (Value.tuple (Array.mk [Value.pointer none, Value.int IntKind.i64 2])) [some (Sum.inr (Sum.inr (Sum.inl (Row.mk [Value.int IntKind.i64 0] (List.length (Md.la m)) [Col.mk (Md.la m) [] []])))), some (Sum.inr (Sum.inr (Sum.inl (rowL (Md.l m)))))])) ∧ ((!srtB (uL (rowL (Md.l m)))) = false → At D0 Tryd.prog (codeOf Tryd.f23) 2 (retK Tryd.prog (Array.toList (Func.results Tryd.f23)) G) [Sum.inl [1, 1, 0], Sum.inl [1, 1, 1]] (SS.mk [some (Value.int IntKind.i64 (Md.cap m)), some (Value.int IntKind.i64 (Md.ser m)), some (Value.slice (some (Addr.mk 0 0 (some 1000))) (List.length (Md.la m)) c), some (Value.slice (some (Addr.mk 1 0 (some 6000))) (List.length (Md.l m)) c2), none, none, none, none, none, none, none, none, none, none, none, none, none, none, none, none, none, none, none, none, none, none, none, none, none, none, none, none, none, none, none, none, none, none, none, none, none, none, none, none, none, none, none, none, none, none, none, none, none, none, none, none, none, none, none, none, none, none, none, none, none, none, none, none, none] [] [some (Sum.inr (Sum.inr (Sum.inl (Row.mk [Value.int IntKind.i64 0] (List.length (Md.la m)) [Col.mk (Md.la m) [] []])))), some (Sum.inr (Sum.inr (Sum.inl (rowL (Md.l m)))))]))) ∧ ((!lasB (Md.la m)) = true → Post (G (Value.tuple (Array.mk [Value.pointer none, Value.int IntKind.i64 2])) [some (Sum.inr (Sum.inr (Sum.inl (Row.mk [Value.int IntKind.i64 0] (List.length (Md.la m)) [Col.mk (Md.la m) [] []])))), some (Sum.inr (Sum.inr (Sum.inl (rowL (Md.l m)))))]))) ∧ (decide (Md.ser m < (0 : Int)) = true → Post (G (Value.tuple (Array.mk [Value.pointer none, Value.int IntKind.i64 2])) [some (Sum.inr (Sum.inr (Sum.inl (Row.mk [Value.int IntKind.i64 0] (List.length (Md.la m)) [Col.mk (Md.la m) [] []])))), some (Sum.inr (Sum.inr (Sum.inl (rowL (Md.l m)))))]))) ∧ (decide (Md.cap m > (65536 : Int)) = true → Post (G (Value.tuple (Array.mk [Value.pointer none, Value.int IntKind.i64 2])) [some (Sum.inr (Sum.inr (Sum.inl (Row.mk [Value.int IntKind.i64 0] (List.length (Md.la m)) [Col.mk (Md.la m) [] []])))), some (Sum.inr (Sum.inr (Sum.inl (rowL (Md.l m)))))]))) ∧ (decide (Md.cap m < (0 : Int)) = true → Post (G (Value.tuple (Array.mk [Value.pointer none, Value.int IntKind.i64 2])) [some (Sum.inr (Sum.inr (Sum.inl (Row.mk [Value.int IntKind.i64 0] (List.length (Md.la m)) [Col.mk (Md.la m) [] []])))), some (Sum.inr (Sum.inr (Sum.inl (rowL (Md.l m)))))]))) ?_ (by kernel_rfl)
  simp only [uL_rowL]
  have hr := right_is m
  have hh : headB m = (capB m && lasB m.la && srtB m.l) := rfl
  have hc : capB m = (decide (0 ≤ m.cap) && decide (m.cap ≤ 65536) && decide (0 ≤ m.ser)) := rfl
  have no : headB m = false → rightB m = false := fun h => by rw [hr, h]; rfl
  repeat' (first | apply And.intro | apply Vc.mk | apply fits.mk | intro h | apply Post.mk)
  all_goals (try simp only [decide_eq_true_eq, decide_eq_false_iff_not, Nat.zero_add, ge_iff_le, Int.not_le, Int.not_lt, Int.toNat_natCast, beq_iff_eq, beq_eq_false_iff_ne, bne_iff_ne, bne_eq_false_iff_eq, Bool.not_eq_true', Bool.not_eq_false'] at *)
  all_goals first | contradiction | omega | (apply congrArg Value.bool; assumption) | exact congrArg Value.bool (decide_eq_true (by assumption)) | exact congrArg Value.bool (decide_eq_false (Int.not_lt.mpr (by assumption))) | exact ⟨rfl, by omega⟩ | exact rfl | (simp [*, -List.getD_eq_getElem?_getD]; done) | skip
  all_goals first | omega | exact gN (no (by rw [hh, hc, decide_eq_false (show ¬ 0 ≤ m.cap by omega)]; rfl)) _ | exact gN (no (by rw [hh, hc, decide_eq_false (show ¬ m.cap ≤ 65536 by omega)]; simp)) _ | exact gN (no (by rw [hh, hc, decide_eq_false (show ¬ 0 ≤ m.ser by omega)]; simp)) _ | exact gN (no (by rw [hh, show lasB m.la = false by assumption]; simp)) _ | exact gN (no (by rw [hh, show srtB m.l = false by assumption]; simp)) _ | trace_state
  have h1 : capB m = true := by rw [hc, decide_eq_true (by omega), decide_eq_true (by omega), decide_eq_true (by omega)]; rfl
  have h2 : lasB m.la = true := by assumption
  have h3 : srtB m.l = true := by assumption
  have h : BaseOk m := ⟨h1, h2, hl⟩
  have e : rightB m = refB m := by rw [hr, hh, h1, h2, h3]; rfl
  exact At.fit [0, 1, 2, 3] [.int .i64 m.cap, .int .i64 m.ser, .slice (some ⟨0, 0, some 1000⟩) m.la.length c, .slice (some ⟨1, 0, some 6000⟩) m.l.length c2] [vLa m.la, vL m.l] 69 ⟨rfl, rfl, Nat.le_of_ble_eq_true rfl⟩ ⟨[0, 1], rfl, ⟨rfl, rfl, trivial⟩, rfl, rfl, rfl, rfl⟩ (make_in h hb h3 hf (fun q X => gN (e.trans q) X) fun q => gY (e.trans q) h)
theorem mkT_is {m : Md} (h : BaseOk m) : mkT m = upT m h m.l.length := dif_pos h
theorem base_of {m : Md} (h : rightB m = true) (hl : m.la.length ≤ 64) : BaseOk m ∧ srtB m.l = true ∧ refB m = true := by
  rw [right_is] at h
  unfold headB at h
  simp only [Bool.and_eq_true] at h
  exact ⟨⟨h.1.1.1, h.1.1.2, hl⟩, h.1.2, h.2⟩
theorem mkT_m {m : Md} (h : rightB m = true) (hl : m.la.length ≤ 64) (hf : ∀ y ∈ m.l, LsOk y) : (mkT m).m = m := by
  obtain ⟨h1, h2, h3⟩ := base_of h hl
  have hr : ∀ i, i < m.l.length → revE (upM m i) (m.l.getD i ls0) = 0 := fun i hi => by simpa using allI_iff.1 h3 i hi
  rw [mkT_is h1, upT_m m h1 h2 (fun y hy => (hf y hy).tm) m.l.length (Nat.le_refl _) hr]
  unfold upM
  rw [List.take_length]
def makeW : List Value → Hp Rs → Option Bool := fun args hh => match args, hh with
  | [.int .i64 cap, .int .i64 ser, .slice (some ⟨0, 0, some 1000⟩) n c, .slice (some ⟨1, 0, some 6000⟩) n2 c2], [some (.inr (.inr (.inl ⟨[.int .i64 0], n', [⟨la, [], []⟩]⟩))), some (.inr (.inr (.inl r)))] => some (rightB ⟨cap, ser, la, uL r⟩)
  | _, _ => none
def makeY : Prim Rs := fun args hh => match args, hh with
  | [.int .i64 cap, .int .i64 ser, .slice (some ⟨0, 0, some 1000⟩) n c, .slice (some ⟨1, 0, some 6000⟩) n2 c2], [some (.inr (.inr (.inl ⟨[.int .i64 0], n', [⟨la, [], []⟩]⟩))), some (.inr (.inr (.inl r)))] => some ⟨(n = la.length ∧ n' = la.length ∧ la.length ≤ 64) ∧ (r = rowL (uL r) ∧ n2 = (uL r).length ∧ (uL r).length < 1000000) ∧ ∀ y ∈ uL r, LsOk y, .tuple #[.pointer (some ⟨2, 0, none⟩), .int .i64 0], none, [some (.inr (.inr (.inl ⟨[.int .i64 0], n', [⟨la, [], []⟩]⟩))), some (.inr (.inr (.inl r))), some (.inr (.inr (.inr (.tab (mkT ⟨cap, ser, la, uL r⟩)))))], [], [(0, 0)]⟩
  | _, _ => none
def makeN : Prim Rs := fun args hh => match args, hh with
  | [.int .i64 cap, .int .i64 ser, .slice (some ⟨0, 0, some 1000⟩) n c, .slice (some ⟨1, 0, some 6000⟩) n2 c2], [some (.inr (.inr (.inl ⟨[.int .i64 0], n', [⟨la, [], []⟩]⟩))), some (.inr (.inr (.inl r)))] => some ⟨(n = la.length ∧ n' = la.length ∧ la.length ≤ 64) ∧ (r = rowL (uL r) ∧ n2 = (uL r).length ∧ (uL r).length < 1000000) ∧ ∀ y ∈ uL r, LsOk y, .tuple #[.pointer none, .int .i64 2], none, hh, [], []⟩
  | _, _ => none
def makeC : Con Rs := ⟨makeW, makeY, makeN⟩
theorem make_ok : ConOk D Tryd.prog 23 makeC := by
  intro b
  refine res_prim (L := L) (D0 := D0) (fn := Tryd.f23) (root := codeOf Tryd.f23) (by kernel_rfl) (by kernel_rfl) (by kernel_rfl) fun args hh x hx => ?_
  cases b with
  | true =>
    unfold makeC Con.go makeY at hx
    simp only at hx
    split at hx
    · rename_i cap ser n c n2 c2 n' la r
      injection hx with hx
      subst hx
      refine ⟨Nat.le_succ _, noLit rfl, (fun hw => by cases hw), fun hon hv => ?_⟩
      have hw : rightB ⟨cap, ser, la, uL r⟩ = true := by
        simp only [way, makeC, makeW] at hon
        simpa using hon
      clear hon
      obtain ⟨⟨rfl, rfl, hl⟩, ⟨hr, rfl, hb⟩, hf⟩ := hv
      generalize uL r = l at *
      subst hr
      exact make_run (m := ⟨cap, ser, la, l⟩) hl hb hf (fun q => by rw [hw] at q; cases q) (fun _ h => by
        rw [mkT_is h]
        generalize upT _ _ _ = t'
        exact ⟨⟨[0, 1, 3, 4, 5, 6, 7, 8], rfl, rfl, ⟨rfl, rfl, .inl rfl, ⟨_, rfl, .inl rfl⟩, ⟨_, rfl, .inl rfl⟩, rfl, rfl, rfl, trivial⟩, rfl, rfl, rfl, by trace_state; kernel_rfl, by kernel_rfl⟩⟩)
    · cases hx
  | false =>
    unfold makeC Con.go makeN at hx
    simp only at hx
    split at hx
    · rename_i cap ser n c n2 c2 n' la r
      injection hx with hx
      subst hx
      refine ⟨Nat.le_refl _, noLit rfl, (fun hw => rfl), fun hon hv => ?_⟩
      have hw : rightB ⟨cap, ser, la, uL r⟩ = false := by
        simp only [way, makeC, makeW] at hon
        simpa using hon
      clear hon
      obtain ⟨⟨rfl, rfl, hl⟩, ⟨hr, rfl, hb⟩, hf⟩ := hv
      generalize uL r = l at *
      subst hr
      exact make_run (m := ⟨cap, ser, la, l⟩) hl hb hf (fun _ X => ⟨⟨[0, 1], rfl, rfl, ⟨rfl, rfl, trivial⟩, rfl, rfl, rfl, rfl, rfl⟩⟩) fun q => by rw [hw] at q; cases q
    · cases hx
end Go.Proofs.YtobdpddamdkabaaDoor.Tg
