/- tag: the document's table. -/
import Derived.Test.YtobdpddamdkabaaDoorTgRef2
import Derived.Test.YtobdpddamdkabaaDoorRxQ
namespace Go.Proofs.YtobdpddamdkabaaDoor.Tg
open Go.Proofs.YtobdpddamdkabaaDoor.Rx
set_option linter.unusedVariables false
set_option linter.unusedSimpArgs false
set_option maxRecDepth 100000
def TRm {R : Type} : Tab R := [(16, liftV z0 2 (con1 atP))]
theorem TRm_ok {R : Type} {D : Res R} : TabOk D Tryd.prog TRm := ⟨liftV_ok _ _ at_ok, trivial⟩
def errI (cap : Int) (l : List Ls) (tm : Int) : Int := if (l.length : Int) = cap then 10 else if 0 ≤ plI l (pTm tm) then 11 else 0
theorem err_is {m : Md} (h : MOk m) (tm : Int) : errI m.cap m.l tm = errE m tm := (err_ref h tm).symm
def rmayP {R : Type} : Prim R := fun args hh => match args, hh with
  | [.pointer (some ⟨0, 0, none⟩), .int .i64 tm], [some (.inl (31, [.int .i64 cap, .int .i64 ser, .slice (some ⟨1, 0, some 1000⟩) n1 0, .slice (some ⟨2, 0, some 6000⟩) n2 0])), some (.inr (.inl (3, ⟨[.int .i64 0], n3, [⟨la, [], []⟩]⟩))), some (.inr (.inl (41, r2)))] => some ⟨r2 = rowL (uL r2) ∧ n2 = (uL r2).length ∧ (uL r2).length < 900000, .int .i64 (errI cap (uL r2) tm), none, hh, [], []⟩
  | _, _ => none
theorem rmay_ok {R : Type} {D : Res R} : ConOk D Tryd.prog 51 (con1 rmayP) := by
  refine con1_ok (prim_atM 3 (fn := Tryd.f51) (root := codeOf Tryd.f51) (by kernel_rfl) (by kernel_rfl) (by kernel_rfl) fun args hh x hx => ?_)
  unfold rmayP at hx
  split at hx
  · rename_i tm cap ser n1 n2 n3 la r2
    injection hx with hx
    subst hx
    refine ⟨by first | exact Nat.le_refl _ | exact Nat.zero_le _ | exact Nat.le_succ _ | exact Nat.le_add_left 1 3 | exact Nat.le_add_left 2 2 | exact Nat.le_add_left 1 2 | exact Nat.le_add_left 4 2 | exact Nat.le_add_left 4 1 | exact Nat.le_add_left 5 1, noLit rfl, (fun hw => by first | rfl | cases hw), fun _ hv => ?_⟩
    obtain ⟨hr, rfl, hb⟩ := hv; generalize uL r2 = l at *; subst hr
    generalize hG : Rx.Ends (R := R) _ _ = G
    refine rx_okQ (T := TRm) TRm_ok mixed 200 (q := (((↑(List.length l) : Int) == cap) = true → Post (G (Value.int IntKind.i64 10) [some (Sum.inl (31, [Value.int IntKind.i64 cap, Value.int IntKind.i64 ser, Value.slice (some (Addr.mk 1 0 (some 1000))) n1 0, Value.slice (some (Addr.mk 2 0 (some 6000))) (List.length l) 0])), some (Sum.inr (Sum.inl (3, Row.mk [Value.int IntKind.i64 0] n3 [Col.mk la [] []]))), some (Sum.inr (Sum.inl (41, rowL l)))])) ∧ (((↑(List.length l) : Int) == cap) = false → Vc ((0 + List.length l ≤ List.length l ∧ True) ∧ rLx l 0 (List.length l) = rowL (uL (rLx l 0 (List.length l))) ∧ List.length l = List.length (uL (rLx l 0 (List.length l))) ∧ List.length (uL (rLx l 0 (List.length l))) < 1000000) ∧ (decide (plI (uL (rLx l 0 (List.length l))) (pTm tm) ≥ (0 : Int)) = true → Post (G (Value.int IntKind.i64 11) [some (Sum.inl (31, [Value.int IntKind.i64 cap, Value.int IntKind.i64 ser, Value.slice (some (Addr.mk 1 0 (some 1000))) n1 0, Value.slice (some (Addr.mk 2 0 (some 6000))) (List.length l) 0])), some (Sum.inr (Sum.inl (3, Row.mk [Value.int IntKind.i64 0] n3 [Col.mk la [] []]))), some (Sum.inr (Sum.inl (41, rowL l)))])) ∧ (decide (plI (uL (rLx l 0 (List.length l))) (pTm tm) ≥ (0 : Int)) = false → Post (G (Value.int IntKind.i64 0) [some (Sum.inl (31, [Value.int IntKind.i64 cap, Value.int IntKind.i64 ser, Value.slice (some (Addr.mk 1 0 (some 1000))) n1 0, Value.slice (some (Addr.mk 2 0 (some 6000))) (List.length l) 0])), some (Sum.inr (Sum.inl (3, Row.mk [Value.int IntKind.i64 0] n3 [Col.mk la [] []]))), some (Sum.inr (Sum.inl (41, rowL l)))])))) ?_ (by kernel_rfl)
    subst hG
    simp only [rLx_all, uL_rowL, cmL, euL]
    repeat' (first | apply And.intro | apply Vc.mk | apply fits.mk | intro h | apply Post.mk)
    all_goals (try simp only [decide_eq_true_eq, decide_eq_false_iff_not, Nat.zero_add, ge_iff_le, Int.not_le, Int.not_lt, Int.toNat_natCast, beq_iff_eq, beq_eq_false_iff_ne, bne_iff_ne, bne_eq_false_iff_eq, Bool.not_eq_true', Bool.not_eq_false'] at *)
    all_goals first | contradiction | omega | (apply congrArg Value.bool; assumption) | exact congrArg Value.bool (decide_eq_true (by assumption)) | exact congrArg Value.bool (decide_eq_false (Int.not_lt.mpr (by assumption))) | exact ⟨rfl, by omega⟩ | exact rfl | (simp [*, -List.getD_eq_getElem?_getD]; done) | skip
    all_goals first | omega | exact rfl | skip
    · unfold errI; rw [if_pos (by assumption)]; exact ⟨[0, 1, 2], rfl, rfl, ⟨.inl rfl, ⟨_, rfl, .inl rfl⟩, ⟨_, rfl, .inl rfl⟩, trivial⟩, rfl, rfl, rfl, rfl⟩
    · unfold errI; rw [if_neg (by assumption), if_pos (by assumption)]; exact ⟨[0, 1, 2], rfl, rfl, ⟨.inl rfl, ⟨_, rfl, .inl rfl⟩, ⟨_, rfl, .inl rfl⟩, trivial⟩, rfl, rfl, rfl, rfl⟩
    · unfold errI; rw [if_neg (by assumption), if_neg (by omega)]; exact ⟨[0, 1, 2], rfl, rfl, ⟨.inl rfl, ⟨_, rfl, .inl rfl⟩, ⟨_, rfl, .inl rfl⟩, trivial⟩, rfl, rfl, rfl, rfl⟩
  · cases hx
end Go.Proofs.YtobdpddamdkabaaDoor.Tg
