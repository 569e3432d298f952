/- tag: the list of a table. -/
import Derived.Test.YtobdpddamdkabaaDoorTgRead
import Derived.Test.YtobdpddamdkabaaDoorTgSrt
import Derived.Test.YtobdpddamdkabaaDoorRxQ
namespace Go.Proofs.YtobdpddamdkabaaDoor.Tg
open Go.Proofs.YtobdpddamdkabaaDoor.Rx
set_option linter.unusedVariables false
set_option linter.unusedSimpArgs false
set_option maxRecDepth 100000
def toMp : Hp MF → Option (Mp Ls)
  | [some (.inr (.inr (.inr (.inr m))))] => some m
  | _ => none
def mpHp (m : Mp Ls) : Hp MF := [some (.inr (.inr (.inr (.inr m))))]
theorem toMp_len {hh : Hp MF} {m : Mp Ls} (h : toMp hh = some m) : hh.length = 1 := by
  unfold toMp at h
  split at h
  · rfl
  · cases h
def valuesP : Prim MF := fun args hh => match args, toMp hh with
  | [.map (some 0)], some m => some ⟨hh = mpHp m ∧ True, .func (.func 61) ⟨[]⟩ ⟨[.pointer (some ⟨1, 0, none⟩)]⟩, none, [some (.inr (.inr (.inr (.inr m)))), some (.inl (67, [.map (some 0)]))], [], [(0, 0)]⟩
  | _, _ => none
theorem values_ok : ConOk D0 Tryd.prog 50 (con1 valuesP) := by
  refine con1_ok (prim_atM 2 (fn := Tryd.f50) (root := codeOf Tryd.f50) (by kernel_rfl) (by kernel_rfl) (by kernel_rfl) fun args hh x hx => ?_)
  unfold valuesP at hx
  split at hx
  · rename_i m hm
    injection hx with hx
    subst hx
    refine ⟨by rw [toMp_len hm]; first | exact Nat.le_refl _ | exact Nat.le_succ _, (fun b hb => by cases hb), (fun hw => by first | rfl | cases hw), fun _ hv => ?_⟩
    obtain ⟨rfl, hv⟩ := hv
    generalize hG : Rx.Ends (R := MF) _ _ = G
    refine rx_okQ (T := []) trivial mixed 200 (q := Vc True ∧ Post (G (Value.func (Fn.func 61) (Array.mk []) (Array.mk [Value.pointer (some (Addr.mk 1 0 none))])) [some (Sum.inr (Sum.inr (Sum.inr (Sum.inr m)))), some (Sum.inl (67, [Value.map (some 0)]))])) ?_ (by kernel_rfl)
    subst hG
    repeat' (first | apply And.intro | apply Vc.mk | apply fits.mk | intro h | apply Post.mk)
    all_goals (try simp only [decide_eq_true_eq, decide_eq_false_iff_not, Nat.zero_add, ge_iff_le, Int.not_le, Int.not_lt, Int.toNat_natCast, beq_iff_eq, beq_eq_false_iff_ne, bne_iff_ne, bne_eq_false_iff_eq, Bool.not_eq_true', Bool.not_eq_false'] at *)
    all_goals first | contradiction | omega | (apply congrArg Value.bool; assumption) | exact congrArg Value.bool (decide_eq_true (by assumption)) | exact congrArg Value.bool (decide_eq_false (Int.not_lt.mpr (by assumption))) | exact ⟨rfl, by omega⟩ | exact rfl | (simp [*, -List.getD_eq_getElem?_getD]; done) | skip
    all_goals exact ⟨[0, 1], rfl, rfl, ⟨rfl, .inl rfl, trivial⟩, rfl, rfl, rfl, rfl⟩
  · cases hx
theorem lists_ok (t : TT) : Lists t.ts.lv t.m.l where
  mem x := by
    constructor
    · exact fun hx => byKey_some (key := (·.ix)) (val := fun x => x) t.ok.ix hx
    · intro h
      obtain ⟨y, hy, _, e2⟩ := byKey_get h
      exact e2 ▸ hy
  srt := t.ok.srt
  ix k x h := by
    obtain ⟨y, hy, e1, e2⟩ := byKey_get h
    exact e2 ▸ e1
  n := Nat.le_trans (t_n t).1 (by decide)
  len := Nat.le_trans (t_n t).1 (by decide)
def TLst (L : List Ls) : Tab MF := [(50, liftC zN 2 (con1 valuesP)), (49, liftC zN 2 (con1 (sortedP L)))]
theorem TLst_ok (L : List Ls) : TabOk D0 Tryd.prog (TLst L) := ⟨liftC_ok _ _ values_ok, liftC_ok _ _ (sorted_ok L), trivial⟩
def tlistP : Prim Rs := fun args hh => match args, hh with
  | [.pointer (some ⟨0, 0, none⟩)], [some (.inr (.inr (.inr (.tab t))))] => some ⟨True, .slice (some ⟨1, 0, some 6000⟩) t.m.l.length 0, none, [some (.inr (.inr (.inr (.tab t)))), some (.inr (.inl (41, rowL t.m.l)))], [], [(0, 0)]⟩
  | _, _ => none
theorem tlist_ok : ConOk D Tryd.prog 27 (con1 tlistP) := by
  refine con1_ok (res_prim (L := L) (D0 := D0) (fn := Tryd.f27) (root := codeOf Tryd.f27) (by kernel_rfl) (by kernel_rfl) (by kernel_rfl) fun args hh x hx => ?_)
  unfold tlistP at hx
  split at hx
  · rename_i t
    injection hx with hx
    subst hx
    refine ⟨by first | exact Nat.le_refl _ | exact Nat.zero_le _ | exact Nat.le_succ _, noLit rfl, (fun hw => by first | rfl | cases hw), fun _ hv => ?_⟩
    have hl := lists_ok t
    generalize hG : EndsU (R := Rs) (R0 := MF) _ _ _ = G
    refine rx_okQ (T := TLst t.m.l) (TLst_ok t.m.l) mixed 200 (q := Vc ([some (Sum.inr (Sum.inr (Sum.inr (Sum.inr (TS.lv (TT.ts t))))))] = mpHp (TS.lv (TT.ts t)) ∧ True) ∧ Vc (Lists (TS.lv (TT.ts t)) (Md.l (TT.m t))) ∧ Post (G (Value.slice (some (Addr.mk 8 0 (some 6000))) (List.length (Md.l (TT.m t))) 0) [some (Sum.inl (73, [Value.int IntKind.i64 (TS.cap (TT.ts t)), Value.int IntKind.i64 (TS.ser (TT.ts t)), Value.slice (some (Addr.mk 1 0 (some 1000))) (List.length (TS.la (TT.ts t))) 0, Value.slice (some (Addr.mk 2 0 (some 1000))) (List.length (TS.wo (TT.ts t))) 0, Value.int IntKind.i64 (TS.fr (TT.ts t)), Value.map (some 3), Value.map (some 4), Value.map (some 5)])), some (Sum.inr (Sum.inl (3, Row.mk [Value.int IntKind.i64 0] (List.length (TS.la (TT.ts t))) [Col.mk (TS.la (TT.ts t)) [] []]))), some (Sum.inr (Sum.inl (101, Row.mk [Value.int IntKind.u64 0] (List.length (TS.wo (TT.ts t))) [Col.mk (TS.wo (TT.ts t)) [] []]))), some (Sum.inr (Sum.inr (Sum.inr (Sum.inr (TS.lv (TT.ts t)))))), some (Sum.inr (Sum.inr (Sum.inr (Sum.inl (TS.ti (TT.ts t)))))), some (Sum.inr (Sum.inr (Sum.inr (Sum.inl (TS.id (TT.ts t)))))), some (Sum.inr (Sum.inl (41, Row.mk [Value.int IntKind.i64 0, Value.int IntKind.i64 0, Value.int IntKind.i64 0, Value.bool false, Value.int IntKind.i64 0, Value.int IntKind.i64 0] 0 [Col.mk [] [] [], Col.mk [] [] [], Col.mk [] [] [], Col.mk [] [] [], Col.mk [] [] [], Col.mk [] [] []]))), some (Sum.inl (67, [Value.map (some 3)])), some (Sum.inr (Sum.inl (41, Row.mk [Value.int IntKind.i64 0, Value.int IntKind.i64 0, Value.int IntKind.i64 0, Value.bool false, Value.int IntKind.i64 0, Value.int IntKind.i64 0] (List.length (Md.l (TT.m t))) [Col.mk (List.map (fun x => Ls.ix x) (Md.l (TT.m t))) [] [], Col.mk (List.map (fun x => Ls.gn x) (Md.l (TT.m t))) [] [], Col.mk (List.map (fun x => Ls.tm x) (Md.l (TT.m t))) [] [], Col.mk [] (List.map (fun x => Ls.ins x) (Md.l (TT.m t))) [], Col.mk (List.map (fun x => Ls.key x) (Md.l (TT.m t))) [] [], Col.mk (List.map (fun x => Ls.id x) (Md.l (TT.m t))) [] []])))])) ?_ (by kernel_rfl)
    subst hG
    repeat' (first | apply And.intro | apply Vc.mk | apply fits.mk | intro h | apply Post.mk)
    all_goals (try simp only [decide_eq_true_eq, decide_eq_false_iff_not, Nat.zero_add, ge_iff_le, Int.not_le, Int.not_lt, Int.toNat_natCast, beq_iff_eq, beq_eq_false_iff_ne, bne_iff_ne, bne_eq_false_iff_eq, Bool.not_eq_true', Bool.not_eq_false'] at *)
    all_goals first | contradiction | omega | (apply congrArg Value.bool; assumption) | exact congrArg Value.bool (decide_eq_true (by assumption)) | exact congrArg Value.bool (decide_eq_false (Int.not_lt.mpr (by assumption))) | exact ⟨rfl, by omega⟩ | exact rfl | (simp [*, -List.getD_eq_getElem?_getD]; done) | skip
    exact ⟨⟨[0, 1, 2, 3, 4, 5, 8], rfl, rfl, ⟨.inl rfl, ⟨_, rfl, .inl rfl⟩, ⟨_, rfl, .inl rfl⟩, rfl, rfl, rfl, ⟨_, rfl, .inl rfl⟩, trivial⟩, rfl, rfl, rfl, rfl, rfl⟩⟩
  · cases hx
end Go.Proofs.YtobdpddamdkabaaDoor.Tg
