/- tag: tables as things; what each call leaves of them. -/
import Derived.Test.YtobdpddamdkabaaDoorTgOp2
import Derived.Test.YtobdpddamdkabaaDoorTgRow
import Derived.Test.YtobdpddamdkabaaDoorTgRaw3
namespace Go.Proofs.YtobdpddamdkabaaDoor.Tg
open Go.Proofs.YtobdpddamdkabaaDoor.Rx
set_option linter.unusedVariables false
instance (k : Int) : Decidable (fits k) := decidable_of_iff (-9223372036854775808 ≤ k ∧ k ≤ 9223372036854775807) ⟨fun h => ⟨by have := h.1; omega, by have := h.2; omega⟩, fun h => ⟨by have := h.lo; omega, by have := h.hi; omega⟩⟩
def TT.ts (t : TT) : TS := tsOf t.m t.wo t.fr
/-- the error of one more -/
def errE (m : Md) (tm : Int) : Int := if m.cap ≤ (m.l.length : Int) then 10 else if tmB m.l tm = true then 11 else 0
theorem tm_has (l : List Ls) (tm : Int) : ((byKey (·.tm) (·.ix) l).f tm).isSome = tmB l tm := byKey_isSome
theorem ix_has (l : List Ls) (k : Int) : ((byKey (·.ix) (fun x => x) l).f k).isSome = slotB l k := byKey_isSome
theorem id_has (l : List Ls) (k : Int) : ((byKey (·.id) (·.ix) l).f k).isSome = idB l k := byKey_isSome
theorem room_is (t : TT) (tm : Int) : roomE t.ts tm = errE t.m tm := by
  show (if t.m.cap ≤ ((t.m.l.length : Nat) : Int) then (10 : Int) else if ((byKey (·.tm) (·.ix) t.m.l).f tm).isSome = true then 11 else 0) = _
  rw [tm_has]; rfl
theorem errE_cases (m : Md) (tm : Int) : errE m tm = 10 ∨ errE m tm = 11 ∨ errE m tm = 0 := by unfold errE; split; exact .inl rfl; split; exact .inr (.inl rfl); exact .inr (.inr rfl)
theorem errE_0 {m : Md} {tm : Int} : errE m tm = 0 ↔ (m.l.length : Int) < m.cap ∧ tmB m.l tm = false := by
  unfold errE
  by_cases h : m.cap ≤ (m.l.length : Int)
  · rw [if_pos h]; omega
  · rw [if_neg h]
    cases tmB m.l tm
    · simp; omega
    · simp
theorem next_I {m : Md} {wo : List Int} {fr : Int} (h : WOk m wo fr) : nextI (tsOf m wo fr) = (slotN m : Nat) := by
  obtain ⟨h1, h2⟩ := next_is h
  show (if anyW wo fr.toNat = true then leastW wo fr.toNat else ((m.la.length : Nat) : Int)) = _
  cases ha : anyW wo fr.toNat
  · rw [if_neg (by simp), h2 ha]
  · rw [if_pos rfl, (h1 ha).1]
theorem next_S {m : Md} {wo : List Int} {fr : Int} (h : WOk m wo fr) : nextS (tsOf m wo fr) = ⟨m.cap, m.ser, laG m, newW m wo fr, (firstW wo fr.toNat : Nat), byKey (·.ix) (fun x => x) m.l, byKey (·.tm) (·.ix) m.l, byKey (·.id) (·.ix) m.l⟩ := by
  obtain ⟨h1, h2⟩ := next_is h
  unfold nextS
  show (if anyW wo fr.toNat = true then _ else _) = _
  cases ha : anyW wo fr.toNat
  · rw [if_neg (by simp)]
    have e1 : laG m = m.la ++ [0] := by unfold laG; rw [if_neg (by have := h2 ha; omega)]
    have e2 : newW m wo fr = wo := by unfold newW; rw [if_neg (by rw [ha]; simp)]
    rw [e1, e2]; rfl
  · rw [if_pos rfl]
    obtain ⟨q1, q2, _⟩ := h1 ha
    have e1 : laG m = m.la := by unfold laG; rw [if_pos q2]
    have e2 : newW m wo fr = lessW wo (slotN m) := by unfold newW; rw [if_pos ha]
    rw [e1, e2]
    show lessS (leastS _) (leastW wo fr.toNat) = _
    rw [q1]
    unfold lessS leastS
    simp only [Int.toNat_natCast]; rfl
theorem ts_new {m : Md} (wo : List Int) (fr tm : Int) (ins : Bool) (key : Int) (h : MOk m) (ht : tmB m.l tm = false) :
    tsOf (newM m tm ins key) wo fr = holdS ⟨m.cap, m.ser + 1, laN m, wo, fr, byKey (·.ix) (fun x => x) m.l, byKey (·.tm) (·.ix) m.l, byKey (·.id) (·.ix) m.l⟩ (newX m tm ins key) := by
  obtain ⟨f1, f2⟩ := slot_free h
  have hid : ∀ y ∈ m.l, y.id ≠ (newX m tm ins key).id := fun y hy e => by
    have := (h.each y hy).2.2.2.2.2.1
    have e' : y.id = m.ser := e
    omega
  unfold tsOf holdS newM
  simp only [byKey_add (key := (·.ix)) (val := fun x => x) (x := newX m tm ins key) (slotB_no.1 f1), byKey_add (key := (·.tm)) (val := (·.ix)) (x := newX m tm ins key) (tmB_no.1 ht), byKey_add (key := (·.id)) (val := (·.ix)) hid]
/-- issue: what comes out; what is left -/
def issX (m : Md) (tm : Int) (ins : Bool) (key : Int) : Ls := if errE m tm = 0 then newX m tm ins key else ls0
def issM (m : Md) (tm : Int) (ins : Bool) (key : Int) : Md := if errE m tm = 0 then newM m tm ins key else m
theorem newN_len {m : Md} {tm : Int} {ins : Bool} {key : Int} (h : m.la.length < 64) : (newM m tm ins key).la.length ≤ 64 := by
  show (laN m).length ≤ 64
  rw [laN_len]; have := (laG_len m).2.1; omega
def TT.issue (t : TT) (tm : Int) (ins : Bool) (key : Int) : TT :=
  if h : (errE t.m tm = 0) ∧ fits tm ∧ t.m.la.length < 64 then ⟨newM t.m tm ins key, newW t.m t.wo t.fr, (firstW t.wo t.fr.toNat : Nat), t.ok.new (errE_0.1 h.1).1 (errE_0.1 h.1).2 h.2.1, WOk.new t.ok t.wok h.2.2, newN_len h.2.2⟩ else t
theorem issue_m (t : TT) {tm : Int} (ins : Bool) (key : Int) (h1 : fits tm) (h2 : t.m.la.length < 64) : (t.issue tm ins key).m = issM t.m tm ins key := by
  unfold TT.issue issM
  by_cases h : errE t.m tm = 0
  · rw [dif_pos ⟨h, h1, h2⟩, if_pos h]
  · rw [dif_neg (fun e => h e.1), if_neg h]
theorem issue_ts (t : TT) {tm : Int} (ins : Bool) (key : Int) (h1 : fits tm) (h2 : t.m.la.length < 64) (h : errE t.m tm = 0) :
    (t.issue tm ins key).ts = holdS ⟨t.m.cap, t.m.ser + 1, laN t.m, newW t.m t.wo t.fr, (firstW t.wo t.fr.toNat : Nat), byKey (·.ix) (fun x => x) t.m.l, byKey (·.tm) (·.ix) t.m.l, byKey (·.id) (·.ix) t.m.l⟩ (newX t.m tm ins key) := by
  unfold TT.issue
  rw [dif_pos ⟨h, h1, h2⟩]
  exact ts_new _ _ _ _ _ t.ok (errE_0.1 h).2
theorem issue_no (t : TT) {tm : Int} (ins : Bool) (key : Int) (h : errE t.m tm ≠ 0) : t.issue tm ins key = t := by
  unfold TT.issue
  rw [dif_neg (fun e => h e.1)]
/-- a handle's operation: its place in the list -/
def ofX (m : Md) (ix gn : Int) : Option Ls := m.l.find? (fun x => x.ix == ix && x.gn == gn)
def findM (m : Md) (ix gn : Int) : Bool := (ofX m ix gn).isSome
def atX (m : Md) (ix gn : Int) : Ls := (ofX m ix gn).getD ls0
theorem find_slot {l : List Ls} {ix gn : Int} (hd : l.Pairwise (fun a b => a.ix ≠ b.ix)) :
    l.find? (fun x => x.ix == ix && x.gn == gn) = match l.find? (fun x => x.ix == ix) with
      | some x => if x.gn = gn then some x else none
      | none => none := by
  induction l with
  | nil => rfl
  | cons y r ih =>
    obtain ⟨h1, h2⟩ := List.pairwise_cons.1 hd
    rw [List.find?_cons, List.find?_cons]
    cases hy : (y.ix == ix)
    · simp only [Bool.false_and]
      exact ih h2
    · simp only [Bool.true_and]
      cases hg : (y.gn == gn)
      · have hg' : ¬ y.gn = gn := by simpa using hg
        rw [if_neg hg']
        refine List.find?_eq_none.2 fun z hz => ?_
        have e1 : y.ix = ix := by simpa using hy
        have := h1 z hz
        simp; intro e; exact absurd (e1.trans e.symm) this
      · have hg' : y.gn = gn := by simpa using hg
        rw [if_pos hg']
theorem of_f (t : TT) (ix gn : Int) : ofX t.m ix gn = match t.ts.lv.f ix with
    | some x => if x.gn = gn then some x else none
    | none => none := by
  have e : t.ts.lv.f ix = t.m.l.find? (fun x => x.ix == ix) := by
    show ((t.m.l.find? (fun x => x.ix == ix)).map fun x => x) = _
    simp
  rw [e]
  exact find_slot t.ok.ix
theorem find_is (t : TT) (ix gn : Int) : findB t.ts ix gn = findM t.m ix gn := by
  unfold findB findM
  rw [of_f]
  cases t.ts.lv.f ix with
  | none => rfl
  | some x => by_cases h : x.gn = gn <;> simp [h]
theorem findX_is (t : TT) (ix gn : Int) : findX t.ts ix gn = atX t.m ix gn := by
  unfold findX findB atX
  rw [of_f]
  cases t.ts.lv.f ix with
  | none => rfl
  | some x => by_cases h : x.gn = gn <;> simp [h]
theorem of_get {m : Md} {ix gn : Int} (h : findM m ix gn = true) : atX m ix gn ∈ m.l ∧ (atX m ix gn).ix = ix ∧ (atX m ix gn).gn = gn := by
  unfold findM at h
  unfold atX
  cases ho : ofX m ix gn with
  | none => rw [ho] at h; cases h
  | some x =>
    have h1 := List.mem_of_find?_eq_some ho
    have h2 := List.find?_some ho
    simp at h2
    exact ⟨h1, h2⟩
theorem findIdx_get (l : List Ls) (p : Ls → Bool) : l[l.findIdx p]? = l.find? p := by
  induction l with
  | nil => rfl
  | cons y r ih =>
    rw [List.findIdx_cons, List.find?_cons]
    cases hp : p y
    · exact ih
    · rfl
theorem ofI_get {m : Md} {ix gn : Int} (h : findM m ix gn = true) : m.l[ofI m.l ix gn]? = some (atX m ix gn) := by
  unfold ofI
  rw [findIdx_get]
  unfold findM ofX at h
  unfold atX ofX
  cases ho : m.l.find? (fun x => x.ix == ix && x.gn == gn) with
  | none => rw [ho] at h; cases h
  | some x => rfl
/-- dropping -/
def dropM (m : Md) (ix gn : Int) : Md := if findM m ix gn = true then cutM m (ofI m.l ix gn) else m
def TT.drop (t : TT) (ix gn : Int) : TT :=
  if h : findM t.m ix gn = true then ⟨cutM t.m (ofI t.m.l ix gn), cutW t.m t.wo (atX t.m ix gn).ix, cutF t.m t.fr (atX t.m ix gn).ix, t.ok.cut _, WOk.cut t.ok t.wok t.few (ofI_get h), t.few⟩ else t
theorem drop_m (t : TT) (ix gn : Int) : (t.drop ix gn).m = dropM t.m ix gn := by
  unfold TT.drop dropM
  by_cases h : findM t.m ix gn = true
  · rw [dif_pos h, if_pos h]
  · rw [dif_neg h, if_neg h]
theorem drop_ts (t : TT) {ix gn : Int} (h : findM t.m ix gn = true) : (t.drop ix gn).ts = ⟨t.m.cap, t.m.ser, t.m.la, cutW t.m t.wo ix, cutF t.m t.fr ix, mdel t.ts.lv ix, mdel t.ts.ti (atX t.m ix gn).tm, mdel t.ts.id (atX t.m ix gn).id⟩ := by
  obtain ⟨h1, h2, h3⟩ := of_get h
  unfold TT.drop
  rw [dif_pos h]
  show tsOf (cutM t.m (ofI t.m.l ix gn)) (cutW t.m t.wo (atX t.m ix gn).ix) (cutF t.m t.fr (atX t.m ix gn).ix) = _
  rw [ts_cut t.ok (ofI_get h), h2]; rfl
theorem drop_no (t : TT) {ix gn : Int} (h : findM t.m ix gn = false) : t.drop ix gn = t := by
  unfold TT.drop
  rw [dif_neg (by rw [h]; simp)]
/-- reviving: the error, what is left -/
def haveM (m : Md) (ix gn : Int) : Bool := decide (0 ≤ ix) && decide (ix < m.la.length) && !slotB m.l ix && decide (1 ≤ gn) && decide (gn ≤ m.la.getD ix.toNat 0)
def beM (m : Md) (x : Ls) : Bool := decide (0 ≤ x.id) && decide (x.id < m.ser) && !idB m.l x.id && (x.ins || decide (x.key = 0))
def revE (m : Md) (x : Ls) : Int := if errE m x.tm = 0 then if haveM m x.ix x.gn = true then if beM m x = true then 0 else 2 else 13 else errE m x.tm
theorem have_is (t : TT) (ix gn : Int) : haveB t.ts ix gn = haveM t.m ix gn := by
  show (decide (0 ≤ ix) && decide (ix < (t.m.la.length : Nat)) && !((byKey (·.ix) (fun x => x) t.m.l).f ix).isSome && decide (1 ≤ gn) && decide (gn ≤ t.m.la.getD ix.toNat 0)) = _
  rw [ix_has]; rfl
theorem be_is (t : TT) (x : Ls) : beB t.ts x.ins x.key x.id = beM t.m x := by
  show (decide (0 ≤ x.id) && decide (x.id < t.m.ser) && !((byKey (·.id) (·.ix) t.m.l).f x.id).isSome && (x.ins || decide (x.key = 0))) = _
  rw [id_has]; rfl
theorem rev_fits {m : Md} {x : Ls} (h : revE m x = 0) (hf : fits x.tm) : Fits1 m x := by
  unfold revE at h
  by_cases h1 : errE m x.tm = 0
  · rw [if_pos h1] at h
    by_cases h2 : haveM m x.ix x.gn = true
    · rw [if_pos h2] at h
      by_cases h3 : beM m x = true
      · unfold haveM at h2
        unfold beM at h3
        simp only [Bool.and_eq_true, decide_eq_true_eq, Bool.not_eq_true'] at h2 h3
        exact ⟨(errE_0.1 h1).1, (errE_0.1 h1).2, h2.1.1.1.1, h2.1.1.1.2, h2.1.1.2, h2.1.2, h2.2, h3.1.1.1, h3.1.1.2, h3.1.2, hf⟩
      · rw [if_neg h3] at h; cases h
    · rw [if_neg h2] at h; cases h
  · rw [if_neg h1] at h; exact absurd h h1
def revM (m : Md) (x : Ls) : Md := if revE m x = 0 then addM m x else m
def TT.revive (t : TT) (x : Ls) : TT :=
  if h : revE t.m x = 0 ∧ fits x.tm then ⟨addM t.m x, lessW t.wo x.ix.toNat, t.fr, t.ok.add (rev_fits h.1 h.2), WOk.add t.ok t.wok (rev_fits h.1 h.2), t.few⟩ else t
theorem revive_m (t : TT) {x : Ls} (hf : fits x.tm) : (t.revive x).m = revM t.m x := by
  unfold TT.revive revM
  by_cases h : revE t.m x = 0
  · rw [dif_pos ⟨h, hf⟩, if_pos h]
  · rw [dif_neg (fun e => h e.1), if_neg h]
theorem revive_ts (t : TT) {x : Ls} (h : revE t.m x = 0) (hf : fits x.tm) : (t.revive x).ts = holdS (lessS t.ts x.ix) x := by
  unfold TT.revive
  rw [dif_pos ⟨h, hf⟩]
  show tsOf (addM t.m x) (lessW t.wo x.ix.toNat) t.fr = _
  rw [ts_add (rev_fits h hf)]; rfl
theorem revive_no (t : TT) {x : Ls} (h : revE t.m x ≠ 0) : t.revive x = t := by
  unfold TT.revive
  rw [dif_neg (fun e => h e.1)]
/-- moving: the error, what is left -/
def otherB (m : Md) (ix to : Int) : Bool := m.l.any (fun x => x.tm == to && !(x.ix == ix))
def movE (m : Md) (ix gn to : Int) : Int := if findM m ix gn = true then if otherB m ix to = true then 11 else 0 else 13
theorem other_is (t : TT) (ix to : Int) : otherB t.m ix to = match t.ts.ti.f to with
    | some s => !decide (s = ix)
    | none => false := by
  cases hf : t.ts.ti.f to with
  | none =>
    have := byKey_none.1 hf
    unfold otherB
    rw [List.any_eq_false]
    intro y hy
    have := this y hy
    simp [this]
  | some s =>
    obtain ⟨y, hy, e1, e2⟩ := byKey_get hf
    show _ = !decide (s = ix)
    have hu : ∀ z ∈ t.m.l, z.tm = to → z = y := fun z hz e => by
      have h1 := byKey_some (key := (·.tm)) (val := fun x => x) (pw_tm t.ok) hz
      have h2 := byKey_some (key := (·.tm)) (val := fun x => x) (pw_tm t.ok) hy
      rw [e] at h1
      rw [e1] at h2
      rw [h1] at h2
      injection h2
    rw [← e2, Bool.eq_iff_iff]
    unfold otherB
    rw [List.any_eq_true]
    constructor
    · rintro ⟨z, hz, hp⟩
      simp only [Bool.and_eq_true, beq_iff_eq, Bool.not_eq_true', beq_eq_false_iff_ne] at hp
      rw [hu z hz hp.1] at hp
      simp [hp.2]
    · intro h
      refine ⟨y, hy, ?_⟩
      simp at h
      simp [e1, h]
theorem mov_free {t : TT} {ix gn to : Int} (h : movE t.m ix gn to = 0) : findM t.m ix gn = true ∧ ∀ y ∈ t.m.l.eraseIdx (ofI t.m.l ix gn), y.tm ≠ to := by
  unfold movE at h
  by_cases h1 : findM t.m ix gn = true
  · rw [if_pos h1] at h
    refine ⟨h1, fun y hy e => ?_⟩
    obtain ⟨q1, q2, q3⟩ := of_get h1
    by_cases h2 : otherB t.m ix to = true
    · rw [if_pos h2] at h; cases h
    · unfold otherB at h2
      rw [Bool.not_eq_true, List.any_eq_false] at h2
      have h3 := h2 y (mem_erase hy)
      have h4 : y.ix = ix := by simpa [e] using h3
      exact pw_out (key := (·.ix)) (ofI_get h1) t.ok.ix y hy (h4.trans q2.symm)
  · rw [if_neg h1] at h; cases h
def movM2 (m : Md) (ix gn to : Int) : Md := if movE m ix gn to = 0 then movM m (ofI m.l ix gn) (atX m ix gn) to else m
def TT.move (t : TT) (ix gn to : Int) : TT :=
  if h : movE t.m ix gn to = 0 ∧ fits to then ⟨movM t.m (ofI t.m.l ix gn) (atX t.m ix gn) to, t.wo, t.fr, t.ok.mov (ofI_get (mov_free h.1).1) (mov_free h.1).2 h.2, WOk.mov t.ok t.wok (ofI_get (mov_free h.1).1) to, t.few⟩ else t
theorem move_m (t : TT) {ix gn to : Int} (hf : fits to) : (t.move ix gn to).m = movM2 t.m ix gn to := by
  unfold TT.move movM2
  by_cases h : movE t.m ix gn to = 0
  · rw [dif_pos ⟨h, hf⟩, if_pos h]
  · rw [dif_neg (fun e => h e.1), if_neg h]
theorem move_ts (t : TT) {ix gn to : Int} (h : movE t.m ix gn to = 0) (hf : fits to) : (t.move ix gn to).ts = holdS { t.ts with ti := mdel t.ts.ti (atX t.m ix gn).tm } (atT (atX t.m ix gn) to) := by
  unfold TT.move
  rw [dif_pos ⟨h, hf⟩]
  exact ts_mov t.ok (ofI_get (mov_free h).1) (mov_free h).2
theorem move_no (t : TT) {ix gn to : Int} (h : movE t.m ix gn to ≠ 0) : t.move ix gn to = t := by
  unfold TT.move
  rw [dif_neg (fun e => h e.1)]
/-- a table without operations -/
def capM (c : Int) : Int := min (max c 0) 65536
def newMd (c : Int) : Md := ⟨capM c, 0, [], []⟩
def newT (c : Int) : TT := ⟨newMd c, [], 0, ⟨by show 0 ≤ min _ _; omega, by show min _ _ ≤ _; omega, Int.le_refl _, by show ((0 : Nat) : Int) ≤ min _ _; omega, .nil, .nil, .nil, (fun x hx => by cases hx), fun g hg => by cases hg⟩,
  ⟨(fun x hx => by cases hx), (fun i => by simp [bitW, newMd]), Int.le_refl _, by omega, (fun j hj => by simp at hj), Nat.zero_le _⟩, Nat.zero_le _⟩
theorem t_fr (t : TT) : 0 ≤ t.ts.fr ∧ t.ts.fr ≤ 1 := ⟨t.wok.fr0, t.wok.fr1⟩
theorem t_wo (t : TT) : okW t.ts.wo ∧ t.ts.wo.length ≤ 1 := ⟨t.wok.ok, t.wok.len⟩
theorem t_la (t : TT) : t.ts.la.length ≤ 64 := t.few
theorem t_n (t : TT) : t.ts.lv.n ≤ 65536 ∧ t.ts.ti.n ≤ 65536 ∧ t.ts.id.n ≤ 65536 := by
  have h1 := t.ok.cap1; have h2 := t.ok.len
  have h : t.m.l.length ≤ 65536 := by omega
  exact ⟨h, h, h⟩
theorem t_least (t : TT) : 0 ≤ leastW t.ts.wo t.ts.fr.toNat ∧ leastW t.ts.wo t.ts.fr.toNat < 1000000 := by
  obtain ⟨h1, h2⟩ := next_is t.wok
  have hf := t.few
  show 0 ≤ leastW t.wo t.fr.toNat ∧ leastW t.wo t.fr.toNat < 1000000
  cases ha : anyW t.wo t.fr.toNat
  · have : leastW t.wo t.fr.toNat = 0 := by
      unfold anyW at ha
      unfold leastW
      rw [if_neg (by simpa using ha)]
    omega
  · have := h1 ha; omega
theorem t_next (t : TT) : nextI t.ts = (slotN t.m : Nat) ∧ nextS t.ts = ⟨t.m.cap, t.m.ser, laG t.m, newW t.m t.wo t.fr, (firstW t.wo t.fr.toNat : Nat), t.ts.lv, t.ts.ti, t.ts.id⟩ := ⟨next_I t.wok, next_S t.wok⟩
theorem t_slot (t : TT) : slotN t.m < (laG t.m).length ∧ (laG t.m).length ≤ 65 ∧ 0 ≤ (laG t.m).getD (slotN t.m) 0 ∧ (laG t.m).getD (slotN t.m) 0 ≤ 4294967295 := by
  obtain ⟨h1, h2, h3⟩ := laG_len t.m
  have h4 := (slot_free t.ok).2
  have h5 := t.few
  rw [laG_get]
  refine ⟨h3, by omega, ?_, by unfold maxG at h4; omega⟩
  rcases Nat.lt_or_ge (slotN t.m) t.m.la.length with hk | hk
  · exact (t.ok.las _ (Rx.getD_mem hk)).1
  · rw [List.getD_eq_getElem?_getD, List.getElem?_eq_none hk]; exact Int.le_refl _
theorem tb_len {s : TS} {n : Nat} (h : n = s.la.length) : tbG s.cap s.ser n s.la s.wo.length s.wo s.fr s.lv s.ti s.id = tbH s := by subst h; rfl
/-- a table when its next slot's Gen has grown -/
def S0 (t : TT) : TS := ⟨(nextS t.ts).cap, (nextS t.ts).ser + 1, (nextS t.ts).la.set (nextI t.ts).toNat ((nextS t.ts).la.getD (nextI t.ts).toNat 0 + 1), (nextS t.ts).wo, (nextS t.ts).fr, (nextS t.ts).lv, (nextS t.ts).ti, (nextS t.ts).id⟩
theorem iss_end (t : TT) {tm : Int} {ins : Bool} {key k : Int} (h0 : errE t.m tm = 0) (h1 : fits tm) (h2 : t.m.la.length < 64) (hk : k = if ins = true then key else 0) :
    issX t.m tm ins key = ⟨nextI t.ts, (S0 t).la.getD (nextI t.ts).toNat 0, tm, ins, k, (nextS t.ts).ser⟩ ∧ (t.issue tm ins key).ts = holdS (S0 t) ⟨nextI t.ts, (S0 t).la.getD (nextI t.ts).toNat 0, tm, ins, k, (nextS t.ts).ser⟩ := by
  obtain ⟨e1, e2⟩ := t_next t
  subst hk
  have e3 : S0 t = ⟨t.m.cap, t.m.ser + 1, laN t.m, newW t.m t.wo t.fr, (firstW t.wo t.fr.toNat : Nat), t.ts.lv, t.ts.ti, t.ts.id⟩ := by
    unfold S0; rw [e1, e2, Int.toNat_natCast]; rfl
  have e4 : (⟨nextI t.ts, (S0 t).la.getD (nextI t.ts).toNat 0, tm, ins, (if ins = true then key else 0), (nextS t.ts).ser⟩ : Ls) = newX t.m tm ins key := by
    rw [e3, e1, e2, Int.toNat_natCast]; rfl
  rw [e4, e3]
  refine ⟨?_, issue_ts t ins key h1 h2 h0⟩
  unfold issX; rw [if_pos h0]
/-- what a handle's operation is like -/
theorem t_of (t : TT) (ix gn : Int) (hs : fits t.m.ser) : findM t.m ix gn = true → 0 ≤ ix ∧ ix < 64 ∧ ix < t.ts.la.length ∧ ix.toNat < t.ts.la.length ∧ fits (atX t.m ix gn).tm ∧ fits (atX t.m ix gn).id := fun h => by
  obtain ⟨h1, h2, h3⟩ := of_get h
  obtain ⟨e1, e2, e3, e4, e5, e6, e7⟩ := t.ok.each _ h1
  have hf := t.few
  have hs' := hs.hi
  rw [h2] at e1 e2
  have e2' : ix < (t.ts.la.length : Nat) := e2
  exact ⟨e1, by omega, e2', by omega, e7, ⟨by omega, by omega⟩⟩
theorem other_is2 (t : TT) (ix to : Int) : otherB t.m ix to = ((t.ts.ti.f to).isSome && !decide ((t.ts.ti.f to).getD 0 = ix)) := by
  rw [other_is]; cases t.ts.ti.f to <;> rfl
theorem atX_no {m : Md} {ix gn : Int} (h : findM m ix gn = false) : atX m ix gn = ls0 := by
  unfold findM at h
  unfold atX
  cases ho : ofX m ix gn with
  | none => rfl
  | some x => rw [ho] at h; cases h
theorem drop_with (t : TT) {ix gn : Int} (h : findM t.m ix gn = true) (hg : t.ts.la.getD ix.toNat 0 < 4294967295) : (t.drop ix gn).ts = withS ⟨t.ts.cap, t.ts.ser, t.ts.la, t.ts.wo, t.ts.fr, mdel t.ts.lv ix, mdel t.ts.ti (findX t.ts ix gn).tm, mdel t.ts.id (findX t.ts ix gn).id⟩ ix := by
  rw [drop_ts t h, findX_is]
  unfold cutW cutF
  have hg' : t.m.la.getD ix.toNat 0 < maxG := hg
  rw [if_pos hg', if_pos hg']; rfl
theorem drop_same (t : TT) {ix gn : Int} (h : findM t.m ix gn = true) (hg : ¬ t.ts.la.getD ix.toNat 0 < 4294967295) : (t.drop ix gn).ts = ⟨t.ts.cap, t.ts.ser, t.ts.la, t.ts.wo, t.ts.fr, mdel t.ts.lv ix, mdel t.ts.ti (findX t.ts ix gn).tm, mdel t.ts.id (findX t.ts ix gn).id⟩ := by
  rw [drop_ts t h, findX_is]
  unfold cutW cutF
  have hg' : ¬ t.m.la.getD ix.toNat 0 < maxG := hg
  rw [if_neg hg', if_neg hg']; rfl
theorem move_hold (t : TT) {ix gn to : Int} (h : movE t.m ix gn to = 0) (hf : fits to) : (t.move ix gn to).ts = holdS ⟨t.ts.cap, t.ts.ser, t.ts.la, t.ts.wo, t.ts.fr, t.ts.lv, mdel t.ts.ti (findX t.ts ix gn).tm, t.ts.id⟩ ⟨ix, gn, to, (findX t.ts ix gn).ins, (findX t.ts ix gn).key, (findX t.ts ix gn).id⟩ := by
  obtain ⟨h1, h2, h3⟩ := of_get (mov_free h).1
  rw [move_ts t h hf, findX_is]
  unfold atT
  rw [h2, h3]
theorem wrap_len {s : TS} {H : Hp MF} {n : Nat} (h : n = s.la.length) (e : H = tbG s.cap s.ser n s.la s.wo.length s.wo s.fr s.lv s.ti s.id) : H = tbH s := by subst h; exact e
theorem rev_is (t : TT) (a b c : Int) (d : Bool) (e f : Int) : revE t.m ⟨a, b, c, d, e, f⟩ = if roomE t.ts c = 0 then if haveB t.ts a b = true then if beB t.ts d e f = true then 0 else 2 else 13 else roomE t.ts c := by
  rw [room_is, have_is, be_is t ⟨a, b, c, d, e, f⟩]; rfl
theorem mov_is (t : TT) (ix gn to : Int) : movE t.m ix gn to = if findB t.ts ix gn = true then if ((t.ts.ti.f to).isSome && !decide ((t.ts.ti.f to).getD 0 = ix)) = true then 11 else 0 else 13 := by
  rw [find_is, ← other_is2]; rfl
theorem have_ix (t : TT) (a b : Int) : haveB t.ts a b = true → 0 ≤ a ∧ a < 64 := fun h => by
  unfold haveB at h
  simp only [Bool.and_eq_true, decide_eq_true_eq] at h
  have := t_la t
  omega
theorem mdel_n {α : Type} (m : Mp α) (k : Int) : (mdel m k).n ≤ m.n := by
  unfold mdel
  cases m.f k
  · exact Nat.le_refl _
  · exact Nat.sub_le _ _
theorem drop_keep (t : TT) (ix gn : Int) : (t.drop ix gn).m.la = t.m.la ∧ (t.drop ix gn).m.ser = t.m.ser := by
  rw [drop_m]; unfold dropM; split <;> exact ⟨rfl, rfl⟩
theorem revive_keep (t : TT) {x : Ls} (hf : fits x.tm) : (t.revive x).m.la = t.m.la ∧ (t.revive x).m.ser = t.m.ser := by
  rw [revive_m t hf]; unfold revM; split <;> exact ⟨rfl, rfl⟩
theorem move_keep (t : TT) {ix gn to : Int} (hf : fits to) : (t.move ix gn to).m.la = t.m.la ∧ (t.move ix gn to).m.ser = t.m.ser := by
  rw [move_m t hf]; unfold movM2; split <;> exact ⟨rfl, rfl⟩
/-- the things of the laws: a table of the program's, one of the document's -/
inductive Rs
  | tab (t : TT)
  | ref (m : Md)
def layRef (m : Md) : Hp MF := [some (.inl (31, [.int .i64 m.cap, .int .i64 m.ser, .slice (some ⟨1, 0, some 1000⟩) m.la.length 0, .slice (some ⟨2, 0, some 6000⟩) m.l.length 0])), some (.inr (.inl (3, ⟨[.int .i64 0], m.la.length, [colI m.la]⟩))), some (.inr (.inl (41, rowL m.l)))]
def lay : Rs → Hp MF
  | .tab t => tbH t.ts
  | .ref m => layRef m
def noVs : Hp MF → Bool
  | [] => true
  | none :: l => noVs l
  | some B :: l => !isView B && noVs l
theorem noVs_get : ∀ {l : Hp MF} {b : Nat} {X : SB MF}, noVs l = true → l[b]? = some (some X) → isView X = false
  | [], b, X, _, h => by simp at h
  | none :: l, b, X, hn, h => by
    cases b with
    | zero => simp at h
    | succ b =>
      simp only [List.getElem?_cons_succ] at h
      simp only [noVs] at hn
      exact noVs_get hn h
  | some B :: l, b, X, hn, h => by
    simp only [noVs, Bool.and_eq_true, Bool.not_eq_true'] at hn
    cases b with
    | zero => simp only [List.getElem?_cons_zero, Option.some.injEq] at h; subst h; exact hn.1
    | succ b => simp only [List.getElem?_cons_succ] at h; exact noVs_get hn.2 h
def L : Lay Rs MF where
  lay := lay
  ne x := by cases x <;> exact Nat.succ_pos _
  own x b X h := by cases x <;> exact noVs_get rfl h
  ins x := by cases x <;> rfl
def D : Res Rs := resOf D0 L
theorem pulls_tab {k : Nat} {s : Nat → Nat} {hp : Hp MF} {t : TT} {H : Hp MF} (e : tbH t.ts = H) (h : Pulls k s hp 0 (newHp (fun i => i + 0) H ++ [])) : Pulls k s hp 0 (unf L [some (.inr (.inr (.inr (.tab t))))]) := by subst e; exact h
end Go.Proofs.YtobdpddamdkabaaDoor.Tg
