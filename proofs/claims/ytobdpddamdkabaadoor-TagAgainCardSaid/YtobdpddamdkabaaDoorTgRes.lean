/- tag: a table, as its memory has it. -/
import Derived.Test.YtobdpddamdkabaaDoorTgTz
import Derived.Test.YtobdpddamdkabaaDoorRxQ
namespace Go.Proofs.YtobdpddamdkabaaDoor.Tg
open Go.Proofs.YtobdpddamdkabaaDoor.Rx
set_option linter.unusedVariables false
set_option maxRecDepth 100000
structure TS where
  cap : Int
  ser : Int
  la : List Int
  wo : List Int
  fr : Int
  lv : Mp Ls
  ti : Mp Int
  id : Mp Int
def rowI (l : List Int) : SB MF := .inr (.inl (3, ⟨[.int .i64 0], l.length, [colI l]⟩))
def rowU (l : List Int) : SB MF := .inr (.inl (101, ⟨[.int .u64 0], l.length, [colI l]⟩))
def tbG (cap ser : Int) (n : Nat) (la : List Int) (m : Nat) (wo : List Int) (fr : Int) (lv : Mp Ls) (ti id : Mp Int) : Hp MF := [some (.inl (73, [.int .i64 cap, .int .i64 ser, .slice (some ⟨1, 0, some 1000⟩) n 0, .slice (some ⟨2, 0, some 1000⟩) m 0, .int .i64 fr, .map (some 3), .map (some 4), .map (some 5)])), some (.inr (.inl (3, ⟨[.int .i64 0], n, [colI la]⟩))), some (.inr (.inl (101, ⟨[.int .u64 0], m, [colI wo]⟩))), some (thing (.inr lv)), some (thing (.inl ti)), some (thing (.inl id))]
def tbH (s : TS) : Hp MF := tbG s.cap s.ser s.la.length s.la s.wo.length s.wo s.fr s.lv s.ti s.id
def toTb : Hp MF → Option TS
  | [some (.inl (_, [.int _ cp, .int _ se, .slice _ _ _, .slice _ _ _, .int _ fr, .map _, .map _, .map _])), some (.inr (.inl (_, ⟨_, _, [c1]⟩))), some (.inr (.inl (_, ⟨_, _, [c2]⟩))), some (.inr (.inr (.inr (.inr lv)))), some (.inr (.inr (.inr (.inl ti)))), some (.inr (.inr (.inr (.inl id))))] => some ⟨cp, se, c1.i, c2.i, fr, lv, ti, id⟩
  | _ => none
theorem toTb_len {hh : Hp MF} {m : TS} (h : toTb hh = some m) : hh.length = 6 := by
  unfold toTb at h
  split at h
  · rfl
  · cases h
def T0 : Tab MF := [(1000000001, mpC)]
theorem T0_ok : TabOk D0 Tryd.prog T0 := ⟨mpC_ok, trivial⟩
def opL (x : Ls) : List Value := [.int .i64 x.tm, .bool x.ins, .int .i64 x.key, .int .i64 x.id]
def roomE (s : TS) (tm : Int) : Int := if s.cap ≤ (s.lv.n : Int) then 10 else if (s.ti.f tm).isSome = true then 11 else 0
def findB (s : TS) (ix gn : Int) : Bool := match s.lv.f ix with
  | some x => decide (x.gn = gn)
  | none => false
def findX (s : TS) (ix gn : Int) : Ls := if findB s ix gn = true then (s.lv.f ix).getD ls0 else ls0
def haveB (s : TS) (ix gn : Int) : Bool := decide (0 ≤ ix) && decide (ix < s.la.length) && !(s.lv.f ix).isSome && decide (1 ≤ gn) && decide (gn ≤ s.la.getD ix.toNat 0)
def beB (s : TS) (ins : Bool) (key id : Int) : Bool := decide (0 ≤ id) && decide (id < s.ser) && !(s.id.f id).isSome && (ins || decide (key = 0))
def holdS (s : TS) (x : Ls) : TS := { s with lv := mput s.lv x.ix x, ti := mput s.ti x.tm x.ix, id := mput s.id x.id x.ix }
def lessS (s : TS) (k : Int) : TS := { s with wo := lessW s.wo k.toNat }
def withS (s : TS) (k : Int) : TS := { s with wo := withW s.wo k.toNat, fr := 0 }
def leastS (s : TS) : TS := { s with fr := firstW s.wo s.fr.toNat }
def nextI (s : TS) : Int := if anyW s.wo s.fr.toNat = true then leastW s.wo s.fr.toNat else s.la.length
def nextS (s : TS) : TS := if anyW s.wo s.fr.toNat = true then lessS (leastS s) (leastW s.wo s.fr.toNat) else { leastS s with la := s.la ++ [0] }
/-- words that lie elsewhere -/
def tbW (cap ser : Int) (n : Nat) (la : List Int) (m : Nat) (wo : List Int) (fr : Int) (lv : Mp Ls) (ti id : Mp Int) : Hp MF := [some (.inl (73, [.int .i64 cap, .int .i64 ser, .slice (some ⟨1, 0, some 1000⟩) n 0, .slice (some ⟨6, 0, some 1000⟩) m 0, .int .i64 fr, .map (some 3), .map (some 4), .map (some 5)])), some (.inr (.inl (3, ⟨[.int .i64 0], n, [colI la]⟩))), none, some (thing (.inr lv)), some (thing (.inl ti)), some (thing (.inl id)), some (.inr (.inl (101, ⟨[.int .u64 0], m, [colI wo]⟩)))]
def tbHW (s : TS) : Hp MF := tbW s.cap s.ser s.la.length s.la s.wo.length s.wo s.fr s.lv s.ti s.id
/-- last Gens that lie elsewhere -/
def tbL (cap ser : Int) (n : Nat) (la : List Int) (m : Nat) (wo : List Int) (fr : Int) (lv : Mp Ls) (ti id : Mp Int) : Hp MF := [some (.inl (73, [.int .i64 cap, .int .i64 ser, .slice (some ⟨6, 0, some 1000⟩) n 0, .slice (some ⟨2, 0, some 1000⟩) m 0, .int .i64 fr, .map (some 3), .map (some 4), .map (some 5)])), none, some (.inr (.inl (101, ⟨[.int .u64 0], m, [colI wo]⟩))), some (thing (.inr lv)), some (thing (.inl ti)), some (thing (.inl id)), some (.inr (.inl (3, ⟨[.int .i64 0], n, [colI la]⟩)))]
def tbHL (s : TS) : Hp MF := tbL s.cap s.ser s.la.length s.la s.wo.length s.wo s.fr s.lv s.ti s.id
def T1 : Tab MF := [(62, con1 tzP)]
theorem T1_ok : TabOk D0 Tryd.prog T1 := ⟨⟨tz_ok, fun b args h x hx i hi hk => by
  cases b with
  | true =>
    have hx' : tzP args h = some x := hx
    unfold tzP at hx'
    split at hx'
    · injection hx' with hx'
      subst hx'
      rfl
    · cases hx'
  | false => cases hx⟩, trivial⟩
end Go.Proofs.YtobdpddamdkabaaDoor.Tg
