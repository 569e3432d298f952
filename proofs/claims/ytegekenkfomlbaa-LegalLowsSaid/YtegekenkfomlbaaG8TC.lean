/- grove: a tree of marks as a thing: its calls. -/
import Derived.Test.YtegekenkfomlbaaG8T
import Derived.Test.YtegekenkfomlbaaG8Top
import Derived.Test.YtegekenkfomlbaaG8Loops
namespace Go.Proofs.Ytegekenkfomlbaa.G8
open Go.Proofs.Ytegekenkfomlbaa.Rx
set_option linter.unusedVariables false
set_option linter.unusedSimpArgs false
set_option maxRecDepth 100000
set_option maxHeartbeats 8000000
open Gv (KK)
def tnewP : Prim Rt := fun args hh => match args, hh with
  | [.int .i64 c], [] => some ⟨True, .pointer (some ⟨0, 0, none⟩), none, [oT (Gv.TS.new k8 c)], [], [(0, 0)]⟩
  | _, _ => none
theorem tnew_ok : ConOk D2 Try.prog 34 (con1 tnewP) := by
  refine res_up (c := con1 gnewP) gnew_ok fun args hh x hx => ?_
  unfold tnewP at hx
  split at hx
  · rename_i c
    injection hx with hx
    subst hx
    refine ⟨Nat.zero_le _, noLit rfl, (fun hw => by cases hw), fun hv => ⟨⟨_, .inl ⟨rfl, rfl⟩, rfl, ?_, ?_, ?_⟩, rfl, rfl⟩⟩
    · trivial
    · rfl
    · rfl
  · cases hx
def tlenP : Prim Rt := fun args hh => match args, hh with
  | [.pointer (some ⟨0, 0, none⟩)], [some (.inr (.inr (.inr (.tree s))))] => some ⟨s.Few, .int .i64 s.l.length, none, [oT s.seen], [], [(0, 0)]⟩
  | _, _ => none
theorem tlen_ok : ConOk D2 Try.prog 20 (con1 tlenP) := by
  refine res_up (c := con1 lenP) len_ok fun args hh x hx => ?_
  unfold tlenP at hx
  split at hx
  · rename_i s
    injection hx with hx
    subst hx
    refine ⟨Nat.le_refl _, noLit rfl, (fun hw => by cases hw), fun hv => ⟨⟨_, .inl ⟨rfl, rfl⟩, rfl, ?_, ?_, ?_⟩, rfl, rfl⟩⟩
    · exact s.pp hv
    · rfl
    · exact congrArg (Value.int IntKind.i64) s.ok.nn
  · cases hx
def tputP : Prim Rt := fun args hh => match args, hh with
  | [.pointer (some ⟨0, 0, none⟩), .agg ⟨[.int .i64 k0, .bool k1, .int .i64 k2, .int .i64 k3, .bool k4, .bool k5, .int .i64 k6, .int .i64 k7]⟩], [some (.inr (.inr (.inr (.tree s))))] => some ⟨s.PutOk (⟨k0, k1, ⟨k2, k3⟩, k4, k5, ⟨k6, k7⟩⟩ : Wv.Mk), .bool (s.putB (⟨k0, k1, ⟨k2, k3⟩, k4, k5, ⟨k6, k7⟩⟩ : Wv.Mk)), none, [oT (s.put (⟨k0, k1, ⟨k2, k3⟩, k4, k5, ⟨k6, k7⟩⟩ : Wv.Mk))], [], [(0, 0)]⟩
  | _, _ => none
theorem tput_ok : ConOk D2 Try.prog 22 (con1 tputP) := by
  refine res_up (c := con1 (gputP KK)) (gput_ok KK) fun args hh x hx => ?_
  unfold tputP at hx
  split at hx
  · rename_i k0 k1 k2 k3 k4 k5 k6 k7 s
    injection hx with hx
    subst hx
    refine ⟨Nat.le_refl _, noLit rfl, (fun hw => by cases hw), fun hv => ⟨⟨_, .inl ⟨rfl, rfl⟩, rfl, ?_, ?_, ?_⟩, rfl, rfl⟩⟩
    · exact ⟨rfl, s.pp hv.few, (Gv.TS.put_ok hv).1⟩
    · rw [Gv.TS.put_eq hv]; rfl
    · exact congrArg Value.bool (Gv.TS.put_ok hv).2.1
  · cases hx
def tfindP : Prim Rt := fun args hh => match args, hh with
  | [.pointer (some ⟨0, 0, none⟩), .agg ⟨[.int .i64 k0, .bool k1, .int .i64 k2, .int .i64 k3, .bool k4, .bool k5, .int .i64 k6, .int .i64 k7]⟩], [some (.inr (.inr (.inr (.tree s))))] => some ⟨s.Few, .tuple #[.agg ⟨[.int .i64 (Gv.fndE Wv.O8 (⟨k0, k1, ⟨k2, k3⟩, k4, k5, ⟨k6, k7⟩⟩ : Wv.Mk) s.l).1.t, .bool (Gv.fndE Wv.O8 (⟨k0, k1, ⟨k2, k3⟩, k4, k5, ⟨k6, k7⟩⟩ : Wv.Mk) s.l).1.ins, .int .i64 (Gv.fndE Wv.O8 (⟨k0, k1, ⟨k2, k3⟩, k4, k5, ⟨k6, k7⟩⟩ : Wv.Mk) s.l).1.it.k, .int .i64 (Gv.fndE Wv.O8 (⟨k0, k1, ⟨k2, k3⟩, k4, k5, ⟨k6, k7⟩⟩ : Wv.Mk) s.l).1.it.i, .bool (Gv.fndE Wv.O8 (⟨k0, k1, ⟨k2, k3⟩, k4, k5, ⟨k6, k7⟩⟩ : Wv.Mk) s.l).1.here, .bool (Gv.fndE Wv.O8 (⟨k0, k1, ⟨k2, k3⟩, k4, k5, ⟨k6, k7⟩⟩ : Wv.Mk) s.l).1.tf, .int .i64 (Gv.fndE Wv.O8 (⟨k0, k1, ⟨k2, k3⟩, k4, k5, ⟨k6, k7⟩⟩ : Wv.Mk) s.l).1.tk.k, .int .i64 (Gv.fndE Wv.O8 (⟨k0, k1, ⟨k2, k3⟩, k4, k5, ⟨k6, k7⟩⟩ : Wv.Mk) s.l).1.tk.i]⟩, .bool (Gv.fndE Wv.O8 (⟨k0, k1, ⟨k2, k3⟩, k4, k5, ⟨k6, k7⟩⟩ : Wv.Mk) s.l).2], none, [oT (s.find (⟨k0, k1, ⟨k2, k3⟩, k4, k5, ⟨k6, k7⟩⟩ : Wv.Mk))], [], [(0, 0)]⟩
  | _, _ => none
theorem tfind_ok : ConOk D2 Try.prog 32 (con1 tfindP) := by
  refine res_up (c := con1 (gfindP KK)) (gfind_ok KK) fun args hh x hx => ?_
  unfold tfindP at hx
  split at hx
  · rename_i k0 k1 k2 k3 k4 k5 k6 k7 s
    injection hx with hx
    subst hx
    refine ⟨Nat.le_refl _, noLit rfl, (fun hw => by cases hw), fun hv => ⟨⟨_, .inl ⟨rfl, rfl⟩, rfl, ?_, ?_, ?_⟩, rfl, rfl⟩⟩
    · exact ⟨rfl, s.pp hv, (s.ok.find (e := (⟨k0, k1, ⟨k2, k3⟩, k4, k5, ⟨k6, k7⟩⟩ : Wv.Mk)) s.k1).1⟩
    · rfl
    · obtain ⟨_, m', h1, _⟩ := s.ok.find (K := KK) (e := (⟨k0, k1, ⟨k2, k3⟩, k4, k5, ⟨k6, k7⟩⟩ : Wv.Mk)) s.k1
      have h1 : (Gv.find Wv.O8 KK (Gv.see s.m s.r) (Gv.lk Wv.O8 s.m s.r) (⟨k0, k1, ⟨k2, k3⟩, k4, k5, ⟨k6, k7⟩⟩ : Wv.Mk)) = ((Gv.fndE Wv.O8 (⟨k0, k1, ⟨k2, k3⟩, k4, k5, ⟨k6, k7⟩⟩ : Wv.Mk) s.l), m') := h1
      show Value.tuple #[.agg ⟨[.int .i64 (Gv.find Wv.O8 KK (Gv.see s.m s.r) (Gv.lk Wv.O8 s.m s.r) (⟨k0, k1, ⟨k2, k3⟩, k4, k5, ⟨k6, k7⟩⟩ : Wv.Mk)).1.1.t, .bool (Gv.find Wv.O8 KK (Gv.see s.m s.r) (Gv.lk Wv.O8 s.m s.r) (⟨k0, k1, ⟨k2, k3⟩, k4, k5, ⟨k6, k7⟩⟩ : Wv.Mk)).1.1.ins, .int .i64 (Gv.find Wv.O8 KK (Gv.see s.m s.r) (Gv.lk Wv.O8 s.m s.r) (⟨k0, k1, ⟨k2, k3⟩, k4, k5, ⟨k6, k7⟩⟩ : Wv.Mk)).1.1.it.k, .int .i64 (Gv.find Wv.O8 KK (Gv.see s.m s.r) (Gv.lk Wv.O8 s.m s.r) (⟨k0, k1, ⟨k2, k3⟩, k4, k5, ⟨k6, k7⟩⟩ : Wv.Mk)).1.1.it.i, .bool (Gv.find Wv.O8 KK (Gv.see s.m s.r) (Gv.lk Wv.O8 s.m s.r) (⟨k0, k1, ⟨k2, k3⟩, k4, k5, ⟨k6, k7⟩⟩ : Wv.Mk)).1.1.here, .bool (Gv.find Wv.O8 KK (Gv.see s.m s.r) (Gv.lk Wv.O8 s.m s.r) (⟨k0, k1, ⟨k2, k3⟩, k4, k5, ⟨k6, k7⟩⟩ : Wv.Mk)).1.1.tf, .int .i64 (Gv.find Wv.O8 KK (Gv.see s.m s.r) (Gv.lk Wv.O8 s.m s.r) (⟨k0, k1, ⟨k2, k3⟩, k4, k5, ⟨k6, k7⟩⟩ : Wv.Mk)).1.1.tk.k, .int .i64 (Gv.find Wv.O8 KK (Gv.see s.m s.r) (Gv.lk Wv.O8 s.m s.r) (⟨k0, k1, ⟨k2, k3⟩, k4, k5, ⟨k6, k7⟩⟩ : Wv.Mk)).1.1.tk.i]⟩, .bool (Gv.find Wv.O8 KK (Gv.see s.m s.r) (Gv.lk Wv.O8 s.m s.r) (⟨k0, k1, ⟨k2, k3⟩, k4, k5, ⟨k6, k7⟩⟩ : Wv.Mk)).1.2] = _
      rw [h1]
      rfl
  · cases hx
def trankP : Prim Rt := fun args hh => match args, hh with
  | [.pointer (some ⟨0, 0, none⟩), .agg ⟨[.int .i64 k0, .bool k1, .int .i64 k2, .int .i64 k3, .bool k4, .bool k5, .int .i64 k6, .int .i64 k7]⟩], [some (.inr (.inr (.inr (.tree s))))] => some ⟨s.Few, .int .i64 (Gv.loE Wv.O8 (⟨k0, k1, ⟨k2, k3⟩, k4, k5, ⟨k6, k7⟩⟩ : Wv.Mk) s.l).length, none, [oT (s.rank (⟨k0, k1, ⟨k2, k3⟩, k4, k5, ⟨k6, k7⟩⟩ : Wv.Mk))], [], [(0, 0)]⟩
  | _, _ => none
theorem trank_ok : ConOk D2 Try.prog 30 (con1 trankP) := by
  refine res_up (c := con1 (grankP KK)) (grank_ok KK) fun args hh x hx => ?_
  unfold trankP at hx
  split at hx
  · rename_i k0 k1 k2 k3 k4 k5 k6 k7 s
    injection hx with hx
    subst hx
    refine ⟨Nat.le_refl _, noLit rfl, (fun hw => by cases hw), fun hv => ⟨⟨_, .inl ⟨rfl, rfl⟩, rfl, ?_, ?_, ?_⟩, rfl, rfl⟩⟩
    · exact ⟨rfl, s.pp hv, (s.ok.rank (e := (⟨k0, k1, ⟨k2, k3⟩, k4, k5, ⟨k6, k7⟩⟩ : Wv.Mk)) s.k1).1⟩
    · rfl
    · obtain ⟨_, m', h1, _⟩ := s.ok.rank (K := KK) (e := (⟨k0, k1, ⟨k2, k3⟩, k4, k5, ⟨k6, k7⟩⟩ : Wv.Mk)) s.k1
      have h1 : (Gv.rank Wv.O8 KK (Gv.see s.m s.r) (Gv.lk Wv.O8 s.m s.r) (⟨k0, k1, ⟨k2, k3⟩, k4, k5, ⟨k6, k7⟩⟩ : Wv.Mk) 0) = (((Gv.loE Wv.O8 (⟨k0, k1, ⟨k2, k3⟩, k4, k5, ⟨k6, k7⟩⟩ : Wv.Mk) s.l).length : Int), m') := h1
      show Value.int IntKind.i64 (Gv.rank Wv.O8 KK (Gv.see s.m s.r) (Gv.lk Wv.O8 s.m s.r) (⟨k0, k1, ⟨k2, k3⟩, k4, k5, ⟨k6, k7⟩⟩ : Wv.Mk) 0).1 = _
      rw [h1]
      rfl
  · cases hx
def tbetP : Prim Rt := fun args hh => match args, hh with
  | [.pointer (some ⟨0, 0, none⟩), .int .i64 x_, .int .i64 y_], [some (.inr (.inr (.inr (.tree s))))] => some ⟨s.Few, .agg ⟨[.int .i64 (Wv.S8 (Gv.sub s.l x_.toNat y_.toNat)).c.n, .int .i64 (Wv.S8 (Gv.sub s.l x_.toNat y_.toNat)).c.s, .int .i64 (Wv.S8 (Gv.sub s.l x_.toNat y_.toNat)).c.l, .int .i64 (Wv.S8 (Gv.sub s.l x_.toNat y_.toNat)).w.n, .int .i64 (Wv.S8 (Gv.sub s.l x_.toNat y_.toNat)).w.s, .int .i64 (Wv.S8 (Gv.sub s.l x_.toNat y_.toNat)).w.l, .int .i64 (Wv.S8 (Gv.sub s.l x_.toNat y_.toNat)).d, .int .i64 (Wv.S8 (Gv.sub s.l x_.toNat y_.toNat)).f, .int .i64 (Wv.S8 (Gv.sub s.l x_.toNat y_.toNat)).m.k, .int .i64 (Wv.S8 (Gv.sub s.l x_.toNat y_.toNat)).m.i, .bool (Wv.S8 (Gv.sub s.l x_.toNat y_.toNat)).gf, .int .i64 (Wv.S8 (Gv.sub s.l x_.toNat y_.toNat)).g.k, .int .i64 (Wv.S8 (Gv.sub s.l x_.toNat y_.toNat)).g.i, .bool (Wv.S8 (Gv.sub s.l x_.toNat y_.toNat)).lf, .int .i64 (Wv.S8 (Gv.sub s.l x_.toNat y_.toNat)).l.k, .int .i64 (Wv.S8 (Gv.sub s.l x_.toNat y_.toNat)).l.i]⟩, none, [oT (s.bet x_ y_)], [], [(0, 0)]⟩
  | _, _ => none
theorem tbet_ok : ConOk D2 Try.prog 24 (con1 tbetP) := by
  refine res_up (c := con1 (gbetP KK)) (gbet_ok KK) fun args hh x hx => ?_
  unfold tbetP at hx
  split at hx
  · rename_i x_ y_ s
    injection hx with hx
    subst hx
    refine ⟨Nat.le_refl _, noLit rfl, (fun hw => by cases hw), fun hv => ⟨⟨_, .inl ⟨rfl, rfl⟩, rfl, ?_, ?_, ?_⟩, rfl, rfl⟩⟩
    · exact ⟨s.pp hv, (s.ok.bet (f := x_) (u := y_) s.k1).1⟩
    · rfl
    · obtain ⟨_, m', h1, _⟩ := s.ok.bet (K := KK) (f := x_) (u := y_) s.k1
      have h1 : (Gv.between Wv.O8 KK (Gv.see s.m s.r) (Gv.lk Wv.O8 s.m s.r) x_ y_) = (⟨(Gv.sub s.l x_.toNat y_.toNat).length, (Wv.S8 (Gv.sub s.l x_.toNat y_.toNat))⟩, m') := h1
      show (.agg ⟨[.int .i64 (Gv.between Wv.O8 KK (Gv.see s.m s.r) (Gv.lk Wv.O8 s.m s.r) x_ y_).1.sum.c.n, .int .i64 (Gv.between Wv.O8 KK (Gv.see s.m s.r) (Gv.lk Wv.O8 s.m s.r) x_ y_).1.sum.c.s, .int .i64 (Gv.between Wv.O8 KK (Gv.see s.m s.r) (Gv.lk Wv.O8 s.m s.r) x_ y_).1.sum.c.l, .int .i64 (Gv.between Wv.O8 KK (Gv.see s.m s.r) (Gv.lk Wv.O8 s.m s.r) x_ y_).1.sum.w.n, .int .i64 (Gv.between Wv.O8 KK (Gv.see s.m s.r) (Gv.lk Wv.O8 s.m s.r) x_ y_).1.sum.w.s, .int .i64 (Gv.between Wv.O8 KK (Gv.see s.m s.r) (Gv.lk Wv.O8 s.m s.r) x_ y_).1.sum.w.l, .int .i64 (Gv.between Wv.O8 KK (Gv.see s.m s.r) (Gv.lk Wv.O8 s.m s.r) x_ y_).1.sum.d, .int .i64 (Gv.between Wv.O8 KK (Gv.see s.m s.r) (Gv.lk Wv.O8 s.m s.r) x_ y_).1.sum.f, .int .i64 (Gv.between Wv.O8 KK (Gv.see s.m s.r) (Gv.lk Wv.O8 s.m s.r) x_ y_).1.sum.m.k, .int .i64 (Gv.between Wv.O8 KK (Gv.see s.m s.r) (Gv.lk Wv.O8 s.m s.r) x_ y_).1.sum.m.i, .bool (Gv.between Wv.O8 KK (Gv.see s.m s.r) (Gv.lk Wv.O8 s.m s.r) x_ y_).1.sum.gf, .int .i64 (Gv.between Wv.O8 KK (Gv.see s.m s.r) (Gv.lk Wv.O8 s.m s.r) x_ y_).1.sum.g.k, .int .i64 (Gv.between Wv.O8 KK (Gv.see s.m s.r) (Gv.lk Wv.O8 s.m s.r) x_ y_).1.sum.g.i, .bool (Gv.between Wv.O8 KK (Gv.see s.m s.r) (Gv.lk Wv.O8 s.m s.r) x_ y_).1.sum.lf, .int .i64 (Gv.between Wv.O8 KK (Gv.see s.m s.r) (Gv.lk Wv.O8 s.m s.r) x_ y_).1.sum.l.k, .int .i64 (Gv.between Wv.O8 KK (Gv.see s.m s.r) (Gv.lk Wv.O8 s.m s.r) x_ y_).1.sum.l.i]⟩ : Value) = _
      rw [h1]
      rfl
  · cases hx
end Go.Proofs.Ytegekenkfomlbaa.G8
