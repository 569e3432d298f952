/- grove: a tree of slots as a thing: its calls. -/
import Derived.Test.YtljdcboijegllaaG9T
import Derived.Test.YtljdcboijegllaaG9Top
import Derived.Test.YtljdcboijegllaaG9Loops
namespace Go.Proofs.Ytljdcboijegllaa.G9
open Go.Proofs.Ytljdcboijegllaa.Rx
set_option linter.unusedVariables false
set_option linter.unusedSimpArgs false
set_option maxRecDepth 100000
set_option maxHeartbeats 8000000
open Gv (KK)
def tnewP : Prim Rt := fun args hh => match args, hh with
  | [.int .i64 c], [] => some ⟨True, .pointer (some ⟨0, 0, none⟩), none, [oT (Gv.TS.new k9 c)], [], [(0, 0)]⟩
  | _, _ => none
theorem tnew_ok : ConOk D2 Try.prog 24 (con1 tnewP) := by
  refine res_up (c := con1 gnewP) gnew_ok fun args hh x hx => ?_
  unfold tnewP at hx
  split at hx
  · rename_i c
    injection hx with hx
    subst hx
    refine ⟨Nat.zero_le _, noLit rfl, (fun hw => by cases hw), fun hv => ⟨⟨_, .inl ⟨rfl, rfl⟩, rfl, ?_, ?_, ?_⟩, rfl, rfl⟩⟩
    · trivial
    · rfl
    · rfl
  · cases hx
def tlenP : Prim Rt := fun args hh => match args, hh with
  | [.pointer (some ⟨0, 0, none⟩)], [some (.inr (.inr (.inr (.tree s))))] => some ⟨s.Few, .int .i64 s.l.length, none, [oT s.seen], [], [(0, 0)]⟩
  | _, _ => none
theorem tlen_ok : ConOk D2 Try.prog 16 (con1 tlenP) := by
  refine res_up (c := con1 lenP) len_ok fun args hh x hx => ?_
  unfold tlenP at hx
  split at hx
  · rename_i s
    injection hx with hx
    subst hx
    refine ⟨Nat.le_refl _, noLit rfl, (fun hw => by cases hw), fun hv => ⟨⟨_, .inl ⟨rfl, rfl⟩, rfl, ?_, ?_, ?_⟩, rfl, rfl⟩⟩
    · exact s.pp hv
    · rfl
    · exact congrArg (Value.int IntKind.i64) s.ok.nn
  · cases hx
def tputP : Prim Rt := fun args hh => match args, hh with
  | [.pointer (some ⟨0, 0, none⟩), .agg ⟨[.int .i64 k0, .int .i64 k1, .bool k2, .int .i64 k3]⟩], [some (.inr (.inr (.inr (.tree s))))] => some ⟨s.PutOk (⟨⟨k0, k1⟩, k2, k3⟩ : Sh.Sl), .bool (s.putB (⟨⟨k0, k1⟩, k2, k3⟩ : Sh.Sl)), none, [oT (s.put (⟨⟨k0, k1⟩, k2, k3⟩ : Sh.Sl))], [], [(0, 0)]⟩
  | _, _ => none
theorem tput_ok : ConOk D2 Try.prog 11 (con1 tputP) := by
  refine res_up (c := con1 (gputP KK)) (gput_ok KK) fun args hh x hx => ?_
  unfold tputP at hx
  split at hx
  · rename_i k0 k1 k2 k3 s
    injection hx with hx
    subst hx
    refine ⟨Nat.le_refl _, noLit rfl, (fun hw => by cases hw), fun hv => ⟨⟨_, .inl ⟨rfl, rfl⟩, rfl, ?_, ?_, ?_⟩, rfl, rfl⟩⟩
    · exact ⟨s.pp hv.few, (Gv.TS.put_ok hv).1⟩
    · rw [Gv.TS.put_eq hv]; rfl
    · exact congrArg Value.bool (Gv.TS.put_ok hv).2.1
  · cases hx
def tdropP : Prim Rt := fun args hh => match args, hh with
  | [.pointer (some ⟨0, 0, none⟩), .agg ⟨[.int .i64 k0, .int .i64 k1, .bool k2, .int .i64 k3]⟩], [some (.inr (.inr (.inr (.tree s))))] => some ⟨s.Few, .tuple #[.agg ⟨[.int .i64 (Gv.fndE Sh.O9 (⟨⟨k0, k1⟩, k2, k3⟩ : Sh.Sl) s.l).1.it.k, .int .i64 (Gv.fndE Sh.O9 (⟨⟨k0, k1⟩, k2, k3⟩ : Sh.Sl) s.l).1.it.i, .bool (Gv.fndE Sh.O9 (⟨⟨k0, k1⟩, k2, k3⟩ : Sh.Sl) s.l).1.eaten, .int .i64 (Gv.fndE Sh.O9 (⟨⟨k0, k1⟩, k2, k3⟩ : Sh.Sl) s.l).1.time]⟩, .bool (Gv.fndE Sh.O9 (⟨⟨k0, k1⟩, k2, k3⟩ : Sh.Sl) s.l).2], none, [oT (s.drop (⟨⟨k0, k1⟩, k2, k3⟩ : Sh.Sl))], [], [(0, 0)]⟩
  | _, _ => none
theorem tdrop_ok : ConOk D2 Try.prog 7 (con1 tdropP) := by
  refine res_up (c := con1 (gdropP KK)) (gdrop_ok KK) fun args hh x hx => ?_
  unfold tdropP at hx
  split at hx
  · rename_i k0 k1 k2 k3 s
    injection hx with hx
    subst hx
    refine ⟨Nat.le_refl _, noLit rfl, (fun hw => by cases hw), fun hv => ⟨⟨_, .inl ⟨rfl, rfl⟩, rfl, ?_, ?_, ?_⟩, rfl, rfl⟩⟩
    · exact ⟨s.pp hv, (s.drop_ok (⟨⟨k0, k1⟩, k2, k3⟩ : Sh.Sl)).1⟩
    · rfl
    · obtain ⟨_, h1, h2, _⟩ := s.drop_ok (⟨⟨k0, k1⟩, k2, k3⟩ : Sh.Sl)
      show Value.tuple #[.agg ⟨[.int .i64 (Gv.dropF Sh.O9 KK s.m s.r (⟨⟨k0, k1⟩, k2, k3⟩ : Sh.Sl)).1.it.k, .int .i64 (Gv.dropF Sh.O9 KK s.m s.r (⟨⟨k0, k1⟩, k2, k3⟩ : Sh.Sl)).1.it.i, .bool (Gv.dropF Sh.O9 KK s.m s.r (⟨⟨k0, k1⟩, k2, k3⟩ : Sh.Sl)).1.eaten, .int .i64 (Gv.dropF Sh.O9 KK s.m s.r (⟨⟨k0, k1⟩, k2, k3⟩ : Sh.Sl)).1.time]⟩, .bool (Gv.dropF Sh.O9 KK s.m s.r (⟨⟨k0, k1⟩, k2, k3⟩ : Sh.Sl)).2.1] = _
      have h1 : (Gv.dropF Sh.O9 KK s.m s.r (⟨⟨k0, k1⟩, k2, k3⟩ : Sh.Sl)).1 = (Gv.fndE Sh.O9 (⟨⟨k0, k1⟩, k2, k3⟩ : Sh.Sl) s.l).1 := h1
      have h2 : (Gv.dropF Sh.O9 KK s.m s.r (⟨⟨k0, k1⟩, k2, k3⟩ : Sh.Sl)).2.1 = (Gv.fndE Sh.O9 (⟨⟨k0, k1⟩, k2, k3⟩ : Sh.Sl) s.l).2 := h2
      rw [h1, h2]
      rfl
  · cases hx
def tfindP : Prim Rt := fun args hh => match args, hh with
  | [.pointer (some ⟨0, 0, none⟩), .agg ⟨[.int .i64 k0, .int .i64 k1, .bool k2, .int .i64 k3]⟩], [some (.inr (.inr (.inr (.tree s))))] => some ⟨s.Few, .tuple #[.agg ⟨[.int .i64 (Gv.fndE Sh.O9 (⟨⟨k0, k1⟩, k2, k3⟩ : Sh.Sl) s.l).1.it.k, .int .i64 (Gv.fndE Sh.O9 (⟨⟨k0, k1⟩, k2, k3⟩ : Sh.Sl) s.l).1.it.i, .bool (Gv.fndE Sh.O9 (⟨⟨k0, k1⟩, k2, k3⟩ : Sh.Sl) s.l).1.eaten, .int .i64 (Gv.fndE Sh.O9 (⟨⟨k0, k1⟩, k2, k3⟩ : Sh.Sl) s.l).1.time]⟩, .bool (Gv.fndE Sh.O9 (⟨⟨k0, k1⟩, k2, k3⟩ : Sh.Sl) s.l).2], none, [oT (s.find (⟨⟨k0, k1⟩, k2, k3⟩ : Sh.Sl))], [], [(0, 0)]⟩
  | _, _ => none
theorem tfind_ok : ConOk D2 Try.prog 19 (con1 tfindP) := by
  refine res_up (c := con1 (gfindP KK)) (gfind_ok KK) fun args hh x hx => ?_
  unfold tfindP at hx
  split at hx
  · rename_i k0 k1 k2 k3 s
    injection hx with hx
    subst hx
    refine ⟨Nat.le_refl _, noLit rfl, (fun hw => by cases hw), fun hv => ⟨⟨_, .inl ⟨rfl, rfl⟩, rfl, ?_, ?_, ?_⟩, rfl, rfl⟩⟩
    · exact ⟨s.pp hv, (s.ok.find (e := (⟨⟨k0, k1⟩, k2, k3⟩ : Sh.Sl)) s.k1).1⟩
    · rfl
    · obtain ⟨_, m', h1, _⟩ := s.ok.find (K := KK) (e := (⟨⟨k0, k1⟩, k2, k3⟩ : Sh.Sl)) s.k1
      have h1 : (Gv.find Sh.O9 KK (Gv.see s.m s.r) (Gv.lk Sh.O9 s.m s.r) (⟨⟨k0, k1⟩, k2, k3⟩ : Sh.Sl)) = ((Gv.fndE Sh.O9 (⟨⟨k0, k1⟩, k2, k3⟩ : Sh.Sl) s.l), m') := h1
      show Value.tuple #[.agg ⟨[.int .i64 (Gv.find Sh.O9 KK (Gv.see s.m s.r) (Gv.lk Sh.O9 s.m s.r) (⟨⟨k0, k1⟩, k2, k3⟩ : Sh.Sl)).1.1.it.k, .int .i64 (Gv.find Sh.O9 KK (Gv.see s.m s.r) (Gv.lk Sh.O9 s.m s.r) (⟨⟨k0, k1⟩, k2, k3⟩ : Sh.Sl)).1.1.it.i, .bool (Gv.find Sh.O9 KK (Gv.see s.m s.r) (Gv.lk Sh.O9 s.m s.r) (⟨⟨k0, k1⟩, k2, k3⟩ : Sh.Sl)).1.1.eaten, .int .i64 (Gv.find Sh.O9 KK (Gv.see s.m s.r) (Gv.lk Sh.O9 s.m s.r) (⟨⟨k0, k1⟩, k2, k3⟩ : Sh.Sl)).1.1.time]⟩, .bool (Gv.find Sh.O9 KK (Gv.see s.m s.r) (Gv.lk Sh.O9 s.m s.r) (⟨⟨k0, k1⟩, k2, k3⟩ : Sh.Sl)).1.2] = _
      rw [h1]
      rfl
  · cases hx
def trankP : Prim Rt := fun args hh => match args, hh with
  | [.pointer (some ⟨0, 0, none⟩), .agg ⟨[.int .i64 k0, .int .i64 k1, .bool k2, .int .i64 k3]⟩], [some (.inr (.inr (.inr (.tree s))))] => some ⟨s.Few, .int .i64 (Gv.loE Sh.O9 (⟨⟨k0, k1⟩, k2, k3⟩ : Sh.Sl) s.l).length, none, [oT (s.rank (⟨⟨k0, k1⟩, k2, k3⟩ : Sh.Sl))], [], [(0, 0)]⟩
  | _, _ => none
theorem trank_ok : ConOk D2 Try.prog 35 (con1 trankP) := by
  refine res_up (c := con1 (grankP KK)) (grank_ok KK) fun args hh x hx => ?_
  unfold trankP at hx
  split at hx
  · rename_i k0 k1 k2 k3 s
    injection hx with hx
    subst hx
    refine ⟨Nat.le_refl _, noLit rfl, (fun hw => by cases hw), fun hv => ⟨⟨_, .inl ⟨rfl, rfl⟩, rfl, ?_, ?_, ?_⟩, rfl, rfl⟩⟩
    · exact ⟨s.pp hv, (s.ok.rank (e := (⟨⟨k0, k1⟩, k2, k3⟩ : Sh.Sl)) s.k1).1⟩
    · rfl
    · obtain ⟨_, m', h1, _⟩ := s.ok.rank (K := KK) (e := (⟨⟨k0, k1⟩, k2, k3⟩ : Sh.Sl)) s.k1
      have h1 : (Gv.rank Sh.O9 KK (Gv.see s.m s.r) (Gv.lk Sh.O9 s.m s.r) (⟨⟨k0, k1⟩, k2, k3⟩ : Sh.Sl) 0) = (((Gv.loE Sh.O9 (⟨⟨k0, k1⟩, k2, k3⟩ : Sh.Sl) s.l).length : Int), m') := h1
      show Value.int IntKind.i64 (Gv.rank Sh.O9 KK (Gv.see s.m s.r) (Gv.lk Sh.O9 s.m s.r) (⟨⟨k0, k1⟩, k2, k3⟩ : Sh.Sl) 0).1 = _
      rw [h1]
      rfl
  · cases hx
def tallP : Prim Rt := fun args hh => match args, hh with
  | [.pointer (some ⟨0, 0, none⟩)], [some (.inr (.inr (.inr (.tree s))))] => some ⟨s.Few, .slice (some ⟨1, 0, some 4000⟩) s.l.length 0, none, [oT s.all, some (.inr (.inl (32, ⟨[.int .i64 0, .int .i64 0, .bool false, .int .i64 0], s.l.length, [⟨s.l.map fun e => e.it.k, [], []⟩, ⟨s.l.map fun e => e.it.i, [], []⟩, ⟨[], s.l.map fun e => e.eaten, []⟩, ⟨s.l.map fun e => e.time, [], []⟩]⟩)))], [], [(0, 0)]⟩
  | _, _ => none
theorem tall_ok : ConOk D2 Try.prog 32 (con1 tallP) := by
  refine res_up (c := con1 (gallP KK)) (gall_ok KK) fun args hh x hx => ?_
  unfold tallP at hx
  split at hx
  · rename_i s
    injection hx with hx
    subst hx
    refine ⟨Nat.le_succ _, noLit rfl, (fun hw => by cases hw), fun hv => ⟨⟨_, .inl ⟨rfl, rfl⟩, rfl, ?_, ?_, ?_⟩, rfl, rfl⟩⟩
    · exact ⟨s.pp hv, (s.ok.all (K := KK) s.k1).1⟩
    · obtain ⟨_, m', h1, _⟩ := s.ok.all (K := KK) s.k1
      have h1 : (Gv.gather Sh.O9 KK (Gv.see s.m s.r) s.r) = (s.l, m') := h1
      show ([some (.inl (59, [.pointer (some ⟨1, 0, none⟩), .int .i64 s.r.i, .int .i64 s.r.g])), some (.inr (.inr (.inr (.pool (Gv.gather Sh.O9 KK (Gv.see s.m s.r) s.r).2)))), some (.inr (.inl (32, ⟨[.int .i64 0, .int .i64 0, .bool false, .int .i64 0], (Gv.gather Sh.O9 KK (Gv.see s.m s.r) s.r).1.length, [⟨(Gv.gather Sh.O9 KK (Gv.see s.m s.r) s.r).1.map fun e => e.it.k, [], []⟩, ⟨(Gv.gather Sh.O9 KK (Gv.see s.m s.r) s.r).1.map fun e => e.it.i, [], []⟩, ⟨[], (Gv.gather Sh.O9 KK (Gv.see s.m s.r) s.r).1.map fun e => e.eaten, []⟩, ⟨(Gv.gather Sh.O9 KK (Gv.see s.m s.r) s.r).1.map fun e => e.time, [], []⟩]⟩)))] : Hp Rs) = [some (.inl (59, [.pointer (some ⟨1, 0, none⟩), .int .i64 s.r.i, .int .i64 s.r.g])), some (.inr (.inr (.inr (.pool (Gv.gather Sh.O9 KK (Gv.see s.m s.r) s.r).2)))), some (.inr (.inl (32, ⟨[.int .i64 0, .int .i64 0, .bool false, .int .i64 0], s.l.length, [⟨s.l.map fun e => e.it.k, [], []⟩, ⟨s.l.map fun e => e.it.i, [], []⟩, ⟨[], s.l.map fun e => e.eaten, []⟩, ⟨s.l.map fun e => e.time, [], []⟩]⟩)))]
      rw [h1]
    · obtain ⟨_, m', h1, _⟩ := s.ok.all (K := KK) s.k1
      have h1 : (Gv.gather Sh.O9 KK (Gv.see s.m s.r) s.r) = (s.l, m') := h1
      show Value.slice (some ⟨2, 0, some 4000⟩) (Gv.gather Sh.O9 KK (Gv.see s.m s.r) s.r).1.length 0 = _
      rw [h1]
      rfl
  · cases hx
def tbetP : Prim Rt := fun args hh => match args, hh with
  | [.pointer (some ⟨0, 0, none⟩), .int .i64 x_, .int .i64 y_], [some (.inr (.inr (.inr (.tree s))))] => some ⟨s.Few, .int .i64 ((Sh.S9 (Gv.sub s.l x_.toNat y_.toNat))).n, none, [oT (s.bet x_ y_)], [], [(0, 0)]⟩
  | _, _ => none
theorem tbet_ok : ConOk D2 Try.prog 15 (con1 tbetP) := by
  refine res_up (c := con1 (gbetP KK)) (gbet_ok KK) fun args hh x hx => ?_
  unfold tbetP at hx
  split at hx
  · rename_i x_ y_ s
    injection hx with hx
    subst hx
    refine ⟨Nat.le_refl _, noLit rfl, (fun hw => by cases hw), fun hv => ⟨⟨_, .inl ⟨rfl, rfl⟩, rfl, ?_, ?_, ?_⟩, rfl, rfl⟩⟩
    · exact ⟨s.pp hv, (s.ok.bet (f := x_) (u := y_) s.k1).1⟩
    · rfl
    · obtain ⟨_, m', h1, _⟩ := s.ok.bet (K := KK) (f := x_) (u := y_) s.k1
      have h1 : (Gv.between Sh.O9 KK (Gv.see s.m s.r) (Gv.lk Sh.O9 s.m s.r) x_ y_) = (⟨(Gv.sub s.l x_.toNat y_.toNat).length, (Sh.S9 (Gv.sub s.l x_.toNat y_.toNat))⟩, m') := h1
      show (.int .i64 ((Gv.between Sh.O9 KK (Gv.see s.m s.r) (Gv.lk Sh.O9 s.m s.r) x_ y_).1.sum).n : Value) = _
      rw [h1]
      rfl
  · cases hx
end Go.Proofs.Ytljdcboijegllaa.G9
