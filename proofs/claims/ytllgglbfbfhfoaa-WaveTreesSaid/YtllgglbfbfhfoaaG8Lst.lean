/- wave: a tree of marks, put in one by one. -/
import Derived.Test.YtllgglbfbfhfoaaGvRk
import Derived.Test.YtllgglbfbfhfoaaG8T
import Derived.Test.YtllgglbfbfhfoaaWvLaw
namespace Go.Proofs.Ytllgglbfbfhfoaa.G8
open Go.Proofs.Ytllgglbfbfhfoaa.Rx Go.Proofs.Ytllgglbfbfhfoaa.Wv
set_option linter.unusedVariables false
set_option linter.unusedSimpArgs false
/-- how many are ahead of a mark -/
abbrev rk8 (m : Mk) (w : List Mk) : Nat := Gv.rkE O8 m w
theorem rk8_lt {m : Mk} {w : List Mk} {j : Nat} (h : j < rk8 m w) : (w.getD j mz).t < m.t := (cmp_pos _ _).1 (Gv.rkE_lt (O := O8) h)
theorem rk8_ge {m : Mk} {w : List Mk} (h : rk8 m w < w.length) : ¬ (w.getD (rk8 m w) mz).t < m.t := fun c => Gv.rkE_ge (O := O8) (e := m) (l := w) h ((cmp_pos _ _).2 c)
/-- does one of that time stand there -/
def hit8 (m : Mk) (w : List Mk) : Bool := decide (rk8 m w < w.length) && decide ((w.getD (rk8 m w) mz).t = m.t)
theorem hit8_eq (m : Mk) (w : List Mk) : (Gv.hitE O8 m w).isSome = hit8 m w := by
  rw [Gv.hit_rk]
  unfold hit8
  have e : (O8.cmp m (w.getD (rk8 m w) O8.e0) = 0) = ((w.getD (rk8 m w) mz).t = m.t) := propext ⟨fun h => ((cmp_zero _ _).1 h).symm, fun h => (cmp_zero _ _).2 h.symm⟩
  simp only [rk8, e]
theorem put8 (m : Mk) (w : List Mk) : Gv.putE O8 m w = w.take (rk8 m w) ++ m :: w.drop (if hit8 m w = true then rk8 m w + 1 else rk8 m w) := by
  rw [Gv.put_rk, hit8_eq]
theorem put8_len (m : Mk) (w : List Mk) : (Gv.putE O8 m w).length ≤ w.length + 1 := by
  rw [Gv.put_len]; split <;> omega
/-- the tree after so many -/
def trS (l : List Mk) : Nat → Ts
  | 0 => Gv.TS.new k8 60
  | i + 1 => (trS l i).put (l.getD i mz)
structure TrOk (l : List Mk) (i : Nat) (s : Ts) : Prop where
  n : s.n = i
  c : s.c = 60
  len : s.l.length ≤ i
theorem TrOk.putok {l : List Mk} {i : Nat} {s : Ts} (h : TrOk l i s) (hi : i < 60) (m : Mk) : s.PutOk m := ⟨by rw [h.n]; omega, by
  show (Gv.putE O8 m s.l).length ≤ 60
  have := put8_len m s.l
  have := h.len
  omega⟩
theorem TrOk.putB {l : List Mk} {i : Nat} {s : Ts} (h : TrOk l i s) (hi : i < 60) (m : Mk) : s.putB m = true := by
  have := h.len
  unfold Gv.TS.putB
  rw [h.c, decide_eq_true (by omega), Bool.or_true]
theorem TrOk.put_l {l : List Mk} {i : Nat} {s : Ts} (h : TrOk l i s) (hi : i < 60) (m : Mk) : (s.put m).l = Gv.putE O8 m s.l := by
  rw [Gv.TS.put_l (h.putok hi m)]
  unfold Gv.TS.putL
  rw [if_pos (h.putB hi m)]
  rfl
theorem tr_ok (l : List Mk) : ∀ i, i ≤ 60 → TrOk l i (trS l i)
  | 0, _ => ⟨rfl, rfl, Nat.le_refl _⟩
  | i + 1, h => by
    have ih := tr_ok l i (by omega)
    refine ⟨?_, ?_, ?_⟩
    · show ((trS l i).put (l.getD i mz)).n = i + 1
      rw [Gv.TS.put_n (ih.putok (by omega) _), ih.n]
    · show ((trS l i).put (l.getD i mz)).c = 60
      rw [Gv.TS.put_c (ih.putok (by omega) _), ih.c]
    · show ((trS l i).put (l.getD i mz)).l.length ≤ i + 1
      rw [ih.put_l (by omega)]
      have := put8_len (l.getD i mz) (trS l i).l
      have := ih.len
      omega
theorem tr_srt (s : Ts) : Gv.SrtE O8 s.l := s.ok.srt
theorem fnd8 {w : List Mk} {i : Nat} {m : Mk} (hs : Gv.SrtE O8 w) (hi : i < w.length) (hm : m.t = (w.getD i mz).t) : Gv.fndE O8 m w = (w.getD i mz, true) :=
  Gv.srt_fnd laws8 hs hi ((cmp_zero _ _).2 hm)
theorem rnk8 {w : List Mk} {i : Nat} {m : Mk} (hs : Gv.SrtE O8 w) (hi : i < w.length) (hm : m.t = (w.getD i mz).t) : (Gv.loE O8 m w).length = i :=
  Gv.srt_rk laws8 hs hi ((cmp_zero _ _).2 hm)
end Go.Proofs.Ytllgglbfbfhfoaa.G8
