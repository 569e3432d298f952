/- tag: where a law's loop stands: both tables, what was told. -/
import Derived.Test.YtobdpddamdkabaaDoorTgDo
import Derived.Test.YtobdpddamdkabaaDoorTgOnceL
import Derived.Test.YtobdpddamdkabaaDoorTgRead
namespace Go.Proofs.YtobdpddamdkabaaDoor.Tg
open Go.Proofs.YtobdpddamdkabaaDoor.Rx
set_option linter.unusedVariables false
set_option linter.unusedSimpArgs false
structure StD where
  i : Nat
  t : TT
  told : List Ls
structure StD.Ok (n : Nat) (s : StD) : Prop where
  i : s.i ≤ n
  la : s.t.m.la.length ≤ s.i
  ser : s.t.m.ser ≤ s.i
  few : s.told.length ≤ s.i
  told : ∀ y ∈ s.told, LsOk y
theorem StD.Ok.start (n : Nat) (c : Int) : StD.Ok n ⟨0, newT c, []⟩ := ⟨Nat.zero_le _, Nat.le_refl _, Int.le_refl _, Nat.le_refl _, fun y hy => by cases hy⟩
theorem do_len (kd : Int) (t : TT) {x : Ls} (hx : LsOk x) (hq : t.m.la.length < 64) : (doT kd t x).m.la.length ≤ t.m.la.length + 1 ∧ (doT kd t x).m.ser ≤ t.m.ser + 1 := by
  unfold doT
  split
  · rw [issue_m t _ _ hx.tm hq]
    unfold issM
    split
    · have h1 := laG_len t.m
      exact ⟨by show (laN t.m).length ≤ _; rw [laN_len]; omega, Int.le_refl _⟩
    · omega
  · split
    · have := drop_keep t x.ix x.gn; rw [this.1, this.2]; omega
    · split
      · have := revive_keep t hx.tm; rw [this.1, this.2]; omega
      · have := move_keep t (ix := x.ix) (gn := x.gn) hx.tm; rw [this.1, this.2]; omega
theorem doL_len (kd : Int) (t : TT) (x : Ls) (told : List Ls) : (doL kd t x told).length ≤ told.length + 1 := by
  unfold doL
  split
  · simp
  · omega
theorem doL_ok (kd : Int) (t : TT) {x : Ls} (hx : LsOk x) (hq : t.m.la.length < 64) (hs : t.m.ser < 1000000) {told : List Ls} (h : ∀ y ∈ told, LsOk y) : ∀ y ∈ doL kd t x told, LsOk y := by
  unfold doL
  split
  · intro y hy
    rcases List.mem_append.1 hy with hy | hy
    · exact h y hy
    · rw [List.mem_singleton.1 hy]
      have h1 := slotN_le t.m
      have h2 := t.ok.ser0
      exact ⟨⟨by show _ ≤ ((slotN t.m : Nat) : Int); omega, by show ((slotN t.m : Nat) : Int) ≤ _; omega⟩, hx.tm, ⟨by show _ ≤ t.m.ser; omega, by show t.m.ser ≤ _; omega⟩⟩
  · exact h
theorem xO_ok {kd pl : Int} {td : Bool} {x : Ls} (hx : LsOk x) {told : List Ls} (h : ∀ y ∈ told, LsOk y) : LsOk (xO kd pl td x told) := by
  unfold xO
  split
  · rename_i hc
    have hlen : 0 < told.length := by
      cases told with
      | nil => exact absurd rfl hc.2
      | cons y r => simp
    have hb := rest_bounds (a := pl) (n := told.length) (by omega)
    have hm := h _ (Rx.getD_mem (l := told) (d := ls0) (i := (restI pl told.length).toNat) (by omega))
    split
    · exact hm
    · exact ⟨hm.ix, hx.tm, hx.id⟩
  · exact hx
def stepD (s : StD) (k pl : Int) (td : Bool) (x : Ls) : StD := ⟨s.i + 1, doT (restI k 4) s.t (xO (restI k 4) pl td x s.told), doL (restI k 4) s.t (xO (restI k 4) pl td x s.told) s.told⟩
theorem StD.Ok.step {n : Nat} {s : StD} (h : s.Ok n) (hi : s.i < n) (hn : n ≤ 50) (k pl : Int) (td : Bool) {x : Ls} (hx : LsOk x) : (stepD s k pl td x).Ok n := by
  obtain ⟨h1, h2, h3, h4, h5⟩ := h
  have hq := xO_ok (kd := restI k 4) (pl := pl) (td := td) hx h5
  have g1 := do_len (restI k 4) s.t hq (by omega)
  have g2 := doL_len (restI k 4) s.t (xO (restI k 4) pl td x s.told) s.told
  exact ⟨hi, by show (doT _ _ _).m.la.length ≤ s.i + 1; omega, by show (doT _ _ _).m.ser ≤ ((s.i + 1 : Nat) : Int); omega, by show (doL _ _ _ _).length ≤ s.i + 1; omega, doL_ok _ _ hq (by omega) (by omega) h5⟩
/-- the act at a place -/
def Acts.x (a : Acts) (i : Nat) : Ls := ⟨a.ix.getD i 0, a.gn.getD i 0, a.tm.getD i 0, a.ins.getD i false, a.key.getD i 0, a.id.getD i 0⟩
theorem Acts.Ok.x {a : Acts} (h : a.Ok) (i : Nat) : LsOk (a.x i) := ⟨h.fix i, h.ftm i, h.fid i⟩
def actN (a : Acts) (s : StD) : StD := stepD s (a.k.getD s.i 0) (a.pl.getD s.i 0) (a.t.getD s.i false) (a.x s.i)
/-- both tables in memory, behind the acts -/
def refC (m : Md) (i j : Nat) : Option (SB Rs) := some (.inl (31, [.int .i64 m.cap, .int .i64 m.ser, .slice (some ⟨i, 0, some 1000⟩) m.la.length 0, .slice (some ⟨j, 0, some 6000⟩) m.l.length 0]))
def laC (m : Md) : Option (SB Rs) := some (.inr (.inl (3, ⟨[.int .i64 0], m.la.length, [colI m.la]⟩)))
def lC (l : List Ls) : Option (SB Rs) := some (.inr (.inl (41, rowL l)))
/-- an act's operation; what it leaves -/
def aX (a : Acts) (i : Nat) : Ls := ⟨a.ix.getD (0 + Int.toNat (i : Int)) 0, a.gn.getD (0 + Int.toNat (i : Int)) 0, a.tm.getD (0 + Int.toNat (i : Int)) 0, a.ins.getD (0 + Int.toNat (i : Int)) false, a.key.getD (0 + Int.toNat (i : Int)) 0, a.id.getD (0 + Int.toNat (i : Int)) 0⟩
def nT (a : Acts) (s : StD) : TT := doT (restI (a.k.getD (0 + Int.toNat (s.i : Int)) 0) 4) s.t (xO (restI (a.k.getD (0 + Int.toNat (s.i : Int)) 0) 4) (a.pl.getD (0 + Int.toNat (s.i : Int)) 0) (a.t.getD (0 + Int.toNat (s.i : Int)) false) (aX a s.i) (uL (rowL s.told)))
def nL (a : Acts) (s : StD) : List Ls := doL (restI (a.k.getD (0 + Int.toNat (s.i : Int)) 0) 4) s.t (xO (restI (a.k.getD (0 + Int.toNat (s.i : Int)) 0) 4) (a.pl.getD (0 + Int.toNat (s.i : Int)) 0) (a.t.getD (0 + Int.toNat (s.i : Int)) false) (aX a s.i) (uL (rowL s.told))) (uL (rowL s.told))
theorem aX_is (a : Acts) (i : Nat) : aX a i = a.x i := by unfold aX Acts.x; rw [Nat.zero_add, Int.toNat_natCast]
theorem StD.Ok.next {a : Acts} {s : StD} (h : s.Ok a.k.length) (ha : a.Ok) (hi : s.i < a.k.length) (hn : a.k.length ≤ 50) : StD.Ok a.k.length ⟨s.i + 1, nT a s, nL a s⟩ := by
  unfold nT nL
  rw [Nat.zero_add, Int.toNat_natCast, aX_is, uL_rowL]
  exact h.step hi hn _ _ _ (ha.x s.i)
/-- what a list in the order of time tells of one of its operations -/
theorem at_mem {m : Md} (h : MOk m) {x : Ls} (hx : x ∈ m.l) : tmB m.l x.tm = true ∧ atM m x.tm = x := by
  have hp : m.l.Pairwise (fun a b => a.tm ≠ b.tm) := h.srt.imp fun hab => by omega
  have h1 : (byKey (·.tm) (fun x => x) m.l).f x.tm = some x := byKey_some (val := fun x => x) hp hx
  have h2 : (m.l.find? (fun y => y.tm == x.tm)).map (fun x => x) = some x := h1
  refine ⟨by unfold tmB; exact List.any_eq_true.2 ⟨x, hx, by simp⟩, ?_⟩
  unfold atM
  cases hf : m.l.find? (fun y => y.tm == x.tm) with
  | none => rw [hf] at h2; cases h2
  | some y => rw [hf] at h2; injection h2
theorem of_mem {m : Md} (h : MOk m) {x : Ls} (hx : x ∈ m.l) : findM m x.ix x.gn = true ∧ atX m x.ix x.gn = x := by
  have h1 : (byKey (·.ix) (fun x => x) m.l).f x.ix = some x := byKey_some (val := fun x => x) h.ix hx
  have hs : ofX m x.ix x.gn = some x := by
    unfold ofX
    have hg : ∀ y ∈ m.l, y.ix = x.ix → y = x := fun y hy e => by
      have h2 : (byKey (·.ix) (fun x => x) m.l).f y.ix = some y := byKey_some (val := fun x => x) h.ix hy
      rw [e, h1] at h2; injection h2 with h2; exact h2.symm
    cases hf : m.l.find? (fun y => y.ix == x.ix && y.gn == x.gn) with
    | none => have := List.find?_eq_none.1 hf x hx; simp at this
    | some y =>
      have hy := List.mem_of_find?_eq_some hf
      have hp := List.find?_some hf
      simp only [Bool.and_eq_true, beq_iff_eq] at hp
      rw [hg y hy hp.1]
  exact ⟨by unfold findM; rw [hs]; rfl, by unfold atX; rw [hs]; rfl⟩
def StD.vals (n : Nat) (s : StD) : List Value := [.slice (some ⟨0, 0, some 9000⟩) n 0, .pointer (some ⟨1, 0, none⟩), .pointer (some ⟨2, 0, none⟩), .slice (some ⟨3, 0, some 6000⟩) s.told.length 0, .int .i64 s.i]
def StD.heap (a : Acts) (s : StD) : Hp Rs := [some (.inr (.inr (.inl (actsRow a)))), some (.inr (.inr (.inr (.tab s.t)))), refC s.t.m 4 5, lC s.told, laC s.t.m, lC s.t.m.l]
end Go.Proofs.YtobdpddamdkabaaDoor.Tg
