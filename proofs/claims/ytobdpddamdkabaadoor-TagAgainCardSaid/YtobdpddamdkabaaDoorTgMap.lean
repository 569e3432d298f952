/- Maps as things of the proof's: how many, and what is there at a key. -/
import Derived.Test.YtobdpddamdkabaaDoorRxP
import Derived.Maps.OwnSet
namespace Go.Proofs.YtobdpddamdkabaaDoor.Tg
open Go.RowKit Go.Maps Go.Proofs.YtobdpddamdkabaaDoor.State Go.Proofs.YtobdpddamdkabaaDoor.Rx
set_option linter.unusedVariables false
set_option linter.unusedSimpArgs false

/-- an operation of a list, by its six cells -/
structure Ls where
  ix : Int
  gn : Int
  tm : Int
  ins : Bool
  key : Int
  id : Int
deriving DecidableEq
def lsL (x : Ls) : List Value := [.int .i64 x.ix, .int .i64 x.gn, .int .i64 x.tm, .bool x.ins, .int .i64 x.key, .int .i64 x.id]
def ls0 : Ls := ⟨0, 0, 0, false, 0, 0⟩
/-- a map of ints: how many, and what is there at a key -/
structure Mp (α : Type) where
  n : Nat
  f : Int → Option α
def m0 {α : Type} : Mp α := ⟨0, fun _ => none⟩
def mput {α : Type} (m : Mp α) (k : Int) (a : α) : Mp α := ⟨match m.f k with
  | some _ => m.n
  | none => m.n + 1, fun j => if j = k then some a else m.f j⟩
def mdel {α : Type} (m : Mp α) (k : Int) : Mp α := ⟨match m.f k with
  | some _ => m.n - 1
  | none => m.n, fun j => if j = k then none else m.f j⟩
abbrev MF := Mp Int ⊕ Mp Ls
def encI (n : Int) : Value := .int .i64 n
def encL (x : Ls) : Value := .agg ⟨lsL x⟩
/-- an element reads as itself -/
def Rv (v : Value) : Option (DataW Value × List MemPlace) := some (.held v, [])
def kl (k : Int) : Lit := .int .i64 k
def mapH {α : Type} (enc : α → Value) (w : World) (b : Nat) (m : Mp α) : Prop :=
  ∃ D : DataW Value, w.ownsMap Tryd.prog 3 Rv b m.n D ∧ Maps.size D = m.n ∧ ∀ k, (∀ z, D.atKey (kl k) z = match m.f k with
    | some a => .held (enc a)
    | none => z) ∧ Maps.has D (kl k) = (m.f k).isSome
section
variable {α : Type} {enc : α → Value} {w w' : World} {b : Nat} {m : Mp α}
theorem mapH.keep (h : mapH enc w b m) (hk : w'.heap[b]? = w.heap[b]?) : mapH enc w' b m := by
  obtain ⟨D, ⟨es, clock, hb, r⟩, h2⟩ := h
  exact ⟨D, ⟨es, clock, hk.trans hb, r⟩, h2⟩
theorem mapH.lt (h : mapH enc w b m) : b < w.heap.size := by
  obtain ⟨D, h1, _⟩ := h
  exact h1.lt
theorem kl_ne {k k' : Int} (h : k' ≠ k) : kl k' ≠ kl k := fun e => h (by injection e)
theorem fits_wf {k : Int} (h : fits k) : (Lit.int .i64 k).wf = true := by
  have := h.lo; have := h.hi
  exact WalkArith.wf_i64 ⟨by omega, by omega⟩
theorem keyK {k : Int} (h : fits k) : keyOf Tryd.prog 3 (.int .i64 k) = some (kl k) := keyOf_int_mk Tryd.underlying3 (fits_wf h)
theorem law : Keyed Tryd.prog 3 := int_keyed Tryd.underlying3
theorem mapH.look {t e : TypeId} (h : mapH enc w b m) (ht : Tryd.prog.underlying t = some (.map 3 e)) {z : Value} (hz : (zeroValue e).run Tryd.prog w = .ok z w) {k : Int} (hk : fits k) :
    (Instr.lookup t (.map (some b)) (.int .i64 k) true).run Tryd.prog w = .ok (.tuple #[(match m.f k with
      | some a => enc a
      | none => z), .bool (m.f k).isSome]) w ∧ (Instr.lookup t (.map (some b)) (.int .i64 k) false).run Tryd.prog w = .ok (match m.f k with
      | some a => enc a
      | none => z) w := by
  obtain ⟨D, h1, h2, h3⟩ := h
  obtain ⟨v, ps, hr, hv⟩ := h1.look_ok law ht hz (zd := .held z) (zp := []) rfl (keyK hk)
  obtain ⟨v', ps', hr', hv'⟩ := h1.lookup law ht hz (zd := .held z) (zp := []) rfl (keyK hk)
  obtain ⟨g1, g2⟩ := h3 k
  rw [g1] at hv hv'
  rw [g2] at hr
  unfold Rv at hv hv'
  have e1 : v = match m.f k with
      | some a => enc a
      | none => z := by
    cases hm : m.f k <;> rw [hm] at hv <;> simpa using congrArg (Option.map Prod.fst) hv
  have e2 : v' = match m.f k with
      | some a => enc a
      | none => z := by
    cases hm : m.f k <;> rw [hm] at hv' <;> simpa using congrArg (Option.map Prod.fst) hv'
  rw [← e1]
  exact ⟨hr, by rw [e1, ← e2]; exact hr'⟩
theorem mapH.put {t e : TypeId} (h : mapH enc w b m) (ht : Tryd.prog.underlying t = some (.map 3 e)) (hn : m.n < 1000000) {k : Int} (hk : fits k) (a : α) :
    ∃ w', (Instr.mapUpdate t (.map (some b)) (.int .i64 k) (enc a)).run Tryd.prog w = .ok () w' ∧ mapH enc w' b (mput m k a) ∧ w.mapTurned w' b := by
  obtain ⟨D, h1, h2, h3⟩ := h
  obtain ⟨w', hr, hown, ht'⟩ := h1.store law ht (by unfold maxLen; omega) (val := enc a) (d := .held (enc a)) (ps := []) (keyK hk) rfl
  have hT := h1.tidy law
  have hs : Maps.size (D.put (kl k) (.held (enc a))) = (mput m k a).n := by
    rw [Maps.size_put hT, (h3 k).2, h2]
    unfold mput
    cases m.f k <;> rfl
  refine ⟨w', hr, ⟨D.put (kl k) (.held (enc a)), ?_, hs, fun j => ?_⟩, ht'⟩
  · obtain ⟨es, clock, hb, F, hle, hD⟩ := hown
    refine ⟨es, clock, hb, F, ?_, hD⟩
    rw [← hs]
    have e0 : D.put (kl k) (.held (enc a)) = _ := hD
    rw [e0]
    simp [Maps.size, length_sorted]
  · by_cases hj : j = k
    · subst hj
      refine ⟨fun z => ?_, ?_⟩
      · rw [Maps.atKey_put_same hT.isMap (by trivial)]; simp [mput]
      · rw [Maps.has_put_same hT.isMap (by trivial)]; simp [mput]
    · refine ⟨fun z => ?_, ?_⟩
      · rw [Maps.atKey_put_other (kl_ne hj), (h3 j).1]; simp [mput, hj]
      · rw [Maps.has_put_other (kl_ne hj), (h3 j).2]; simp [mput, hj]
theorem mapH.del {t e ty : TypeId} (h : mapH enc w b m) (ht : Tryd.prog.underlying t = some (.map 3 e)) {k : Int} (hk : fits k) :
    ∃ w', (Builtin.delete_ #[t, 3] ty #[.map (some b), .int .i64 k]).run Tryd.prog w = .ok (.tuple #[]) w' ∧ mapH enc w' b (mdel m k) ∧ w.mapTurned w' b := by
  obtain ⟨D, h1, h2, h3⟩ := h
  obtain ⟨w', hr, hown, ht'⟩ := h1.drop law ht (keyK hk) ty
  have hT := h1.tidy law
  have hs : Maps.size (D.del (kl k)) = (mdel m k).n := by
    have := Maps.size_del hT (k := kl k)
    rw [(h3 k).2, h2] at this
    unfold mdel
    revert this
    cases m.f k <;> simp <;> omega
  refine ⟨w', hr, ⟨D.del (kl k), ?_, hs, fun j => ?_⟩, ht'⟩
  · obtain ⟨es, clock, hb, F, hle, hD⟩ := hown
    refine ⟨es, clock, hb, F, ?_, hD⟩
    rw [← hs]
    have e0 : D.del (kl k) = _ := hD
    rw [e0]
    simp [Maps.size, length_sorted]
  · by_cases hj : j = k
    · subst hj
      refine ⟨fun z => ?_, ?_⟩
      · rw [Maps.atKey_del_same]; simp [mdel]
      · rw [Maps.has_del_same]; simp [mdel]
    · refine ⟨fun z => ?_, ?_⟩
      · rw [Maps.atKey_del_other (kl_ne hj), (h3 j).1]; simp [mdel, hj]
      · rw [Maps.has_del_other (kl_ne hj), (h3 j).2]; simp [mdel, hj]
theorem mapH.len {t e ty : TypeId} (h : mapH enc w b m) (ht : Tryd.prog.underlying t = some (.map 3 e)) : (Builtin.len_ #[t] ty #[.map (some b)]).run Tryd.prog w = .ok (.int .i64 m.n) w := by
  obtain ⟨D, h1, h2, h3⟩ := h
  have := h1.len ht ty
  rwa [h2] at this
theorem mapH.make (w : World) : mapH enc (w.alloc (.map #[] 0)) w.heap.size m0 :=
  ⟨_, World.ownsMap_made _ _ _ _, rfl, fun k => ⟨fun z => rfl, rfl⟩⟩
theorem turned_kept {F : Nat → Prop} (h : w.mapTurned w' b) (hF : F b) : Kept F w w' := (Kept.refl F w).grown h.grown (fun k e => by injection e with e; subst e; exact .inl hF)
end
/-- the maps of this program, as things -/
def D0 : Res MF where
  H X p F w := (∀ k, F k ↔ k = p.blk) ∧ match X with
    | .inl m => mapH encI w p.blk m
    | .inr m => mapH encL w p.blk m
  keep X p F w w' h hk := by
    obtain ⟨h1, h2⟩ := h
    have := hk p.blk ((h1 _).2 rfl)
    cases X <;> exact ⟨h1, h2.keep this⟩
  lt X p F w k h hk := by
    obtain ⟨h1, h2⟩ := h
    rw [(h1 k).1 hk]
    cases X <;> exact h2.lt
def thing (X : MF) : SB MF := .inr (.inr (.inr X))
def okV (ok : Bool) (v : Value) (b : Bool) : Value :=
  match ok with
  | true => .tuple ⟨[v, .bool b]⟩
  | false => v
/-- what maps do -/
def mpC : Con MF where
  when _ _ := none
  yes args h := match args, h with
    | [.int _ t, .bool ok, .int .i64 k], [some (.inr (.inr (.inr (.inl m))))] => match decide (t = 68) with
      | true => some ⟨fits k, okV ok (.int .i64 ((m.f k).getD 0)) (m.f k).isSome, none, [], [], []⟩
      | false => none
    | [.int _ t, .bool ok, .int .i64 k], [some (.inr (.inr (.inr (.inr m))))] => match decide (t = 67) with
      | true => some ⟨fits k, okV ok (.agg ⟨lsL ((m.f k).getD ls0)⟩) (m.f k).isSome, none, [], [], []⟩
      | false => none
    | [.int _ t], [some (.inr (.inr (.inr (.inl m))))] => match decide (t = 68) with
      | true => some ⟨True, .int .i64 m.n, none, [], [], []⟩
      | false => none
    | [.int _ t], [some (.inr (.inr (.inr (.inr m))))] => match decide (t = 67) with
      | true => some ⟨True, .int .i64 m.n, none, [], [], []⟩
      | false => none
    | _, _ => none
  no args h := match args, h with
    | [.int _ t, .int .i64 k, .int .i64 v], [some (.inr (.inr (.inr (.inl m))))] => match decide (t = 68) with
      | true => some ⟨fits k ∧ m.n < 1000000, undef, none, [some (thing (.inl (mput m k v)))], [], []⟩
      | false => none
    | [.int _ t, .int .i64 k, .agg ⟨[.int .i64 a, .int .i64 b, .int .i64 c, .bool d, .int .i64 e, .int .i64 f]⟩], [some (.inr (.inr (.inr (.inr m))))] => match decide (t = 67) with
      | true => some ⟨fits k ∧ m.n < 1000000, undef, none, [some (thing (.inr (mput m k ⟨a, b, c, d, e, f⟩)))], [], []⟩
      | false => none
    | [.int _ t, .bool _, .int _ kt, .int .i64 k], [some (.inr (.inr (.inr (.inl m))))] => match decide (t = 68 ∧ kt = 3) with
      | true => some ⟨fits k, undef, none, [some (thing (.inl (mdel m k)))], [], []⟩
      | false => none
    | [.int _ t, .bool _, .int _ kt, .int .i64 k], [some (.inr (.inr (.inr (.inr m))))] => match decide (t = 67 ∧ kt = 3) with
      | true => some ⟨fits k, undef, none, [some (thing (.inr (mdel m k)))], [], []⟩
      | false => none
    | [.int _ t], [] => match decide (t = 68) with
      | true => some ⟨True, undef, none, [some (thing (.inl m0))], [], []⟩
      | false => match decide (t = 67) with
        | true => some ⟨True, undef, none, [some (thing (.inr m0))], [], []⟩
        | false => none
    | _, _ => none
theorem zI (w : World) : (zeroValue 3).run Tryd.prog w = .ok (.int .i64 0) w := by kernel_rfl
theorem zL (w : World) : (zeroValue 41).run Tryd.prog w = .ok (.agg ⟨lsL ls0⟩) w := by kernel_rfl
theorem mpC_ok : MpOk D0 Tryd.prog mpC where
  look t ok key X x p F w hx hH hv := by
    unfold mpC at hx
    simp only at hx
    split at hx
    · rename_i t' ok' k m e1 e2
      simp only [List.cons.injEq, and_true, Option.some.injEq, Sum.inr.injEq, Value.int.injEq, Value.bool.injEq] at e1 e2
      obtain ⟨⟨_, rfl⟩, rfl, rfl⟩ := e1
      subst e2
      split at hx
      · rename_i hd
        have hx := Option.some.inj hx
        subst hx
        have ht : t = 68 := by have := of_decide_eq_true hd; omega
        subst ht
        obtain ⟨g1, g2⟩ := hH.2.look (e := 3) (by kernel_rfl) (zI w) hv
        cases ok
        · rw [g2]; simp only [okV]; cases m.f k <;> rfl
        · rw [g1]; simp only [okV]; cases m.f k <;> rfl
      · cases hx
    · rename_i t' ok' k m e1 e2
      simp only [List.cons.injEq, and_true, Option.some.injEq, Sum.inr.injEq, Value.int.injEq, Value.bool.injEq] at e1 e2
      obtain ⟨⟨_, rfl⟩, rfl, rfl⟩ := e1
      subst e2
      split at hx
      · rename_i hd
        have hx := Option.some.inj hx
        subst hx
        have ht : t = 67 := by have := of_decide_eq_true hd; omega
        subst ht
        obtain ⟨g1, g2⟩ := hH.2.look (e := 41) (by kernel_rfl) (zL w) hv
        cases ok
        · rw [g2]; simp only [okV]; cases m.f k <;> rfl
        · rw [g1]; simp only [okV]; cases m.f k <;> rfl
      · cases hx
    all_goals simp_all
  len t ty X x p F w hx hH := by
    unfold mpC at hx
    simp only at hx
    split at hx
    · simp_all
    · simp_all
    · rename_i t' m e1 e2
      simp only [List.cons.injEq, and_true, Option.some.injEq, Sum.inr.injEq, Value.int.injEq, true_and] at e1 e2
      obtain ⟨_, rfl⟩ := e1
      subst e2
      split at hx
      · rename_i hd
        have hx := Option.some.inj hx
        subst hx
        have ht : t = 68 := by have := of_decide_eq_true hd; omega
        subst ht
        exact hH.2.len (e := 3) (by kernel_rfl)
      · cases hx
    · rename_i t' m e1 e2
      simp only [List.cons.injEq, and_true, Option.some.injEq, Sum.inr.injEq, Value.int.injEq, true_and] at e1 e2
      obtain ⟨_, rfl⟩ := e1
      subst e2
      split at hx
      · rename_i hd
        have hx := Option.some.inj hx
        subst hx
        have ht : t = 67 := by have := of_decide_eq_true hd; omega
        subst ht
        exact hH.2.len (e := 41) (by kernel_rfl)
      · cases hx
    · cases hx
  set t key val X X' x p F w hx hX hH hv := by
    unfold mpC at hx
    simp only at hx
    split at hx
    · rename_i t' k v m e1 e2
      simp only [List.cons.injEq, and_true, Option.some.injEq, Sum.inr.injEq, Value.int.injEq, true_and] at e1 e2
      obtain ⟨⟨_, rfl⟩, rfl, rfl⟩ := e1
      subst e2
      split at hx
      · rename_i hd
        have hx := Option.some.inj hx
        subst hx
        have ht : t = 68 := by have := of_decide_eq_true hd; omega
        subst ht
        simp only [thing, List.cons.injEq, and_true, Option.some.injEq, Sum.inr.injEq] at hX
        subst hX
        obtain ⟨w', g1, g2, g3⟩ := hH.2.put (e := 3) (by kernel_rfl) hv.2 hv.1 v
        exact ⟨w', g1, ⟨hH.1, g2⟩, turned_kept g3 ((hH.1 _).2 rfl)⟩
      · cases hx
    · rename_i t' k a b c d e f m e1 e2
      simp only [List.cons.injEq, and_true, Option.some.injEq, Sum.inr.injEq, Value.int.injEq, true_and] at e1 e2
      obtain ⟨⟨_, rfl⟩, rfl, rfl⟩ := e1
      subst e2
      split at hx
      · rename_i hd
        have hx := Option.some.inj hx
        subst hx
        have ht : t = 67 := by have := of_decide_eq_true hd; omega
        subst ht
        simp only [thing, List.cons.injEq, and_true, Option.some.injEq, Sum.inr.injEq] at hX
        subst hX
        obtain ⟨w', g1, g2, g3⟩ := hH.2.put (e := 41) (by kernel_rfl) hv.2 hv.1 ⟨a, b, c, d, e, f⟩
        exact ⟨w', g1, ⟨hH.1, g2⟩, turned_kept g3 ((hH.1 _).2 rfl)⟩
      · cases hx
    all_goals simp_all
  del t k ty key X X' x p F w hx hX hH hv := by
    unfold mpC at hx
    simp only at hx
    split at hx
    · simp_all
    · simp_all
    · rename_i t' _ kt k' m e1 e2
      simp only [List.cons.injEq, and_true, Option.some.injEq, Sum.inr.injEq, Value.int.injEq, true_and] at e1 e2
      obtain ⟨⟨_, rfl⟩, _, ⟨_, rfl⟩, rfl⟩ := e1
      subst e2
      split at hx
      · rename_i hd
        have hx := Option.some.inj hx
        subst hx
        obtain ⟨h1, h2⟩ := of_decide_eq_true hd
        have ht : t = 68 := by omega
        have hk : k = 3 := by omega
        subst ht hk
        simp only [thing, List.cons.injEq, and_true, Option.some.injEq, Sum.inr.injEq] at hX
        subst hX
        obtain ⟨w', g1, g2, g3⟩ := hH.2.del (e := 3) (ty := ty) (by kernel_rfl) hv
        exact ⟨w', g1, ⟨hH.1, g2⟩, turned_kept g3 ((hH.1 _).2 rfl)⟩
      · cases hx
    · rename_i t' _ kt k' m e1 e2
      simp only [List.cons.injEq, and_true, Option.some.injEq, Sum.inr.injEq, Value.int.injEq, true_and] at e1 e2
      obtain ⟨⟨_, rfl⟩, _, ⟨_, rfl⟩, rfl⟩ := e1
      subst e2
      split at hx
      · rename_i hd
        have hx := Option.some.inj hx
        subst hx
        obtain ⟨h1, h2⟩ := of_decide_eq_true hd
        have ht : t = 67 := by omega
        have hk : k = 3 := by omega
        subst ht hk
        simp only [thing, List.cons.injEq, and_true, Option.some.injEq, Sum.inr.injEq] at hX
        subst hX
        obtain ⟨w', g1, g2, g3⟩ := hH.2.del (e := 41) (ty := ty) (by kernel_rfl) hv
        exact ⟨w', g1, ⟨hH.1, g2⟩, turned_kept g3 ((hH.1 _).2 rfl)⟩
      · cases hx
    · simp_all
    · cases hx
  make t X' x hx hX w := by
    have hx' : (match decide ((t : Int) = 68) with
      | true => some (⟨True, undef, none, [some (thing (.inl m0))], [], []⟩ : Out MF)
      | false => match decide ((t : Int) = 67) with
        | true => some ⟨True, undef, none, [some (thing (.inr m0))], [], []⟩
        | false => none) = some x := hx
    clear hx
    split at hx'
    · injection hx' with hx
      subst hx
      simp only [thing, List.cons.injEq, and_true, Option.some.injEq, Sum.inr.injEq] at hX
      subst hX
      exact ⟨fun k => Iff.rfl, mapH.make w⟩
    · split at hx'
      · injection hx' with hx
        subst hx
        simp only [thing, List.cons.injEq, and_true, Option.some.injEq, Sum.inr.injEq] at hX
        subst hX
        exact ⟨fun k => Iff.rfl, mapH.make w⟩
      · cases hx'
end Go.Proofs.YtobdpddamdkabaaDoor.Tg
