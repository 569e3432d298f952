/- Yd: TiRef, TiPool, TiOf, GvTree, GvFn, GvOk, GvD, GvTop, GvAvl, GvAvl2, GvAvl3, GvAvl4, GvAvl5, GvAvl6, GvLst, GvSt, GvSt2, GvSt3 -/
import Derived.Test.YtclagkjjgmeifaaYc
/- tide: the document's sums. -/
namespace Go.Proofs.Ytclagkjjgmeifaa.Ti
open Go.Proofs.Ytclagkjjgmeifaa.Rx
set_option linter.unusedVariables false
set_option linter.unusedSimpArgs false
set_option maxRecDepth 100000
/-- the sum of the first k -/
def psum (x : List Int) (k : Nat) : Int := (x.take k).sum
/-- the least of the sums of the first one, the first two, .., the first k -/
def lowTo (x : List Int) : Nat → Int
  | 0 => 0
  | 1 => psum x 1
  | k + 2 => min (lowTo x (k + 1)) (psum x (k + 2))
def low (x : List Int) : Int := lowTo x x.length
structure Small (x : List Int) : Prop where
  len : x.length ≤ 60
  lo : ∀ i, i < x.length → -1099511627776 ≤ x.getD i 0
  hi : ∀ i, i < x.length → x.getD i 0 ≤ 1099511627776
theorem psum_succ {x : List Int} {k : Nat} (h : k < x.length) : psum x (k + 1) = psum x k + x.getD k 0 := by
  unfold psum
  rw [take_succ_getD 0 h, List.sum_append]
  simp
theorem psum_bounds {x : List Int} (hx : Small x) : ∀ k, k ≤ x.length → -(k : Int) * 1099511627776 ≤ psum x k ∧ psum x k ≤ (k : Int) * 1099511627776
  | 0, _ => by simp [psum]
  | k + 1, h => by
    have h1 := psum_bounds hx k (by omega)
    have h2 := hx.lo k (by omega)
    have h3 := hx.hi k (by omega)
    rw [psum_succ (by omega)]
    omega
theorem psum_small {x : List Int} (hx : Small x) (k : Nat) (hk : k ≤ x.length) : -65970697666560 ≤ psum x k ∧ psum x k ≤ 65970697666560 := by
  have := psum_bounds hx k hk
  have := hx.len
  omega
def vI {R : Type} (l : List Int) : Option (SB R) := some (.inr (.inr (.inl ⟨[.int .i64 0], l.length, [⟨l, [], []⟩]⟩)))
def sumP {R : Type} : Prim R := fun args hh => match args, hh with
  | [.slice (some ⟨0, 0, some 1000⟩) n c, .int .i64 k], [some (.inr (.inr (.inl ⟨[.int .i64 0], n', [⟨x, [], []⟩]⟩)))] => some ⟨n = x.length ∧ n' = x.length ∧ Small x ∧ 0 ≤ k ∧ k ≤ x.length, .int .i64 (psum x k.toNat), none, hh, [], []⟩
  | _, _ => none
theorem sum_ok {R : Type} {D : Res R} : ConOk D Try.prog 25 (con1 sumP) := by
  refine con1_ok (prim_at (fn := Try.f25) (root := codeOf Try.f25) (by kernel_rfl) (by kernel_rfl) (by kernel_rfl) fun args hh x hx => ?_)
  unfold sumP at hx
  split at hx
  · rename_i n c k n' x
    injection hx with hx
    subst hx
    refine ⟨by first | exact Nat.le_refl _ | exact Nat.zero_le _ | exact Nat.le_succ _, noLit rfl, (fun hw => by first | rfl | cases hw), fun _ hv => ?_⟩
    obtain ⟨rfl, rfl, hx, hk0, hk⟩ := hv
    generalize hG : Rx.Ends (R := R) _ _ = G
    refine rx_ok (T := []) trivial mixed 200 ?_
    refine as_text (q := At D Try.prog (codeOf Try.f25) 1 (retK Try.prog (Array.toList (Func.results Try.f25)) G) [Sum.inl [1, 1, 0, 1, 0], Sum.inr (Sum.inl 0), Sum.inl [1, 1, 1]] (SS.mk [some (Value.slice (some (Addr.mk 0 0 (some 1000))) (List.length x) c), some (Value.int IntKind.i64 k), none, none, some (Value.int IntKind.i64 0), some (Value.int IntKind.i64 0), some (Value.int IntKind.i64 0), none, none, none, none, none, none, none, none, none, none, none, none] [] [some (Sum.inr (Sum.inr (Sum.inl (Row.mk [Value.int IntKind.i64 0] (List.length x) [Col.mk x [] []]))))])) ?_ (by kernel_rfl)
    refine loop_atM (by kernel_rfl) (ι := Nat) (fun i => i ≤ k.toNat) [0, 1, 5, 6] (fun i => [.slice (some ⟨0, 0, some 1000⟩) x.length c, .int .i64 k, .int .i64 (psum x i), .int .i64 i]) (fun i => [vI x]) (fun i => k.toNat - i) 19 (fun i hi => ⟨rfl, rfl, Nat.le_refl _⟩) ⟨0, Nat.zero_le _, ⟨[0], rfl, ⟨rfl, trivial⟩, rfl, rfl, rfl, rfl⟩⟩ fun i hi => ?_
    refine rx_ok (T := []) trivial mixed 200 ?_
    refine as_text (q := (decide ((↑i : Int) < k) = true → Vc ((0 : Int) ≤ (↑i : Int) ∧ (↑i : Int) < (↑(List.length x) : Int) ∧ 0 + List.length x ≤ List.length x) ∧ Vc (0 + Int.toNat (↑i : Int) < List.length x) ∧ Vc (fits (psum x i + List.getD x (0 + Int.toNat (↑i : Int)) (0 : Int))) ∧ Vc (fits ((↑i : Int) + (1 : Int))) ∧ Post (∃ j, j ≤ Int.toNat k ∧ Int.toNat k - j < Int.toNat k - i ∧ FitsM R 1 19 [0, 1, 5, 6] [Value.slice (some (Addr.mk 0 0 (some 1000))) (List.length x) c, Value.int IntKind.i64 k, Value.int IntKind.i64 (psum x j), Value.int IntKind.i64 (↑j : Int)] [vI x] [some (Value.slice (some (Addr.mk 0 0 (some 1000))) (List.length x) c), some (Value.int IntKind.i64 k), some (Value.int IntKind.i64 (psum x i + List.getD x (0 + Int.toNat (↑i : Int)) (0 : Int))), some (Value.int IntKind.i64 ((↑i : Int) + (1 : Int)))] [some (Sum.inr (Sum.inr (Sum.inl (Row.mk [Value.int IntKind.i64 0] (List.length x) [Col.mk x [] []]))))] 19)) ∧ (decide ((↑i : Int) < k) = false → Post (G (Value.int IntKind.i64 (psum x i)) [some (Sum.inr (Sum.inr (Sum.inl (Row.mk [Value.int IntKind.i64 0] (List.length x) [Col.mk x [] []]))))]))) ?_ (by kernel_rfl)
    refine ⟨fun h => ?_, fun h => ?_⟩
    · have hlt : (i : Int) < k := of_decide_eq_true h
      have e0 : 0 + (i : Int).toNat = i := by omega
      have b1 := psum_small hx i (by omega)
      have b2 := hx.lo i (by omega)
      have b3 := hx.hi i (by omega)
      have b4 := hx.len
      rw [e0]
      refine ⟨⟨by omega, by omega, by omega⟩, ⟨by omega⟩, ⟨⟨by omega, by omega⟩⟩, ⟨⟨by omega, by omega⟩⟩, ⟨i + 1, by omega, by omega, ⟨[0], ?_, ⟨rfl, trivial⟩, rfl, rfl, rfl, rfl⟩⟩⟩
      rw [← psum_succ (by omega)]
      rfl
    · have hlt : ¬ (i : Int) < k := of_decide_eq_false h
      obtain rfl : k = (i : Int) := by omega
      subst hG
      exact ⟨⟨⟨[0], rfl, rfl, ⟨rfl, trivial⟩, rfl, rfl, rfl, rfl⟩⟩⟩
  · cases hx
def z0 : Nat → Bool := fun j => Nat.beq j 0
theorem lowTo_succ {x : List Int} {k : Nat} (h : 0 < k) : lowTo x (k + 1) = min (lowTo x k) (psum x (k + 1)) := by
  cases k with
  | zero => omega
  | succ k => rfl
def TS {R : Type} : Tab R := [(25, liftV z0 2 (con1 sumP))]
end Go.Proofs.Ytclagkjjgmeifaa.Ti


/- tide: the calls. -/
namespace Go.Proofs.Ytclagkjjgmeifaa.Ti
open Go.Proofs.Ytclagkjjgmeifaa.Rx
set_option linter.unusedVariables false
set_option linter.unusedSimpArgs false
set_option maxRecDepth 100000
/-- a tide -/
structure Td where
  n : Int
  s : Int
  l : Int
def Td.v (t : Td) : Value := .agg ⟨[.int .i64 t.n, .int .i64 t.s, .int .i64 t.l]⟩
def w64 (x : Int) : Int := IntKind.i64.wrap x
def Td.plus (t u : Td) : Td := if t.n = 0 then u else if u.n = 0 then t else ⟨w64 (t.n + u.n), w64 (t.s + u.s), min t.l (w64 (t.s + u.l))⟩
def Td.least (t : Td) (x : Int) : Int := if t.n = 0 then x else min x (w64 (x + t.l))
def TW {R : Type} : Tab R := [(1000000000, wrapCon)]
theorem TW_ok {R : Type} {D : Res R} : TabOk D Try.prog (TW : Tab R) := ⟨wrapCon_ok, trivial⟩
def plusP {R : Type} : Prim R := fun args hh => match args, hh with
  | [.agg ⟨[.int .i64 n, .int .i64 s, .int .i64 l]⟩, .agg ⟨[.int .i64 n', .int .i64 s', .int .i64 l']⟩], [] => some ⟨True, .agg ⟨[.int .i64 (Td.plus ⟨n, s, l⟩ ⟨n', s', l'⟩).n, .int .i64 (Td.plus ⟨n, s, l⟩ ⟨n', s', l'⟩).s, .int .i64 (Td.plus ⟨n, s, l⟩ ⟨n', s', l'⟩).l]⟩, none, hh, [], []⟩
  | _, _ => none
theorem plus_ok {R : Type} {D : Res R} : ConOk D Try.prog 85 (con1 plusP) := by
  refine con1_ok (prim_at (fn := Try.f85) (root := codeOf Try.f85) (by kernel_rfl) (by kernel_rfl) (by kernel_rfl) fun args hh x hx => ?_)
  unfold plusP at hx
  split at hx
  · rename_i n s l n' s' l'
    injection hx with hx
    subst hx
    refine ⟨by first | exact Nat.le_refl _ | exact Nat.zero_le _ | exact Nat.le_succ _, noLit rfl, (fun hw => by first | rfl | cases hw), fun _ hv => ?_⟩
    generalize hG : Rx.Ends (R := R) _ _ = G
    refine rx_ok (T := TW) TW_ok mixed 200 ?_
    refine as_text (q := ((n == (0 : Int)) = true → Post (G (Value.agg (Array.mk [Value.int IntKind.i64 n', Value.int IntKind.i64 s', Value.int IntKind.i64 l'])) [some (Sum.inl (30, [Value.int IntKind.i64 n, Value.int IntKind.i64 s, Value.int IntKind.i64 l])), some (Sum.inl (30, [Value.int IntKind.i64 n', Value.int IntKind.i64 s', Value.int IntKind.i64 l'])), some (Sum.inl (30, [Value.int IntKind.i64 n', Value.int IntKind.i64 s', Value.int IntKind.i64 l']))])) ∧ ((n == (0 : Int)) = false → ((n' == (0 : Int)) = true → Post (G (Value.agg (Array.mk [Value.int IntKind.i64 n, Value.int IntKind.i64 s, Value.int IntKind.i64 l])) [some (Sum.inl (30, [Value.int IntKind.i64 n, Value.int IntKind.i64 s, Value.int IntKind.i64 l])), some (Sum.inl (30, [Value.int IntKind.i64 n', Value.int IntKind.i64 s', Value.int IntKind.i64 l'])), some (Sum.inl (30, [Value.int IntKind.i64 n, Value.int IntKind.i64 s, Value.int IntKind.i64 l]))])) ∧ ((n' == (0 : Int)) = false → Vc True ∧ Vc True ∧ Vc True ∧ Post (G (Value.agg (Array.mk [Value.int IntKind.i64 (IntKind.wrap IntKind.i64 (n + n')), Value.int IntKind.i64 (IntKind.wrap IntKind.i64 (s + s')), Value.int IntKind.i64 (if IntKind.wrap IntKind.i64 (s + l') < l then IntKind.wrap IntKind.i64 (s + l') else l)])) [some (Sum.inl (30, [Value.int IntKind.i64 n, Value.int IntKind.i64 s, Value.int IntKind.i64 l])), some (Sum.inl (30, [Value.int IntKind.i64 n', Value.int IntKind.i64 s', Value.int IntKind.i64 l'])), some (Sum.inl (30, [Value.int IntKind.i64 (IntKind.wrap IntKind.i64 (n + n')), Value.int IntKind.i64 (IntKind.wrap IntKind.i64 (s + s')), Value.int IntKind.i64 (if IntKind.wrap IntKind.i64 (s + l') < l then IntKind.wrap IntKind.i64 (s + l') else l)]))])))) ?_ (by kernel_rfl)
    have fin : ∀ (t : Td) (hp : Hp R), t = Td.plus ⟨n, s, l⟩ ⟨n', s', l'⟩ → G t.v hp := by
      intro t hp ht
      subst ht
      subst hG
      exact ⟨⟨[], rfl, rfl, trivial, rfl, rfl, rfl, rfl⟩⟩
    clear hG
    refine ⟨fun h => ⟨?_⟩, fun h => ⟨fun h' => ⟨?_⟩, fun h' => ⟨⟨trivial⟩, ⟨trivial⟩, ⟨trivial⟩, ⟨?_⟩⟩⟩⟩
    · exact fin ⟨n', s', l'⟩ _ (by rw [Td.plus, if_pos (eq_of_beq h)])
    · exact fin ⟨n, s, l⟩ _ (by rw [Td.plus, if_neg (ne_of_beq_false h), if_pos (eq_of_beq h')])
    · have e : ∀ p q : Int, (if p < q then p else q) = min q p := fun p q => by split <;> omega
      refine fin ⟨w64 (n + n'), w64 (s + s'), if w64 (s + l') < l then w64 (s + l') else l⟩ _ ?_
      rw [Td.plus, if_neg (ne_of_beq_false h), if_neg (ne_of_beq_false h')]
      simp only [e]
  · cases hx
/-- the tide of numbers -/
def tideOf (x : List Int) : Td := ⟨x.length, psum x x.length, low x⟩
theorem w64_of {x : Int} (h : -9223372036854775808 ≤ x ∧ x ≤ 9223372036854775807) : w64 x = x := fits_wrap ⟨h.1, h.2⟩
theorem psum_append {y z : List Int} (j : Nat) : psum (y ++ z) (y.length + j) = psum y y.length + psum z j := by
  unfold psum
  rw [List.take_length_add_append, List.sum_append, List.take_length]
theorem psum_left {y z : List Int} {k : Nat} (h : k ≤ y.length) : psum (y ++ z) k = psum y k := by
  unfold psum
  rw [List.take_append_of_le_length h]
theorem lowTo_left {y z : List Int} : ∀ k, k ≤ y.length → lowTo (y ++ z) k = lowTo y k
  | 0, _ => rfl
  | 1, h => psum_left h
  | k + 2, h => by
    simp only [lowTo]
    rw [lowTo_left (k + 1) (by omega), psum_left h]
theorem lowTo_append {y z : List Int} (hy : y.length ≠ 0) : ∀ j, 1 ≤ j → j ≤ z.length → lowTo (y ++ z) (y.length + j) = min (lowTo y y.length) (psum y y.length + lowTo z j)
  | 0, h, _ => by omega
  | 1, _, h => by
    rw [lowTo_succ (show 0 < y.length by omega), lowTo_left y.length (Nat.le_refl _), psum_append]
    rfl
  | j + 2, _, h => by
    have ih := lowTo_append (z := z) hy (j + 1) (by omega) (by omega)
    rw [show y.length + (j + 2) = y.length + (j + 1) + 1 by omega, lowTo_succ (show 0 < y.length + (j + 1) by omega), ih, show y.length + (j + 1) + 1 = y.length + (j + 2) by omega, psum_append]
    simp only [lowTo]
    omega
theorem getD_left {y z : List Int} {i : Nat} (h : i < y.length) : (y ++ z).getD i 0 = y.getD i 0 := by
  simp only [List.getD_eq_getElem?_getD, List.getElem?_append_left h]
theorem getD_right {y z : List Int} {i : Nat} : (y ++ z).getD (y.length + i) 0 = z.getD i 0 := by
  simp only [List.getD_eq_getElem?_getD]
  rw [List.getElem?_append_right (by omega), Nat.add_sub_cancel_left]
theorem Small.left {y z : List Int} (h : Small (y ++ z)) : Small y := by
  obtain ⟨h1, h2, h3⟩ := h
  simp only [List.length_append] at h1 h2 h3
  refine ⟨by omega, fun i hi => ?_, fun i hi => ?_⟩
  · have := h2 i (by omega); rwa [getD_left hi] at this
  · have := h3 i (by omega); rwa [getD_left hi] at this
theorem Small.right {y z : List Int} (h : Small (y ++ z)) : Small z := by
  obtain ⟨h1, h2, h3⟩ := h
  simp only [List.length_append] at h1 h2 h3
  refine ⟨by omega, fun i hi => ?_, fun i hi => ?_⟩
  · have := h2 (y.length + i) (by omega); rwa [getD_right] at this
  · have := h3 (y.length + i) (by omega); rwa [getD_right] at this
end Go.Proofs.Ytclagkjjgmeifaa.Ti


/- tide: Of. -/
namespace Go.Proofs.Ytclagkjjgmeifaa.Ti
open Go.Proofs.Ytclagkjjgmeifaa.Rx
set_option linter.unusedVariables false
set_option linter.unusedSimpArgs false
set_option maxRecDepth 100000
def TP {R : Type} : Tab R := [(85, liftC zN 2 (con1 plusP))]
theorem TP_ok {R : Type} {D : Res R} : TabOk D Try.prog TP := ⟨liftC_ok _ _ plus_ok, trivial⟩
end Go.Proofs.Ytclagkjjgmeifaa.Ti


/- grove: pools of nodes, and the trees in them, as plain data. -/
namespace Go.Proofs.Ytclagkjjgmeifaa.Gv
open Go.Proofs.Ytclagkjjgmeifaa.Rx
set_option linter.unusedVariables false
set_option linter.unusedSimpArgs false
abbrev W (n : Int) : Int := IntKind.i64.wrap n
theorem W_of {n : Int} (h : -9223372036854775808 ≤ n ∧ n ≤ 9223372036854775807) : W n = n := fits_wrap ⟨h.1, h.2⟩
theorem W_W (a b : Int) : W (W a + b) = W (a + b) := by
  unfold W
  rw [IntKind.wrap_i64, IntKind.wrap_i64, IntKind.wrap_i64]
  omega
/-- a handle -/
structure Ref where
  i : Int
  g : Int
instance : DecidableEq Ref := fun a b => decidable_of_iff (a.i = b.i ∧ a.g = b.g) ⟨fun h => by cases a; cases b; cases h.1; cases h.2; rfl, fun h => by cases h; exact ⟨rfl, rfl⟩⟩
def r0 : Ref := ⟨0, 0⟩
/-- a pool: the cells' values, Gens, whether held; the free ones, the next one last -/
structure PM (N : Type) where
  vs : List N
  gens : List Int
  live : List Bool
  free : List Int
  held : Int
  cap : Int
  visits : Int
section
variable {N : Type}
def has (m : PM N) (r : Ref) : Bool := decide (0 ≤ r.i) && decide (r.i < m.vs.length) && m.live.getD r.i.toNat false && decide (m.gens.getD r.i.toNat 0 = r.g)
def look (z : N) (m : PM N) (r : Ref) : N := if has m r then m.vs.getD r.i.toNat z else z
def seen (m : PM N) : PM N := { m with visits := W (m.visits + 1) }
def see (m : PM N) (r : Ref) : PM N := if has m r then seen m else m
def put1 (m : PM N) (r : Ref) (n : N) : PM N := if has m r then { seen m with vs := m.vs.set r.i.toNat n } else m
def nextIdx (m : PM N) : Int := if m.free.length = 0 then (m.vs.length : Int) else m.free.getD (m.free.length - 1) 0
def nextPM (z : N) (m : PM N) : PM N := if m.free.length = 0 then { m with vs := m.vs ++ [z], gens := m.gens ++ [0], live := m.live ++ [false] } else { m with free := m.free.take (m.free.length - 1) }
def putG (z : N) (m : PM N) : Int := (nextPM z m).gens.getD (nextIdx m).toNat 0 + 1
def put (z : N) (m : PM N) (v : N) : PM N :=
  if m.held = m.cap then m else
    { nextPM z m with vs := (nextPM z m).vs.set (nextIdx m).toNat v, live := (nextPM z m).live.set (nextIdx m).toNat true, gens := (nextPM z m).gens.set (nextIdx m).toNat (putG z m), held := m.held + 1 }
def putR (z : N) (m : PM N) : Ref := if m.held = m.cap then r0 else ⟨nextIdx m, putG z m⟩
def drop (z : N) (m : PM N) (r : Ref) : PM N :=
  if has m r then { seen m with vs := m.vs.set r.i.toNat z, live := m.live.set r.i.toNat false, held := m.held - 1, free := if m.gens.getD r.i.toNat 0 < 4294967295 then m.free ++ [r.i] else m.free } else m
/-- a pool that is sound, all of whose numbers are at most n -/
structure POk (n : Nat) (m : PM N) : Prop where
  gens : m.gens.length = m.vs.length
  live : m.live.length = m.vs.length
  inn : ∀ f ∈ m.free, 0 ≤ f ∧ f < m.vs.length ∧ m.live.getD f.toNat false = false
  nod : m.free.Nodup
  cells : m.vs.length ≤ n
  frees : m.free.length ≤ n
  gen : ∀ g ∈ m.gens, 0 ≤ g ∧ g ≤ n
  pos : ∀ i, m.live.getD i false = true → 1 ≤ m.gens.getD i 0
  hld : -n ≤ m.held ∧ m.held ≤ n
theorem POk.mono {m : PM N} {n k : Nat} (h : POk n m) (hk : n ≤ k) : POk k m := by
  obtain ⟨h1, h2, h3, h3', h4, h5, h6, h6', h8⟩ := h
  exact ⟨h1, h2, h3, h3', by omega, by omega, fun g hg => by have := h6 g hg; omega, h6', by omega⟩
theorem has_spec {m : PM N} {r : Ref} (h : has m r = true) : 0 ≤ r.i ∧ r.i < m.vs.length ∧ m.live.getD r.i.toNat false = true ∧ m.gens.getD r.i.toNat 0 = r.g := by
  simp only [has, Bool.and_eq_true, decide_eq_true_eq] at h
  obtain ⟨⟨⟨w1, w2⟩, w3⟩, w4⟩ := h
  exact ⟨w1, w2, w3, w4⟩
theorem has_iff {m : PM N} {r : Ref} : has m r = true ↔ 0 ≤ r.i ∧ r.i < m.vs.length ∧ m.live.getD r.i.toNat false = true ∧ m.gens.getD r.i.toNat 0 = r.g := by
  simp only [has, Bool.and_eq_true, decide_eq_true_eq, and_assoc]
theorem POk.z0 {m : PM N} {n : Nat} (h : POk n m) : has m r0 = false := by
  cases hh : has m r0 with
  | false => rfl
  | true =>
    obtain ⟨_, _, w3, w4⟩ := has_spec hh
    have := h.pos _ w3
    rw [w4] at this
    simp [r0] at this
theorem gens_bound {l : List Int} {i n : Nat} (h : ∀ g ∈ l, 0 ≤ g ∧ g ≤ (n : Int)) : 0 ≤ l.getD i 0 ∧ l.getD i 0 ≤ n := by
  rcases Nat.lt_or_ge i l.length with hl | hl
  · exact h _ (getD_mem hl)
  · rw [List.getD_eq_getElem?_getD, List.getElem?_eq_none hl]
    simp
@[simp] theorem has_seen (m : PM N) (r : Ref) : has (seen m) r = has m r := rfl
@[simp] theorem look_seen (z : N) (m : PM N) (r : Ref) : look z (seen m) r = look z m r := rfl
@[simp] theorem has_see (m : PM N) (s r : Ref) : has (see m s) r = has m r := by unfold see; split <;> rfl
@[simp] theorem look_see (z : N) (m : PM N) (s r : Ref) : look z (see m s) r = look z m r := by unfold see; split <;> rfl
/-- what behind m is as m, but for the nodes in S; at most k handles found -/
structure Upd (S : List Ref) (k : Nat) (z : N) (m m' : PM N) : Prop where
  gens : m'.gens = m.gens
  live : m'.live = m.live
  free : m'.free = m.free
  held : m'.held = m.held
  cap : m'.cap = m.cap
  len : m'.vs.length = m.vs.length
  look : ∀ r, r ∉ S → look z m' r = look z m r
  vis : ∃ j : Nat, j ≤ k ∧ (m'.visits = m.visits ∧ j = 0 ∨ m'.visits = W (m.visits + j))
theorem Upd.has {S : List Ref} {k : Nat} {z : N} {m m' : PM N} (h : Upd S k z m m') (r : Ref) : has m' r = has m r := by
  unfold Gv.has
  rw [h.len, h.live, h.gens]
theorem Upd.refl (S : List Ref) (k : Nat) (z : N) (m : PM N) : Upd S k z m m := ⟨rfl, rfl, rfl, rfl, rfl, rfl, fun _ _ => rfl, 0, Nat.zero_le _, .inl ⟨rfl, rfl⟩⟩
theorem Upd.trans {S S' : List Ref} {k k' : Nat} {z : N} {a b c : PM N} (h : Upd S k z a b) (h' : Upd S' k' z b c) : Upd (S ++ S') (k + k') z a c := by
  refine ⟨h'.gens.trans h.gens, h'.live.trans h.live, h'.free.trans h.free, h'.held.trans h.held, h'.cap.trans h.cap, h'.len.trans h.len, fun r hr => ?_, ?_⟩
  · rw [List.mem_append, not_or] at hr
    rw [h'.look r hr.2, h.look r hr.1]
  · obtain ⟨j, hj, e⟩ := h.vis
    obtain ⟨j', hj', e'⟩ := h'.vis
    refine ⟨j + j', by omega, ?_⟩
    rcases e with ⟨e, rfl⟩ | e <;> rcases e' with ⟨e', rfl⟩ | e'
    · exact .inl ⟨e'.trans e, rfl⟩
    · right; rw [e', e]; congr 1; omega
    · right; rw [e', e]; congr 1
    · right; rw [e', e, W_W]; congr 1; omega
theorem Upd.mono {S S' : List Ref} {k k' : Nat} {z : N} {a b : PM N} (h : Upd S k z a b) (hS : ∀ r, r ∈ S → r ∈ S') (hk : k ≤ k') : Upd S' k' z a b := by
  obtain ⟨j, hj, e⟩ := h.vis
  exact ⟨h.gens, h.live, h.free, h.held, h.cap, h.len, fun r hr => h.look r (fun hr' => hr (hS r hr')), j, Nat.le_trans hj hk, e⟩
theorem Upd.to {S S1 S2 : List Ref} {k k1 k2 : Nat} {z : N} {a b c : PM N} (h : Upd S1 k1 z a b) (h' : Upd S2 k2 z b c) (hS : ∀ r, r ∈ S1 ∨ r ∈ S2 → r ∈ S) (hk : k1 + k2 ≤ k) : Upd S k z a c :=
  (h.trans h').mono (fun r hr => hS r (List.mem_append.1 hr)) hk
theorem Upd.ok {S : List Ref} {k n : Nat} {z : N} {m m' : PM N} (h : Upd S k z m m') (ho : POk n m) : POk n m' := by
  obtain ⟨h1, h2, h3, h3', h4, h5, h6, h6', h8⟩ := ho
  exact ⟨by rw [h.gens, h.len, h1], by rw [h.live, h.len, h2], by rw [h.free, h.len, h.live]; exact h3, by rw [h.free]; exact h3', by rw [h.len]; exact h4, by rw [h.free]; exact h5, by rw [h.gens]; exact h6, by rw [h.gens, h.live]; exact h6', by rw [h.held]; exact h8⟩
theorem see_upd (z : N) (m : PM N) (r : Ref) : Upd [] 1 z m (see m r) := by
  refine ⟨?_, ?_, ?_, ?_, ?_, ?_, fun s _ => look_see z m r s, ?_⟩
  all_goals unfold see; split
  all_goals first | rfl | exact ⟨1, Nat.le_refl _, .inr rfl⟩ | exact ⟨0, Nat.zero_le _, .inl ⟨rfl, rfl⟩⟩
theorem ref_of_idx {m : PM N} {r s : Ref} (hr : has m r = true) (hs : has m s = true) (h : r.i.toNat = s.i.toNat) : r = s := by
  obtain ⟨a1, a2, a3, a4⟩ := has_spec hr
  obtain ⟨b1, b2, b3, b4⟩ := has_spec hs
  cases r; cases s
  simp only [Ref.mk.injEq] at *
  refine ⟨by omega, ?_⟩
  rw [← a4, ← b4, h]
theorem put1_upd (z : N) (m : PM N) (r : Ref) (n : N) : Upd [r] 1 z m (put1 m r n) := by
  by_cases h : has m r = true
  · have e : put1 m r n = { seen m with vs := m.vs.set r.i.toNat n } := by unfold put1; rw [if_pos h]
    refine ⟨by rw [e]; rfl, by rw [e]; rfl, by rw [e]; rfl, by rw [e]; rfl, by rw [e]; rfl, by rw [e]; simp, fun s hs => ?_, 1, Nat.le_refl _, .inr (by rw [e]; rfl)⟩
    have hne : s ≠ r := by simpa using hs
    have hh : has (put1 m r n) s = has m s := by rw [e]; simp only [has, seen, List.length_set]; rfl
    unfold look
    rw [hh]
    split
    · rename_i h2
      rw [e]
      simp only
      rw [getD_set, if_neg]
      intro ⟨h3, _⟩
      exact hne (ref_of_idx h2 h h3.symm)
    · rfl
  · have e : put1 m r n = m := by unfold put1; rw [if_neg h]
    rw [e]
    exact Upd.refl _ _ _ _
theorem look_put1 (z : N) {m : PM N} {r : Ref} (n : N) (h : has m r = true) : look z (put1 m r n) r = n := by
  have hh := (put1_upd z m r n).has r
  unfold look
  rw [hh, if_pos h]
  unfold put1
  rw [if_pos h]
  simp only
  obtain ⟨a1, a2, _, _⟩ := has_spec h
  rw [getD_set, if_pos ⟨rfl, by omega⟩]
theorem nextIdx_ok {m : PM N} {n : Nat} (z : N) (h : POk n m) : 0 ≤ nextIdx m ∧ nextIdx m < (nextPM z m).vs.length ∧ m.live.getD (nextIdx m).toNat false = false ∧ (nextPM z m).live.getD (nextIdx m).toNat false = false ∧ (nextPM z m).live.length = (nextPM z m).vs.length ∧ (nextPM z m).gens.length = (nextPM z m).vs.length := by
  unfold nextIdx nextPM
  by_cases h0 : m.free.length = 0
  · rw [if_pos h0, if_pos h0]
    simp only [List.length_append, List.length_singleton]
    have h1 := h.live
    have h2 := h.gens
    refine ⟨by omega, by omega, ?_, ?_, by omega, by omega⟩
    · rw [List.getD_eq_getElem?_getD, List.getElem?_eq_none (by omega)]; rfl
    · rw [getD_append1, if_pos (by omega)]
  · rw [if_neg h0, if_neg h0]
    obtain ⟨a, b, c⟩ := h.inn _ (getD_mem (d := 0) (i := m.free.length - 1) (by omega))
    exact ⟨a, b, c, c, h.live, h.gens⟩
theorem next_look (z : N) {m : PM N} {n : Nat} (h : POk n m) (r : Ref) (hr : has m r = true) : (nextPM z m).vs.getD r.i.toNat z = m.vs.getD r.i.toNat z ∧ (nextPM z m).live.getD r.i.toNat false = true ∧ (nextPM z m).gens.getD r.i.toNat 0 = r.g ∧ r.i < (nextPM z m).vs.length := by
  obtain ⟨a1, a2, a3, a4⟩ := has_spec hr
  have h1 := h.live
  have h2 := h.gens
  unfold nextPM
  split
  · simp only [getD_append1, List.length_append, List.length_singleton]
    rw [if_neg (by omega), if_neg (by omega), if_neg (by omega)]
    exact ⟨rfl, a3, a4, by omega⟩
  · exact ⟨rfl, a3, a4, a2⟩
/-- a node more: its handle is new, all others are as they were -/
structure Put1 (z : N) (m m' : PM N) (r : Ref) (v : N) : Prop where
  new : has m r = false
  has : has m' r = true
  look : look z m' r = v
  old : ∀ s, Gv.has m s = true → Gv.has m' s = true ∧ Gv.look z m' s = Gv.look z m s
  held : m'.held = m.held + 1
  cap : m'.cap = m.cap
  vis : m'.visits = m.visits
theorem put_ok {m : PM N} {n : Nat} (z : N) (h : POk n m) (hc : m.held ≠ m.cap) (v : N) : Put1 z m (put z m v) (putR z m) v ∧ POk (n + 1) (put z m v) := by
  obtain ⟨a, b, c, c', d, e⟩ := nextIdx_ok z h
  have ep : put z m v = { nextPM z m with vs := (nextPM z m).vs.set (nextIdx m).toNat v, live := (nextPM z m).live.set (nextIdx m).toNat true, gens := (nextPM z m).gens.set (nextIdx m).toNat (putG z m), held := m.held + 1 } := by unfold put; rw [if_neg hc]
  have er : putR z m = ⟨nextIdx m, putG z m⟩ := by unfold putR; rw [if_neg hc]
  have hnew : has (put z m v) (putR z m) = true := by
    rw [has_iff, er, ep]
    simp only [List.length_set, getD_set]
    refine ⟨a, b, ?_, ?_⟩
    · rw [if_pos (by first | exact ⟨rfl, by omega⟩ | exact ⟨trivial, by omega⟩)]
    · rw [if_pos (by first | exact ⟨rfl, by omega⟩ | exact ⟨trivial, by omega⟩)]
  have hold : ∀ s, has m s = true → has (put z m v) s = true ∧ look z (put z m v) s = look z m s := by
    intro s hs
    obtain ⟨q1, q2, q3, q4⟩ := next_look z h s hs
    obtain ⟨s1, s2, s3, s4⟩ := has_spec hs
    have hne : ¬ (nextIdx m).toNat = s.i.toNat := by intro e2; rw [e2, s3] at c; cases c
    have hh : has (put z m v) s = true := by
      rw [has_iff, ep]
      simp only [List.length_set, getD_set]
      rw [if_neg (fun x => hne x.1), if_neg (fun x => hne x.1)]
      exact ⟨s1, q4, q2, q3⟩
    refine ⟨hh, ?_⟩
    unfold look
    rw [if_pos hh, if_pos hs, ep]
    simp only [getD_set]
    rw [if_neg (fun x => hne x.1), q1]
  refine ⟨⟨?_, hnew, ?_, hold, ?_, ?_, ?_⟩, ?_⟩
  · cases hh : has m (putR z m) with
    | false => rfl
    | true =>
      obtain ⟨_, _, s3, _⟩ := has_spec hh
      rw [er] at s3
      rw [s3] at c
      cases c
  · unfold look
    rw [if_pos hnew, er, ep]
    simp only [getD_set]
    rw [if_pos (by first | exact ⟨rfl, by omega⟩ | exact ⟨trivial, by omega⟩)]
  · rw [ep]
  · rw [ep]; simp only [nextPM]; split <;> rfl
  · rw [ep]; simp only [nextPM]; split <;> rfl
  · obtain ⟨h1, h2, h3, h3', h4, h5, h6, h6', h8⟩ := h
    have hgb := gens_bound (i := (nextIdx m).toNat) h6
    have hpg : 1 ≤ putG z m ∧ putG z m ≤ n + 1 := by
      unfold putG nextPM
      split
      · simp only [getD_append1]
        split
        · omega
        · omega
      · simp only; omega
    rw [ep]
    refine ⟨by simp only [List.length_set]; exact e, by simp only [List.length_set]; exact d, ?_, ?_, ?_, ?_, ?_, ?_, by simp only; omega⟩
    · intro f hf
      have hff : f ∈ m.free ∧ f ≠ nextIdx m ∧ ¬ m.free.length = 0 := by
        simp only at hf
        unfold nextPM at hf
        split at hf
        · rename_i h0
          simp only at hf
          rw [List.eq_nil_of_length_eq_zero h0] at hf
          cases hf
        · rename_i h0
          simp only at hf
          refine ⟨List.mem_of_mem_take hf, ?_, h0⟩
          intro e2
          unfold nextIdx at e2
          rw [if_neg h0] at e2
          subst e2
          have hsplit : m.free = m.free.take (m.free.length - 1) ++ [m.free.getD (m.free.length - 1) 0] := by
            have := take_succ_getD (l := m.free) (i := m.free.length - 1) 0 (by omega)
            rw [← this, List.take_of_length_le (by omega)]
          rw [hsplit, List.nodup_append] at h3'
          exact h3'.2.2 _ hf _ (List.mem_singleton_self _) rfl
      obtain ⟨k1, k2, k3⟩ := h3 f hff.1
      simp only [List.length_set, getD_set]
      have hne : ¬ (nextIdx m).toNat = f.toNat := fun e2 => hff.2.1 (by omega)
      rw [if_neg (fun x => hne x.1)]
      have e3 : (nextPM z m).live = m.live ∧ (nextPM z m).vs = m.vs := by unfold nextPM; rw [if_neg hff.2.2]; exact ⟨rfl, rfl⟩
      rw [e3.1, e3.2]
      exact ⟨k1, k2, k3⟩
    · simp only
      unfold nextPM
      split
      · exact h3'
      · exact (List.take_sublist _ _).nodup h3'
    · simp only [List.length_set]
      unfold nextPM
      split
      · simp only [List.length_append, List.length_singleton]; omega
      · simp only; omega
    · simp only
      unfold nextPM
      split
      · simp only; omega
      · simp only [List.length_take]; omega
    · intro g hg
      simp only at hg
      rcases List.mem_or_eq_of_mem_set hg with hg | hg
      · unfold nextPM at hg
        split at hg
        · simp only at hg
          rcases List.mem_append.1 hg with hg | hg
          · have := h6 g hg; omega
          · simp at hg; omega
        · have := h6 g hg; omega
      · omega
    · intro i hi
      simp only [getD_set] at hi ⊢
      by_cases hx : (nextIdx m).toNat = i
      · rw [if_pos ⟨hx, by omega⟩]; omega
      · rw [if_neg (fun x => hx x.1)] at hi ⊢
        unfold nextPM at hi ⊢
        split at hi
        · rename_i h0
          rw [if_pos h0]
          simp only [getD_append1] at hi ⊢
          split at hi
          · cases hi
          · rename_i h00
            have := h6' i hi
            rw [if_neg (by omega)]
            exact this
        · rename_i h0
          rw [if_neg h0]
          exact h6' i hi
/-- a node less -/
theorem drop_ok {m : PM N} {n : Nat} (z : N) (h : POk n m) {r : Ref} (hr : has m r = true) : POk (n + 1) (drop z m r) ∧ (∀ s, s ≠ r → has (drop z m r) s = has m s ∧ look z (drop z m r) s = look z m s) ∧ has (drop z m r) r = false ∧ (drop z m r).held = m.held - 1 ∧ (drop z m r).cap = m.cap ∧ (drop z m r).visits = W (m.visits + 1) := by
  obtain ⟨r1, r2, r3, r4⟩ := has_spec hr
  obtain ⟨h1, h2, h3, h3', h4, h5, h6, h6', h8⟩ := h
  have e : drop z m r = { seen m with vs := m.vs.set r.i.toNat z, live := m.live.set r.i.toNat false, held := m.held - 1, free := if m.gens.getD r.i.toNat 0 < 4294967295 then m.free ++ [r.i] else m.free } := by unfold drop; rw [if_pos hr]
  have hrn : r.i ∉ m.free := fun hf => by
    obtain ⟨_, _, k⟩ := h3 _ hf
    rw [r3] at k; cases k
  refine ⟨⟨?_, ?_, ?_, ?_, ?_, ?_, ?_, ?_, ?_⟩, ?_, ?_, by rw [e], by rw [e]; rfl, by rw [e]; rfl⟩
  · rw [e]; simp only [List.length_set]; exact h1
  · rw [e]; simp only [List.length_set]; exact h2
  · rw [e]
    simp only [List.length_set, getD_set]
    intro f hf
    have hh : f = r.i ∨ f ∈ m.free := by
      split at hf
      · rcases List.mem_append.1 hf with hf | hf
        · exact .inr hf
        · exact .inl (by simpa using hf)
      · exact .inr hf
    rcases hh with rfl | hf
    · exact ⟨r1, r2, by rw [if_pos (by first | exact ⟨rfl, by omega⟩ | exact ⟨trivial, by omega⟩)]⟩
    · obtain ⟨k1, k2, k3⟩ := h3 f hf
      refine ⟨k1, k2, ?_⟩
      split
      · rfl
      · exact k3
  · rw [e]
    simp only
    split
    · rw [List.nodup_append]
      refine ⟨h3', List.nodup_cons.2 ⟨by simp, List.nodup_nil⟩, fun a ha b hb => ?_⟩
      have : b = r.i := by simpa using hb
      subst this
      exact fun e2 => hrn (e2 ▸ ha)
    · exact h3'
  · rw [e]; simp only [List.length_set]; omega
  · rw [e]
    simp only
    split
    · simp only [List.length_append, List.length_singleton]; omega
    · omega
  · rw [e]; simp only [seen]; intro g hg; have := h6 g hg; omega
  · rw [e]
    simp only [seen, getD_set]
    intro i hi
    split at hi
    · cases hi
    · exact h6' i hi
  · rw [e]; simp only; omega
  · intro s hs
    have hh : has (drop z m r) s = has m s := by
      rw [e]
      unfold has
      simp only [List.length_set, seen, getD_set]
      by_cases hx : r.i.toNat = s.i.toNat ∧ r.i.toNat < m.live.length
      · rw [if_pos hx]
        by_cases hs2 : has m s = true
        · exact absurd (ref_of_idx hs2 hr hx.1.symm) hs
        · have hs3 : has m s = false := by simpa using hs2
          unfold has at hs3
          rw [hs3]; simp
      · rw [if_neg hx]; rfl
    refine ⟨hh, ?_⟩
    unfold look
    rw [hh]
    split
    · rename_i h2
      rw [e]
      simp only [getD_set]
      rw [if_neg]
      intro ⟨h3, _⟩
      exact hs (ref_of_idx h2 hr h3.symm)
    · rfl
  · cases hh : has (drop z m r) r with
    | false => rfl
    | true =>
      obtain ⟨_, _, k, _⟩ := has_spec hh
      rw [e] at k
      simp only [getD_set] at k
      rw [if_pos (by first | exact ⟨rfl, by omega⟩ | exact ⟨trivial, by omega⟩)] at k
      cases k
end
end Go.Proofs.Ytclagkjjgmeifaa.Gv


/- grove: what its functions do to a pool, as plain functions; the trees that are there behind them. -/
namespace Go.Proofs.Ytclagkjjgmeifaa.Gv
open Go.Proofs.Ytclagkjjgmeifaa.Rx
set_option linter.unusedVariables false
set_option linter.unusedSimpArgs false
set_option linter.unusedSectionVars false
/-- elements and sums -/
structure Ops (E A : Type) where
  e0 : E
  a0 : A
  cmp : E → E → Int
  sum : E → A
  plus : A → A → A
structure Part (A : Type) where
  n : Int
  sum : A
structure Node (E A : Type) where
  e : E
  l : Ref
  r : Ref
  all : Part A
  h : Int
abbrev Po (E A : Type) := PM (Node E A)
def mx (a b : Int) : Int := if b > a then b else a
def mn (a b : Int) : Int := if b < a then b else a
section
variable {E A : Type} (O : Ops E A)
def zn : Node E A := ⟨O.e0, r0, r0, ⟨0, O.a0⟩, 0⟩
def lk (m : Po E A) (r : Ref) : Node E A := look (zn O) m r
def one (e : E) : Part A := ⟨1, O.sum e⟩
def plusP (p q : Part A) : Part A := if p.n = 0 then q else if q.n = 0 then p else ⟨W (p.n + q.n), O.plus p.sum q.sum⟩
def setN (m : Po E A) (r : Ref) (n l q : Node E A) : Po E A := put1 m r ⟨n.e, n.l, n.r, plusP O (plusP O l.all (one O n.e)) q.all, W (1 + mx l.h q.h)⟩
def tie (m : Po E A) (r : Ref) (n : Node E A) : Po E A := setN O (see (see m n.l) n.r) r n (lk O m n.l) (lk O (see m n.l) n.r)
def turnL (m : Po E A) (r : Ref) (n : Node E A) : Po E A :=
  tie O (tie O (see m n.r) r ⟨n.e, n.l, (lk O m n.r).l, n.all, n.h⟩) n.r ⟨(lk O m n.r).e, r, (lk O m n.r).r, (lk O m n.r).all, (lk O m n.r).h⟩
def turnR (m : Po E A) (r : Ref) (n : Node E A) : Po E A :=
  tie O (tie O (see m n.l) r ⟨n.e, (lk O m n.l).r, n.r, n.all, n.h⟩) n.l ⟨(lk O m n.l).e, (lk O m n.l).l, r, (lk O m n.l).all, (lk O m n.l).h⟩
def level (m : Po E A) (r : Ref) (n : Node E A) : Ref × Po E A :=
  if (lk O m n.l).h > W ((lk O (see m n.l) n.r).h + 1) then
    if (lk O (see (see m n.l) n.r) (lk O m n.l).r).h > (lk O (see (see (see m n.l) n.r) (lk O m n.l).r) (lk O m n.l).l).h then
      ((lk O m n.l).r, turnR O (turnL O (see (see (see (see m n.l) n.r) (lk O m n.l).r) (lk O m n.l).l) n.l (lk O m n.l)) r ⟨n.e, (lk O m n.l).r, n.r, n.all, n.h⟩)
    else (n.l, turnR O (see (see (see (see m n.l) n.r) (lk O m n.l).r) (lk O m n.l).l) r n)
  else if (lk O (see m n.l) n.r).h > W ((lk O m n.l).h + 1) then
    if (lk O (see (see m n.l) n.r) (lk O (see m n.l) n.r).l).h > (lk O (see (see (see m n.l) n.r) (lk O (see m n.l) n.r).l) (lk O (see m n.l) n.r).r).h then
      ((lk O (see m n.l) n.r).l, turnL O (turnR O (see (see (see (see m n.l) n.r) (lk O (see m n.l) n.r).l) (lk O (see m n.l) n.r).r) n.r (lk O (see m n.l) n.r)) r ⟨n.e, n.l, (lk O (see m n.l) n.r).l, n.all, n.h⟩)
    else (n.r, turnL O (see (see (see (see m n.l) n.r) (lk O (see m n.l) n.r).l) (lk O (see m n.l) n.r).r) r n)
  else (r, setN O (see (see m n.l) n.r) r n (lk O m n.l) (lk O (see m n.l) n.r))
/-- below a handle there are fewer than k nodes one under the other -/
def Deep : Nat → Po E A → Ref → Prop
  | 0, _, _ => False
  | k + 1, m, r => (lk O m r).h = 0 ∨ (Deep k m (lk O m r).l ∧ Deep k m (lk O m r).r)
def replace : Nat → Po E A → Ref → E → Bool × Po E A
  | 0, m, _, _ => (false, m)
  | k + 1, m, r, e =>
    if (lk O m r).h = 0 then (false, see m r)
    else if O.cmp e (lk O m r).e < 0 then
      if (replace k (see m r) (lk O m r).l e).1 = true then (true, tie O (replace k (see m r) (lk O m r).l e).2 r (lk O m r)) else replace k (see m r) (lk O m r).l e
    else if O.cmp e (lk O m r).e > 0 then
      if (replace k (see m r) (lk O m r).r e).1 = true then (true, tie O (replace k (see m r) (lk O m r).r e).2 r (lk O m r)) else replace k (see m r) (lk O m r).r e
    else (true, tie O (see m r) r ⟨e, (lk O m r).l, (lk O m r).r, (lk O m r).all, (lk O m r).h⟩)
def hang : Nat → Po E A → Ref → Ref → E → Ref × Po E A
  | 0, m, _, f, _ => (f, m)
  | k + 1, m, r, f, e =>
    if (lk O m r).h = 0 then (f, see m r)
    else if O.cmp e (lk O m r).e < 0 then
      level O (hang k (see m r) (lk O m r).l f e).2 r ⟨(lk O m r).e, (hang k (see m r) (lk O m r).l f e).1, (lk O m r).r, (lk O m r).all, (lk O m r).h⟩
    else
      level O (hang k (see m r) (lk O m r).r f e).2 r ⟨(lk O m r).e, (lk O m r).l, (hang k (see m r) (lk O m r).r f e).1, (lk O m r).all, (lk O m r).h⟩
def link : Nat → Po E A → Ref → Ref → Ref → Ref × Po E A
  | 0, m, _, b, _ => (b, m)
  | k + 1, m, a, b, c =>
    if (lk O m a).h > W ((lk O (see m a) c).h + 1) then
      level O (link k (see (see m a) c) (lk O m a).r b c).2 a ⟨(lk O m a).e, (lk O m a).l, (link k (see (see m a) c) (lk O m a).r b c).1, (lk O m a).all, (lk O m a).h⟩
    else if (lk O (see m a) c).h > W ((lk O m a).h + 1) then
      level O (link k (see (see m a) c) a b (lk O (see m a) c).l).2 c ⟨(lk O (see m a) c).e, (link k (see (see m a) c) a b (lk O (see m a) c).l).1, (lk O (see m a) c).r, (lk O (see m a) c).all, (lk O (see m a) c).h⟩
    else (b, setN O (see (see (see m a) c) b) b ⟨(lk O (see (see m a) c) b).e, a, c, (lk O (see (see m a) c) b).all, (lk O (see (see m a) c) b).h⟩ (lk O m a) (lk O (see m a) c))
def LinkD : Nat → Po E A → Ref → Ref → Ref → Prop
  | 0, _, _, _, _ => False
  | k + 1, m, a, b, c =>
    if (lk O m a).h > W ((lk O (see m a) c).h + 1) then LinkD k (see (see m a) c) (lk O m a).r b c
    else if (lk O (see m a) c).h > W ((lk O m a).h + 1) then LinkD k (see (see m a) c) a b (lk O (see m a) c).l
    else True
/-- what is left, the first node, the pool -/
def pickF : Nat → Po E A → Ref → Ref × Ref × Po E A
  | 0, m, r => (r, r, m)
  | k + 1, m, r =>
    if (lk O m r).l = r0 then ((lk O m r).r, r, see m r)
    else
      ((level O (pickF k (see m r) (lk O m r).l).2.2 r ⟨(lk O m r).e, (pickF k (see m r) (lk O m r).l).1, (lk O m r).r, (lk O m r).all, (lk O m r).h⟩).1, (pickF k (see m r) (lk O m r).l).2.1,
        (level O (pickF k (see m r) (lk O m r).l).2.2 r ⟨(lk O m r).e, (pickF k (see m r) (lk O m r).l).1, (lk O m r).r, (lk O m r).all, (lk O m r).h⟩).2)
def PickFD : Nat → Po E A → Ref → Prop
  | 0, _, _ => False
  | k + 1, m, r => if (lk O m r).l = r0 then True else PickFD k (see m r) (lk O m r).l
def glue (k : Nat) (m : Po E A) (a c : Ref) : Ref × Po E A :=
  if c = r0 then (a, m) else link O k (pickF O k m c).2.2 a (pickF O k m c).2.1 (pickF O k m c).1
def GlueD (k : Nat) (m : Po E A) (a c : Ref) : Prop :=
  if c = r0 then True else PickFD O k m c ∧ LinkD O k (pickF O k m c).2.2 a (pickF O k m c).2.1 (pickF O k m c).1
/-- what is left, the node, the pool -/
def pick (K : Nat) : Nat → Po E A → Ref → E → Ref × Ref × Po E A
  | 0, m, r, _ => (r, r0, m)
  | k + 1, m, r, e =>
    if (lk O m r).h = 0 then (r, r0, see m r)
    else if O.cmp e (lk O m r).e < 0 then
      if (pick K k (see m r) (lk O m r).l e).2.1 = r0 then (r, (pick K k (see m r) (lk O m r).l e).2.1, (pick K k (see m r) (lk O m r).l e).2.2)
      else ((level O (pick K k (see m r) (lk O m r).l e).2.2 r ⟨(lk O m r).e, (pick K k (see m r) (lk O m r).l e).1, (lk O m r).r, (lk O m r).all, (lk O m r).h⟩).1, (pick K k (see m r) (lk O m r).l e).2.1,
        (level O (pick K k (see m r) (lk O m r).l e).2.2 r ⟨(lk O m r).e, (pick K k (see m r) (lk O m r).l e).1, (lk O m r).r, (lk O m r).all, (lk O m r).h⟩).2)
    else if O.cmp e (lk O m r).e > 0 then
      if (pick K k (see m r) (lk O m r).r e).2.1 = r0 then (r, (pick K k (see m r) (lk O m r).r e).2.1, (pick K k (see m r) (lk O m r).r e).2.2)
      else ((level O (pick K k (see m r) (lk O m r).r e).2.2 r ⟨(lk O m r).e, (lk O m r).l, (pick K k (see m r) (lk O m r).r e).1, (lk O m r).all, (lk O m r).h⟩).1, (pick K k (see m r) (lk O m r).r e).2.1,
        (level O (pick K k (see m r) (lk O m r).r e).2.2 r ⟨(lk O m r).e, (lk O m r).l, (pick K k (see m r) (lk O m r).r e).1, (lk O m r).all, (lk O m r).h⟩).2)
    else ((glue O K (see m r) (lk O m r).l (lk O m r).r).1, r, (glue O K (see m r) (lk O m r).l (lk O m r).r).2)
def PickD (K : Nat) : Nat → Po E A → Ref → E → Prop
  | 0, _, _, _ => False
  | k + 1, m, r, e =>
    if (lk O m r).h = 0 then True
    else if O.cmp e (lk O m r).e < 0 then PickD K k (see m r) (lk O m r).l e
    else if O.cmp e (lk O m r).e > 0 then PickD K k (see m r) (lk O m r).r e
    else GlueD O K (see m r) (lk O m r).l (lk O m r).r
/-- what is ahead, what is not, the pool -/
def cutF (K : Nat) : Nat → Po E A → Ref → E → Ref × Ref × Po E A
  | 0, m, _, _ => (r0, r0, m)
  | k + 1, m, r, e =>
    if (lk O m r).h = 0 then (r0, r0, see m r)
    else if O.cmp (lk O m r).e e < 0 then
      ((link O K (cutF K k (see m r) (lk O m r).r e).2.2 (lk O m r).l r (cutF K k (see m r) (lk O m r).r e).1).1, (cutF K k (see m r) (lk O m r).r e).2.1,
        (link O K (cutF K k (see m r) (lk O m r).r e).2.2 (lk O m r).l r (cutF K k (see m r) (lk O m r).r e).1).2)
    else
      ((cutF K k (see m r) (lk O m r).l e).1, (link O K (cutF K k (see m r) (lk O m r).l e).2.2 (cutF K k (see m r) (lk O m r).l e).2.1 r (lk O m r).r).1,
        (link O K (cutF K k (see m r) (lk O m r).l e).2.2 (cutF K k (see m r) (lk O m r).l e).2.1 r (lk O m r).r).2)
def CutD (K : Nat) : Nat → Po E A → Ref → E → Prop
  | 0, _, _, _ => False
  | k + 1, m, r, e =>
    if (lk O m r).h = 0 then True
    else if O.cmp (lk O m r).e e < 0 then CutD K k (see m r) (lk O m r).r e ∧ LinkD O K (cutF O K k (see m r) (lk O m r).r e).2.2 (lk O m r).l r (cutF O K k (see m r) (lk O m r).r e).1
    else CutD K k (see m r) (lk O m r).l e ∧ LinkD O K (cutF O K k (see m r) (lk O m r).l e).2.2 (cutF O K k (see m r) (lk O m r).l e).2.1 r (lk O m r).r
def gather : Nat → Po E A → Ref → List E × Po E A
  | 0, m, _ => ([], m)
  | k + 1, m, r =>
    if (lk O m r).h = 0 then ([], see m r)
    else ((gather k (see m r) (lk O m r).l).1 ++ (lk O m r).e :: (gather k (gather k (see m r) (lk O m r).l).2 (lk O m r).r).1, (gather k (gather k (see m r) (lk O m r).l).2 (lk O m r).r).2)
def between : Nat → Po E A → Node E A → Int → Int → Part A × Po E A
  | 0, m, _, _, _ => (⟨0, O.a0⟩, m)
  | k + 1, m, n, from_, to =>
    if mx from_ 0 ≥ mn to n.all.n then (⟨0, O.a0⟩, m)
    else if mx from_ 0 = 0 ∧ mn to n.all.n = n.all.n then (n.all, m)
    else
      let x := between k (see m n.l) (lk O m n.l) (mx from_ 0) (mn to n.all.n)
      let s := if mx from_ 0 ≤ (lk O m n.l).all.n ∧ (lk O m n.l).all.n < mn to n.all.n then plusP O x.1 (one O n.e) else x.1
      if mn to n.all.n ≤ W ((lk O m n.l).all.n + 1) then (s, x.2)
      else
        let y := between k (see x.2 n.r) (lk O x.2 n.r) (W (W (mx from_ 0 - (lk O m n.l).all.n) - 1)) (W (W (mn to n.all.n - (lk O m n.l).all.n) - 1))
        (plusP O s y.1, y.2)
/-- a node's two sides have fewer than k nodes one under the other -/
def DeepN : Nat → Po E A → Node E A → Prop
  | 0, _, _ => False
  | k + 1, m, n => n.h = 0 ∨ (Deep O k m n.l ∧ Deep O k m n.r)
def first (may : A → A → Bool) : Nat → Po E A → Node E A → Part A → Int → Int × Po E A
  | 0, m, _, _, _ => (-1, m)
  | k + 1, m, n, a, from_ =>
    if n.h = 0 ∨ W (a.n + n.all.n) ≤ from_ then (-1, m)
    else if a.n ≥ from_ ∧ may a.sum n.all.sum = false then (-1, m)
    else if (first may k (see m n.l) (lk O m n.l) a from_).1 ≥ 0 then first may k (see m n.l) (lk O m n.l) a from_
    else if (plusP O a (lk O m n.l).all).n ≥ from_ ∧ may (plusP O a (lk O m n.l).all).sum (O.sum n.e) = true then ((plusP O a (lk O m n.l).all).n, (first may k (see m n.l) (lk O m n.l) a from_).2)
    else first may k (see (first may k (see m n.l) (lk O m n.l) a from_).2 n.r) (lk O (first may k (see m n.l) (lk O m n.l) a from_).2 n.r) (plusP O (plusP O a (lk O m n.l).all) (one O n.e)) from_
def last (may : A → A → Bool) : Nat → Po E A → Node E A → Part A → Int → Int × Po E A
  | 0, m, _, _, _ => (-1, m)
  | k + 1, m, n, a, to =>
    if n.h = 0 ∨ a.n ≥ to then (-1, m)
    else if W (a.n + n.all.n) ≤ to ∧ may a.sum n.all.sum = false then (-1, m)
    else
      let b := plusP O a (lk O m n.l).all
      let x := last may k (see (see m n.l) n.r) (lk O (see m n.l) n.r) (plusP O b (one O n.e)) to
      if x.1 ≥ 0 then x
      else if b.n < to ∧ may b.sum (O.sum n.e) = true then (b.n, x.2)
      else last may k x.2 (lk O m n.l) a to
def rank : Nat → Po E A → Node E A → E → Int → Int × Po E A
  | 0, m, _, _, c => (c, m)
  | k + 1, m, n, e, c =>
    if n.h > 0 then
      if O.cmp e n.e ≤ 0 then rank k (see m n.l) (lk O m n.l) e c
      else rank k (see m n.r) (lk O m n.r) e (W (c + W (n.all.n - (lk O m n.r).all.n)))
    else (c, m)
def nthF : Nat → Po E A → Node E A → Int → E × Po E A
  | 0, m, _, _ => (O.e0, m)
  | k + 1, m, n, i =>
    if i = (lk O m n.l).all.n then (n.e, see m n.l)
    else if i < (lk O m n.l).all.n then nthF k (see m n.l) (lk O m n.l) i
    else nthF k (see (see m n.l) n.r) (lk O (see m n.l) n.r) (W (i - W ((lk O m n.l).all.n + 1)))
end
end Go.Proofs.Ytclagkjjgmeifaa.Gv


/- grove: its functions leave the pool sound. -/
namespace Go.Proofs.Ytclagkjjgmeifaa.Gv
open Go.Proofs.Ytclagkjjgmeifaa.Rx
set_option linter.unusedVariables false
set_option linter.unusedSimpArgs false
set_option linter.unusedSectionVars false
section
variable {N : Type}
structure Sam (m m' : PM N) : Prop where
  gens : m'.gens = m.gens
  live : m'.live = m.live
  free : m'.free = m.free
  held : m'.held = m.held
  cap : m'.cap = m.cap
  len : m'.vs.length = m.vs.length
theorem Sam.refl (m : PM N) : Sam m m := ⟨rfl, rfl, rfl, rfl, rfl, rfl⟩
theorem Sam.trans {a b c : PM N} (h : Sam a b) (k : Sam b c) : Sam a c := ⟨k.gens.trans h.gens, k.live.trans h.live, k.free.trans h.free, k.held.trans h.held, k.cap.trans h.cap, k.len.trans h.len⟩
theorem Sam.ok {n : Nat} {m m' : PM N} (h : Sam m m') : POk n m' ↔ POk n m := by
  constructor
  · intro ⟨h1, h2, h3, h3', h4, h5, h6, h6', h8⟩
    exact ⟨by rw [← h.gens, ← h.len, h1], by rw [← h.live, ← h.len, h2], by rw [← h.free, ← h.len, ← h.live]; exact h3, by rw [← h.free]; exact h3', by rw [← h.len]; exact h4, by rw [← h.free]; exact h5, by rw [← h.gens]; exact h6, by rw [← h.gens, ← h.live]; exact h6', by rw [← h.held]; exact h8⟩
  · intro ⟨h1, h2, h3, h3', h4, h5, h6, h6', h8⟩
    exact ⟨by rw [h.gens, h.len, h1], by rw [h.live, h.len, h2], by rw [h.free, h.len, h.live]; exact h3, by rw [h.free]; exact h3', by rw [h.len]; exact h4, by rw [h.free]; exact h5, by rw [h.gens]; exact h6, by rw [h.gens, h.live]; exact h6', by rw [h.held]; exact h8⟩
theorem Sam.see (m : PM N) (r : Ref) : Sam m (see m r) := by unfold Gv.see; split <;> exact ⟨rfl, rfl, rfl, rfl, rfl, rfl⟩
theorem Sam.put1 (m : PM N) (r : Ref) (n : N) : Sam m (put1 m r n) := by
  unfold Gv.put1
  split
  · exact ⟨rfl, rfl, rfl, rfl, rfl, by simp⟩
  · exact Sam.refl m
end
section
variable {E A : Type} (O : Ops E A)
theorem Sam.setN (m : Po E A) (r : Ref) (n l q : Node E A) : Sam m (setN O m r n l q) := Sam.put1 _ _ _
theorem Sam.tie (m : Po E A) (r : Ref) (n : Node E A) : Sam m (tie O m r n) := ((Sam.see _ _).trans (Sam.see _ _)).trans (Sam.setN O _ _ _ _ _)
theorem Sam.turnL (m : Po E A) (r : Ref) (n : Node E A) : Sam m (turnL O m r n) := ((Sam.see _ _).trans (Sam.tie O _ _ _)).trans (Sam.tie O _ _ _)
theorem Sam.turnR (m : Po E A) (r : Ref) (n : Node E A) : Sam m (turnR O m r n) := ((Sam.see _ _).trans (Sam.tie O _ _ _)).trans (Sam.tie O _ _ _)
theorem Sam.see4 (m : PM (Node E A)) (a b c d : Ref) : Sam m (Gv.see (Gv.see (Gv.see (Gv.see m a) b) c) d) := (((Sam.see _ _).trans (Sam.see _ _)).trans (Sam.see _ _)).trans (Sam.see _ _)
theorem Sam.level (m : Po E A) (r : Ref) (n : Node E A) : Sam m (level O m r n).2 := by
  unfold Gv.level
  split
  · split
    · exact ((Sam.see4 _ _ _ _ _).trans (Sam.turnL O _ _ _)).trans (Sam.turnR O _ _ _)
    · exact (Sam.see4 _ _ _ _ _).trans (Sam.turnR O _ _ _)
  · split
    · split
      · exact ((Sam.see4 _ _ _ _ _).trans (Sam.turnR O _ _ _)).trans (Sam.turnL O _ _ _)
      · exact (Sam.see4 _ _ _ _ _).trans (Sam.turnL O _ _ _)
    · exact ((Sam.see _ _).trans (Sam.see _ _)).trans (Sam.setN O _ _ _ _ _)
theorem Sam.replace : ∀ (k : Nat) (m : Po E A) (r : Ref) (e : E), Sam m (replace O k m r e).2
  | 0, m, _, _ => Sam.refl m
  | k + 1, m, r, e => by
    unfold Gv.replace
    split
    · exact Sam.see _ _
    · split
      · split
        · exact ((Sam.see _ _).trans (Sam.replace k _ _ _)).trans (Sam.tie O _ _ _)
        · exact (Sam.see _ _).trans (Sam.replace k _ _ _)
      · split
        · split
          · exact ((Sam.see _ _).trans (Sam.replace k _ _ _)).trans (Sam.tie O _ _ _)
          · exact (Sam.see _ _).trans (Sam.replace k _ _ _)
        · exact (Sam.see _ _).trans (Sam.tie O _ _ _)
theorem Sam.hang : ∀ (k : Nat) (m : Po E A) (r f : Ref) (e : E), Sam m (hang O k m r f e).2
  | 0, m, _, _, _ => Sam.refl m
  | k + 1, m, r, f, e => by
    unfold Gv.hang
    split
    · exact Sam.see _ _
    · split
      · exact ((Sam.see _ _).trans (Sam.hang k _ _ _ _)).trans (Sam.level O _ _ _)
      · exact ((Sam.see _ _).trans (Sam.hang k _ _ _ _)).trans (Sam.level O _ _ _)
theorem Sam.link : ∀ (k : Nat) (m : Po E A) (a b c : Ref), Sam m (link O k m a b c).2
  | 0, m, _, _, _ => Sam.refl m
  | k + 1, m, a, b, c => by
    unfold Gv.link
    split
    · exact (((Sam.see _ _).trans (Sam.see _ _)).trans (Sam.link k _ _ _ _)).trans (Sam.level O _ _ _)
    · split
      · exact (((Sam.see _ _).trans (Sam.see _ _)).trans (Sam.link k _ _ _ _)).trans (Sam.level O _ _ _)
      · exact (((Sam.see _ _).trans (Sam.see _ _)).trans (Sam.see _ _)).trans (Sam.setN O _ _ _ _ _)
theorem Sam.pickF : ∀ (k : Nat) (m : Po E A) (r : Ref), Sam m (pickF O k m r).2.2
  | 0, m, _ => Sam.refl m
  | k + 1, m, r => by
    unfold Gv.pickF
    split
    · exact Sam.see _ _
    · exact ((Sam.see _ _).trans (Sam.pickF k _ _)).trans (Sam.level O _ _ _)
theorem Sam.glue (k : Nat) (m : Po E A) (a c : Ref) : Sam m (glue O k m a c).2 := by
  unfold Gv.glue
  split
  · exact Sam.refl m
  · exact (Sam.pickF O _ _ _).trans (Sam.link O _ _ _ _ _)
theorem Sam.pick (K : Nat) : ∀ (k : Nat) (m : Po E A) (r : Ref) (e : E), Sam m (pick O K k m r e).2.2
  | 0, m, _, _ => Sam.refl m
  | k + 1, m, r, e => by
    unfold Gv.pick
    split
    · exact Sam.see _ _
    · split
      · split
        · exact (Sam.see _ _).trans (Sam.pick K k _ _ _)
        · exact ((Sam.see _ _).trans (Sam.pick K k _ _ _)).trans (Sam.level O _ _ _)
      · split
        · split
          · exact (Sam.see _ _).trans (Sam.pick K k _ _ _)
          · exact ((Sam.see _ _).trans (Sam.pick K k _ _ _)).trans (Sam.level O _ _ _)
        · exact (Sam.see _ _).trans (Sam.glue O _ _ _ _)
theorem Sam.cutF (K : Nat) : ∀ (k : Nat) (m : Po E A) (r : Ref) (e : E), Sam m (cutF O K k m r e).2.2
  | 0, m, _, _ => Sam.refl m
  | k + 1, m, r, e => by
    unfold Gv.cutF
    split
    · exact Sam.see _ _
    · split
      · exact ((Sam.see _ _).trans (Sam.cutF K k _ _ _)).trans (Sam.link O _ _ _ _ _)
      · exact ((Sam.see _ _).trans (Sam.cutF K k _ _ _)).trans (Sam.link O _ _ _ _ _)
theorem Sam.gather : ∀ (k : Nat) (m : Po E A) (r : Ref), Sam m (gather O k m r).2
  | 0, m, _ => Sam.refl m
  | k + 1, m, r => by
    unfold Gv.gather
    split
    · exact Sam.see _ _
    · exact ((Sam.see _ _).trans (Sam.gather k _ _)).trans (Sam.gather k _ _)
theorem Sam.between : ∀ (k : Nat) (m : Po E A) (n : Node E A) (a b : Int), Sam m (between O k m n a b).2
  | 0, m, _, _, _ => Sam.refl m
  | k + 1, m, n, a, b => by
    unfold Gv.between
    split
    · exact Sam.refl m
    · split
      · exact Sam.refl m
      · dsimp only
        split
        · exact (Sam.see _ _).trans (Sam.between k _ _ _ _)
        · exact (((Sam.see _ _).trans (Sam.between k _ _ _ _)).trans (Sam.see _ _)).trans (Sam.between k _ _ _ _)
theorem Sam.first (may : A → A → Bool) : ∀ (k : Nat) (m : Po E A) (n : Node E A) (a : Part A) (f : Int), Sam m (first O may k m n a f).2
  | 0, m, _, _, _ => Sam.refl m
  | k + 1, m, n, a, f => by
    unfold Gv.first
    split
    · exact Sam.refl m
    · split
      · exact Sam.refl m
      · split
        · exact (Sam.see _ _).trans (Sam.first may k _ _ _ _)
        · split
          · exact (Sam.see _ _).trans (Sam.first may k _ _ _ _)
          · exact (((Sam.see _ _).trans (Sam.first may k _ _ _ _)).trans (Sam.see _ _)).trans (Sam.first may k _ _ _ _)
theorem Sam.last (may : A → A → Bool) : ∀ (k : Nat) (m : Po E A) (n : Node E A) (a : Part A) (f : Int), Sam m (last O may k m n a f).2
  | 0, m, _, _, _ => Sam.refl m
  | k + 1, m, n, a, f => by
    unfold Gv.last
    split
    · exact Sam.refl m
    · split
      · exact Sam.refl m
      · dsimp only
        split
        · exact ((Sam.see _ _).trans (Sam.see _ _)).trans (Sam.last may k _ _ _ _)
        · split
          · exact ((Sam.see _ _).trans (Sam.see _ _)).trans (Sam.last may k _ _ _ _)
          · exact (((Sam.see _ _).trans (Sam.see _ _)).trans (Sam.last may k _ _ _ _)).trans (Sam.last may k _ _ _ _)
end
section
variable {N E A : Type} {O : Ops E A} {n : Nat}
theorem see_ok {m : PM N} {r : Ref} : POk n (see m r) ↔ POk n m := (Sam.see _ _).ok
theorem put1_ok {m : PM N} {r : Ref} {v : N} : POk n (put1 m r v) ↔ POk n m := (Sam.put1 _ _ _).ok
theorem setN_ok {m : Po E A} {r : Ref} {v l q : Node E A} : POk n (setN O m r v l q) ↔ POk n m := (Sam.setN O _ _ _ _ _).ok
theorem tie_ok {m : Po E A} {r : Ref} {v : Node E A} : POk n (tie O m r v) ↔ POk n m := (Sam.tie O _ _ _).ok
theorem turnL_ok {m : Po E A} {r : Ref} {v : Node E A} : POk n (turnL O m r v) ↔ POk n m := (Sam.turnL O _ _ _).ok
theorem turnR_ok {m : Po E A} {r : Ref} {v : Node E A} : POk n (turnR O m r v) ↔ POk n m := (Sam.turnR O _ _ _).ok
theorem level_ok {m : Po E A} {r : Ref} {v : Node E A} : POk n (level O m r v).2 ↔ POk n m := (Sam.level O _ _ _).ok
theorem replace_ok {k : Nat} {m : Po E A} {r : Ref} {e : E} : POk n (replace O k m r e).2 ↔ POk n m := (Sam.replace O _ _ _ _).ok
theorem hang_ok {k : Nat} {m : Po E A} {r f : Ref} {e : E} : POk n (hang O k m r f e).2 ↔ POk n m := (Sam.hang O _ _ _ _ _).ok
theorem link_ok {k : Nat} {m : Po E A} {a b c : Ref} : POk n (link O k m a b c).2 ↔ POk n m := (Sam.link O _ _ _ _ _).ok
theorem pickF_ok {k : Nat} {m : Po E A} {r : Ref} : POk n (pickF O k m r).2.2 ↔ POk n m := (Sam.pickF O _ _ _).ok
theorem glue_ok {k : Nat} {m : Po E A} {a c : Ref} : POk n (glue O k m a c).2 ↔ POk n m := (Sam.glue O _ _ _ _).ok
theorem pick_ok {K k : Nat} {m : Po E A} {r : Ref} {e : E} : POk n (pick O K k m r e).2.2 ↔ POk n m := (Sam.pick O K _ _ _ _).ok
theorem cutF_ok {K k : Nat} {m : Po E A} {r : Ref} {e : E} : POk n (cutF O K k m r e).2.2 ↔ POk n m := (Sam.cutF O K _ _ _ _).ok
theorem gather_ok {k : Nat} {m : Po E A} {r : Ref} : POk n (gather O k m r).2 ↔ POk n m := (Sam.gather O _ _ _).ok
theorem between_ok {k : Nat} {m : Po E A} {v : Node E A} {a b : Int} : POk n (between O k m v a b).2 ↔ POk n m := (Sam.between O _ _ _ _ _).ok
theorem first_ok {may : A → A → Bool} {k : Nat} {m : Po E A} {v : Node E A} {a : Part A} {f : Int} : POk n (first O may k m v a f).2 ↔ POk n m := (Sam.first O may _ _ _ _ _).ok
theorem last_ok {may : A → A → Bool} {k : Nat} {m : Po E A} {v : Node E A} {a : Part A} {f : Int} : POk n (last O may k m v a f).2 ↔ POk n m := (Sam.last O may _ _ _ _ _).ok
@[simp] theorem lk_see (m : Po E A) (s r : Ref) : lk O (see m s) r = lk O m r := look_see _ _ _ _
theorem ref_eta (r : Ref) : (⟨r.i, r.g⟩ : Ref) = r := rfl
theorem eq0 (i g : Int) : (if false = true then !(i == 0 && (g == 0 && true)) else i == 0 && (g == 0 && true)) = decide ((⟨i, g⟩ : Ref) = r0) := by
  rw [if_neg (by simp)]
  by_cases h : (⟨i, g⟩ : Ref) = r0
  · rw [decide_eq_true h]
    cases h
    rfl
  · rw [decide_eq_false h]
    cases hb : (i == 0 && (g == 0 && true)) with
    | false => rfl
    | true =>
      simp only [Bool.and_eq_true, beq_iff_eq, and_true] at hb
      obtain ⟨rfl, rfl⟩ := hb
      exact absurd rfl h
theorem Deep_see : ∀ {k : Nat} {m : Po E A} {s r : Ref}, Deep O k (see m s) r ↔ Deep O k m r
  | 0, _, _, _ => Iff.rfl
  | k + 1, m, s, r => by simp only [Deep, lk_see, Deep_see]
theorem PickFD_see : ∀ {k : Nat} {m : Po E A} {s r : Ref}, PickFD O k (see m s) r ↔ PickFD O k m r
  | 0, _, _, _ => Iff.rfl
  | k + 1, m, s, r => by simp only [PickFD, lk_see, PickFD_see]
theorem lk_gather : ∀ (k : Nat) (m : Po E A) (r s : Ref), lk O (gather O k m r).2 s = lk O m s
  | 0, m, _, _ => rfl
  | k + 1, m, r, s => by
    unfold Gv.gather
    split
    · exact lk_see _ _ _
    · dsimp only
      rw [lk_gather k, lk_gather k, lk_see]
theorem lk_between : ∀ (k : Nat) (m : Po E A) (n : Node E A) (a b : Int) (s : Ref), lk O (between O k m n a b).2 s = lk O m s
  | 0, m, _, _, _, _ => rfl
  | k + 1, m, n, a, b, s => by
    rw [Gv.between]
    split
    · rfl
    · split
      · rfl
      · dsimp only
        split
        · dsimp only
          rw [lk_between k, lk_see]
        · dsimp only
          rw [lk_between k, lk_see, lk_between k, lk_see]
theorem lk_first (may : A → A → Bool) : ∀ (k : Nat) (m : Po E A) (n : Node E A) (a : Part A) (f : Int) (s : Ref), lk O (first O may k m n a f).2 s = lk O m s
  | 0, m, _, _, _, _ => rfl
  | k + 1, m, n, a, f, s => by
    rw [Gv.first]
    split
    · rfl
    · split
      · rfl
      · split
        · rw [lk_first may k, lk_see]
        · split
          · dsimp only
            rw [lk_first may k, lk_see]
          · rw [lk_first may k, lk_see, lk_first may k, lk_see]
theorem lk_last (may : A → A → Bool) : ∀ (k : Nat) (m : Po E A) (n : Node E A) (a : Part A) (f : Int) (s : Ref), lk O (last O may k m n a f).2 s = lk O m s
  | 0, m, _, _, _, _ => rfl
  | k + 1, m, n, a, f, s => by
    rw [Gv.last]
    split
    · rfl
    · split
      · rfl
      · dsimp only
        split
        · rw [lk_last may k, lk_see, lk_see]
        · split
          · dsimp only
            rw [lk_last may k, lk_see, lk_see]
          · rw [lk_last may k, lk_last may k, lk_see, lk_see]
theorem Deep_of : ∀ {k : Nat} {m m' : Po E A} {r : Ref}, (∀ s, lk O m' s = lk O m s) → (Deep O k m' r ↔ Deep O k m r)
  | 0, _, _, _, _ => Iff.rfl
  | k + 1, m, m', r, h => by simp only [Deep, h, Deep_of h]
theorem Deep_gather {k j : Nat} {m : Po E A} {q r : Ref} : Deep O k (gather O j m q).2 r ↔ Deep O k m r := Deep_of (lk_gather j m q)
end
end Go.Proofs.Ytclagkjjgmeifaa.Gv


/- grove: what between asks of a pool. -/
namespace Go.Proofs.Ytclagkjjgmeifaa.Gv
open Go.Proofs.Ytclagkjjgmeifaa.Rx
set_option linter.unusedVariables false
section
variable {E A : Type} (O : Ops E A)
/-- as many rounds suffice -/
def BetE : Nat → Po E A → Node E A → Int → Int → Prop
  | 0, _, _, _, _ => False
  | k + 1, m, n, from_, to =>
    ¬ mx from_ 0 ≥ mn to n.all.n → ¬ (mx from_ 0 = 0 ∧ mn to n.all.n = n.all.n) →
      BetE k (see m n.l) (lk O m n.l) (mx from_ 0) (mn to n.all.n) ∧
      (¬ mn to n.all.n ≤ W ((lk O m n.l).all.n + 1) →
        BetE k (see (between O k (see m n.l) (lk O m n.l) (mx from_ 0) (mn to n.all.n)).2 n.r) (lk O (between O k (see m n.l) (lk O m n.l) (mx from_ 0) (mn to n.all.n)).2 n.r)
          (W (W (mx from_ 0 - (lk O m n.l).all.n) - 1)) (W (W (mn to n.all.n - (lk O m n.l).all.n) - 1)))
def RankE : Nat → Po E A → Node E A → E → Int → Prop
  | 0, _, _, _, _ => False
  | k + 1, m, n, e, c => n.h > 0 → (O.cmp e n.e ≤ 0 → RankE k (see m n.l) (lk O m n.l) e c) ∧ (¬ O.cmp e n.e ≤ 0 → RankE k (see m n.r) (lk O m n.r) e (W (c + W (n.all.n - (lk O m n.r).all.n))))
def NthE : Nat → Po E A → Node E A → Int → Prop
  | 0, _, _, _ => False
  | k + 1, m, n, i => i ≠ (lk O m n.l).all.n → (i < (lk O m n.l).all.n → NthE k (see m n.l) (lk O m n.l) i) ∧
    (¬ i < (lk O m n.l).all.n → NthE k (see (see m n.l) n.r) (lk O (see m n.l) n.r) (W (i - W ((lk O m n.l).all.n + 1))))
theorem DeepN_of {O : Ops E A} : ∀ {k : Nat} {m m' : Po E A} {r : Ref}, Deep O k m r → (∀ s, lk O m' s = lk O m s) → DeepN O k m' (lk O m r)
  | 0, _, _, _, h, _ => h
  | k + 1, m, m', r, h, hl => by
    rcases h with h | h
    · exact .inl h
    · exact .inr ⟨(Deep_of hl).2 h.1, (Deep_of hl).2 h.2⟩
end
end Go.Proofs.Ytclagkjjgmeifaa.Gv


/- grove: the calls of a tree, as plain functions on a pool and a root. -/
namespace Go.Proofs.Ytclagkjjgmeifaa.Gv
open Go.Proofs.Ytclagkjjgmeifaa.Rx
set_option linter.unusedVariables false
section
variable {E A : Type} (O : Ops E A)
def fresh (e : E) : Node E A := ⟨e, r0, r0, one O e, 1⟩
def putF (K : Nat) (m : Po E A) (root : Ref) (e : E) : Bool × Ref × Po E A :=
  if (replace O K m root e).1 = true then (true, root, (replace O K m root e).2)
  else if (replace O K m root e).2.held = (replace O K m root e).2.cap then (false, root, put (zn O) (replace O K m root e).2 (fresh O e))
  else (true, (hang O K (put (zn O) (replace O K m root e).2 (fresh O e)) root (putR (zn O) (replace O K m root e).2) e).1, (hang O K (put (zn O) (replace O K m root e).2 (fresh O e)) root (putR (zn O) (replace O K m root e).2) e).2)
def PutD (K : Nat) (m : Po E A) (root : Ref) (e : E) : Prop :=
  Deep O K m root ∧ ((replace O K m root e).2.held ≠ (replace O K m root e).2.cap → POk 100000 (put (zn O) (replace O K m root e).2 (fresh O e)) ∧ Deep O K (put (zn O) (replace O K m root e).2 (fresh O e)) root)
def atF (K : Nat) (m : Po E A) (root : Ref) (i : Int) : (E × Bool) × Po E A :=
  if i < 0 ∨ i ≥ (lk O m root).all.n then ((O.e0, false), see m root)
  else (((nthF O K (see m root) (lk O m root) i).1, true), (nthF O K (see m root) (lk O m root) i).2)
def AtD (K : Nat) (m : Po E A) (root : Ref) (i : Int) : Prop := ¬ i < 0 → ¬ i ≥ (lk O m root).all.n → NthE O K (see m root) (lk O m root) i
/-- both trees' last and first elements, and the pool -/
def endsF (K : Nat) (m : Po E A) (rt ro : Ref) : (E × Bool) × (E × Bool) × Po E A :=
  ((atF O K (see m rt) rt (W ((lk O m rt).all.n - 1))).1, (atF O K (atF O K (see m rt) rt (W ((lk O m rt).all.n - 1))).2 ro 0).1, (atF O K (atF O K (see m rt) rt (W ((lk O m rt).all.n - 1))).2 ro 0).2)
def joinF (K : Nat) (m : Po E A) (rt ro : Ref) : Bool × Ref × Ref × Po E A :=
  if (endsF O K m rt ro).1.2 = true ∧ (endsF O K m rt ro).2.1.2 = true ∧ O.cmp (endsF O K m rt ro).1.1 (endsF O K m rt ro).2.1.1 ≥ 0 then (false, rt, ro, (endsF O K m rt ro).2.2)
  else (true, (glue O K (endsF O K m rt ro).2.2 rt ro).1, r0, (glue O K (endsF O K m rt ro).2.2 rt ro).2)
def JoinD (K : Nat) (m : Po E A) (rt ro : Ref) : Prop :=
  AtD O K (see m rt) rt (W ((lk O m rt).all.n - 1)) ∧ AtD O K (atF O K (see m rt) rt (W ((lk O m rt).all.n - 1))).2 ro 0 ∧
    POk 100000 (atF O K (see m rt) rt (W ((lk O m rt).all.n - 1))).2 ∧ POk 100000 (endsF O K m rt ro).2.2 ∧
    (¬ ((endsF O K m rt ro).1.2 = true ∧ (endsF O K m rt ro).2.1.2 = true ∧ O.cmp (endsF O K m rt ro).1.1 (endsF O K m rt ro).2.1.1 ≥ 0) → GlueD O K (endsF O K m rt ro).2.2 rt ro)
/-- an element, whether it was there, what is left, the pool -/
def dropF (K : Nat) (m : Po E A) (root : Ref) (e : E) : E × Bool × Ref × Po E A :=
  ((lk O (pick O K K m root e).2.2 (pick O K K m root e).2.1).e, has (pick O K K m root e).2.2 (pick O K K m root e).2.1, (pick O K K m root e).1, drop (zn O) (pick O K K m root e).2.2 (pick O K K m root e).2.1)
end
end Go.Proofs.Ytclagkjjgmeifaa.Gv


/- grove: the trees that are in a pool, and what the functions make of them. -/
namespace Go.Proofs.Ytclagkjjgmeifaa.Gv
open Go.Proofs.Ytclagkjjgmeifaa.Rx
set_option linter.unusedVariables false
set_option linter.unusedSimpArgs false
set_option linter.unusedSectionVars false
/-- a tree, with its nodes' handles -/
inductive Tr (E : Type)
  | nil
  | node (r : Ref) (l : Tr E) (e : E) (q : Tr E)
namespace Tr
variable {E : Type}
def root : Tr E → Ref
  | nil => r0
  | node r _ _ _ => r
def items : Tr E → List (Ref × E)
  | nil => []
  | node r l e q => l.items ++ (r, e) :: q.items
def h : Tr E → Nat
  | nil => 0
  | node _ l _ q => 1 + max l.h q.h
def elems (t : Tr E) : List E := t.items.map Prod.snd
def refs (t : Tr E) : List Ref := t.items.map Prod.fst
def bal : Tr E → Prop
  | nil => True
  | node _ l _ q => l.bal ∧ q.bal ∧ l.h ≤ q.h + 1 ∧ q.h ≤ l.h + 1
theorem h_le : ∀ t : Tr E, t.h ≤ t.items.length
  | nil => Nat.le_refl _
  | node r l e q => by
    have h1 := h_le l
    have h2 := h_le q
    simp only [h, items, List.length_append, List.length_cons]
    omega
theorem elems_node (r : Ref) (l : Tr E) (e : E) (q : Tr E) : (node r l e q).elems = l.elems ++ e :: q.elems := by simp [elems, items]
theorem refs_node (r : Ref) (l : Tr E) (e : E) (q : Tr E) : (node r l e q).refs = l.refs ++ r :: q.refs := by simp [refs, items]
theorem elems_length (t : Tr E) : t.elems.length = t.items.length := by simp [elems]
theorem refs_length (t : Tr E) : t.refs.length = t.items.length := by simp [refs]
end Tr
/-- what lists of elements come to; those of which it is promised -/
structure Laws {E A : Type} (O : Ops E A) (S : List E → A) (good : List E → Prop) : Prop where
  nil : S [] = O.a0
  one : ∀ e, S [e] = O.sum e
  plus : ∀ x y, good (x ++ y) → x ≠ [] → y ≠ [] → O.plus (S x) (S y) = S (x ++ y)
  left : ∀ x y, good (x ++ y) → good x
  right : ∀ x y, good (x ++ y) → good y
  len : ∀ x, good x → x.length ≤ 1000000
  swap : ∀ a b, O.cmp a b < 0 ↔ 0 < O.cmp b a
  trans : ∀ a b c, O.cmp a b < 0 → O.cmp b c < 0 → O.cmp a c < 0
  eqv : ∀ a b c, O.cmp a b = 0 → O.cmp b c < 0 → O.cmp a c < 0
  eqv' : ∀ a b c, O.cmp a b = 0 → O.cmp c b < 0 → O.cmp c a < 0
section
variable {E A : Type} (O : Ops E A) (S : List E → A)
def nd (t : Tr E) : Node E A :=
  match t with
  | .nil => zn O
  | .node r l e q => ⟨e, l.root, q.root, ⟨(Tr.node r l e q).items.length, S (Tr.node r l e q).elems⟩, (Tr.node r l e q).h⟩
/-- the tree is in the pool -/
def Rp (m : Po E A) : Tr E → Prop
  | .nil => True
  | .node r l e q => has m r = true ∧ lk O m r = nd O S (.node r l e q) ∧ Rp m l ∧ Rp m q
variable {O S} {good : List E → Prop} (Z : Laws O S good)
theorem nd_node (r : Ref) (l : Tr E) (e : E) (q : Tr E) : nd O S (.node r l e q) = ⟨e, l.root, q.root, ⟨(Tr.node r l e q).items.length, S (Tr.node r l e q).elems⟩, (Tr.node r l e q).h⟩ := rfl
theorem see2_upd (m : Po E A) (a b : Ref) : Upd [] 2 (zn O) m (see (see m a) b) := (see_upd _ m a).to (see_upd _ _ b) (fun r hr => by simp at hr) (Nat.le_refl _)
theorem see4_upd (m : Po E A) (a b c d : Ref) : Upd [] 4 (zn O) m (see (see (see (see m a) b) c) d) := (see2_upd m a b).to (see2_upd _ c d) (fun r hr => by simp at hr) (Nat.le_refl _)
theorem nd_h (t : Tr E) : (nd O S t).h = (t.h : Int) := by cases t <;> rfl
theorem nd_all (hZ : S [] = O.a0) (t : Tr E) : (nd O S t).all = ⟨t.items.length, S t.elems⟩ := by
  cases t with
  | nil => simp [nd, zn, Tr.items, Tr.elems, hZ]
  | node r l e q => rfl
theorem Rp.root {n : Nat} {m : Po E A} (ho : POk n m) {t : Tr E} (h : Rp O S m t) : lk O m t.root = nd O S t := by
  cases t with
  | nil =>
    show look (zn O) m r0 = _
    unfold look
    rw [ho.z0]
    rfl
  | node r l e q => exact h.2.1
theorem Rp.frame {R : List Ref} {k : Nat} {m m' : Po E A} (hu : Upd R k (zn O) m m') : ∀ {t : Tr E}, (∀ s, s ∈ t.refs → s ∉ R) → Rp O S m t → Rp O S m' t
  | .nil, _, _ => trivial
  | .node r l e q, hd, h => by
    obtain ⟨h1, h2, h3, h4⟩ := h
    rw [Tr.refs_node] at hd
    refine ⟨by rw [hu.has]; exact h1, ?_, Rp.frame hu (fun s hs => hd s (by simp [hs])) h3, Rp.frame hu (fun s hs => hd s (by simp [hs])) h4⟩
    rw [← h2]
    exact hu.look r (hd r (by simp))
theorem Rp.see {m : Po E A} {t : Tr E} (s : Ref) (h : Rp O S m t) : Rp O S (see m s) t := Rp.frame (see_upd _ m s) (fun _ _ hs => by cases hs) h
theorem Rp.has {m : Po E A} : ∀ {t : Tr E}, Rp O S m t → ∀ s, s ∈ t.refs → has m s = true
  | .nil, _, s, hs => by cases hs
  | .node r l e q, h, s, hs => by
    obtain ⟨h1, h2, h3, h4⟩ := h
    rw [Tr.refs_node, List.mem_append, List.mem_cons] at hs
    rcases hs with hs | rfl | hs
    · exact Rp.has h3 s hs
    · exact h1
    · exact Rp.has h4 s hs
theorem root_ne {n : Nat} {m : Po E A} (ho : POk n m) {t : Tr E} (h : Rp O S m t) (hn : t ≠ .nil) : t.root ≠ r0 := by
  cases t with
  | nil => exact absurd rfl hn
  | node r l e q =>
    intro e0
    have := h.1
    simp only [Tr.root] at e0
    rw [e0, ho.z0] at this
    cases this
include Z
theorem part_plus {x y : List E} (hg : good (x ++ y)) : plusP O ⟨x.length, S x⟩ ⟨y.length, S y⟩ = ⟨(x ++ y).length, S (x ++ y)⟩ := by
  unfold plusP
  cases x with
  | nil => simp
  | cons a x =>
    cases y with
    | nil =>
      simp only [List.append_nil, List.length_nil]
      rw [if_neg (by simp; omega), if_pos (by rfl)]
    | cons b y =>
      have hl := Z.len _ hg
      simp only [List.length_append, List.length_cons] at hl
      rw [if_neg (by simp; omega), if_neg (by simp; omega), Z.plus _ _ hg (by simp) (by simp), W_of (by simp only [List.length_cons]; omega)]
      simp only [List.length_append, List.length_cons]
      congr 1
theorem one_part (e : E) : one O e = ⟨([e] : List E).length, S [e]⟩ := by rw [one, Z.one]; rfl
theorem node_part {x y : List E} {e : E} (hg : good (x ++ e :: y)) : plusP O (plusP O ⟨x.length, S x⟩ (one O e)) ⟨y.length, S y⟩ = ⟨(x ++ e :: y).length, S (x ++ e :: y)⟩ := by
  have e1 : x ++ e :: y = (x ++ [e]) ++ y := by simp
  rw [e1] at hg ⊢
  rw [one_part Z, part_plus Z (Z.left _ _ hg), part_plus Z hg]
theorem setN_tr {n : Nat} {m : Po E A} (ho : POk n m) {r : Ref} {l q : Tr E} {v : Node E A} (hl : Rp O S m l) (hq : Rp O S m q) (hr : has m r = true) (hnl : r ∉ l.refs) (hnq : r ∉ q.refs)
    (e1 : v.l = l.root) (e2 : v.r = q.root) (hg : good (l.elems ++ v.e :: q.elems)) :
    Rp O S (setN O m r v (nd O S l) (nd O S q)) (.node r l v.e q) ∧ Upd [r] 1 (zn O) m (setN O m r v (nd O S l) (nd O S q)) := by
  have hu := put1_upd (zn O) m r ⟨v.e, v.l, v.r, plusP O (plusP O (nd O S l).all (one O v.e)) (nd O S q).all, W (1 + mx (nd O S l).h (nd O S q).h)⟩
  refine ⟨⟨by rw [setN, hu.has]; exact hr, ?_, Rp.frame hu (fun s hs => by simp; rintro rfl; exact hnl hs) hl, Rp.frame hu (fun s hs => by simp; rintro rfl; exact hnq hs) hq⟩, hu⟩
  show look (zn O) _ r = _
  rw [setN, look_put1 (zn O) _ hr]
  have hlen := Z.len _ hg
  have h1 := l.h_le
  have h2 := q.h_le
  simp only [List.length_append, List.length_cons, Tr.elems_length] at hlen
  rw [nd_all Z.nil, nd_all Z.nil, nd_h, nd_h, ← Tr.elems_length, ← Tr.elems_length, node_part Z hg]
  simp only [nd, e1, e2, Tr.elems_node, Tr.items, Tr.h]
  have e3 : W (1 + mx (l.h : Int) (q.h : Int)) = ((1 + max l.h q.h : Nat) : Int) := by
    unfold mx
    rw [W_of (by split <;> omega)]
    split <;> omega
  rw [e3]
  simp [Tr.elems]
theorem tie_tr {n : Nat} {m : Po E A} (ho : POk n m) {r : Ref} {l q : Tr E} {v : Node E A} (hl : Rp O S m l) (hq : Rp O S m q) (hr : has m r = true) (hnl : r ∉ l.refs) (hnq : r ∉ q.refs)
    (e1 : v.l = l.root) (e2 : v.r = q.root) (hg : good (l.elems ++ v.e :: q.elems)) :
    Rp O S (tie O m r v) (.node r l v.e q) ∧ Upd [r] 3 (zn O) m (tie O m r v) := by
  unfold tie
  have k1 : lk O m v.l = nd O S l := by rw [e1]; exact hl.root ho
  have k2 : lk O (see m v.l) v.r = nd O S q := by rw [lk_see, e2]; exact hq.root ho
  rw [k1, k2]
  obtain ⟨p1, p2⟩ := setN_tr Z (m := see (see m v.l) v.r) (see_ok.2 (see_ok.2 ho)) ((hl.see _).see _) ((hq.see _).see _) (by simpa using hr) hnl hnq e1 e2 hg
  exact ⟨p1, (see2_upd m v.l v.r).to p2 (fun r hr => by simpa using hr) (by omega)⟩
omit Z in
/-- what is there behind m: a tree of these nodes -/
structure Is (O : Ops E A) (S : List E → A) (m : Po E A) (root : Ref) (its : List (Ref × E)) (t : Tr E) : Prop where
  root : root = t.root
  rp : Rp O S m t
  its : t.items = its
  bal : t.bal
theorem turnL_tr {n : Nat} {m : Po E A} (ho : POk n m) {r u : Ref} {a b c : Tr E} {y : E} {v : Node E A} (ha : Rp O S m a) (hb : Rp O S m (.node u b y c)) (hr : has m r = true)
    (nod : (a.refs ++ r :: (b.refs ++ u :: c.refs)).Nodup) (e1 : v.l = a.root) (e2 : v.r = u) (hg : good (a.elems ++ v.e :: (b.elems ++ y :: c.elems))) :
    Rp O S (turnL O m r v) (.node u (.node r a v.e b) y c) ∧ Upd [r, u] 7 (zn O) m (turnL O m r v) := by
  obtain ⟨b1, b2, b3, b4⟩ := hb
  have k1 : lk O m v.r = nd O S (.node u b y c) := by rw [e2]; exact b2
  unfold turnL
  rw [k1, e2]
  simp only [nd]
  simp only [List.nodup_append, List.nodup_cons, List.mem_append, List.mem_cons, not_or] at nod
  have hg1 : good (a.elems ++ v.e :: b.elems) := Z.left _ (y :: c.elems) (by simpa using hg)
  obtain ⟨p1, p2⟩ := tie_tr Z (m := see m u) (r := r) (v := ⟨v.e, v.l, b.root, v.all, v.h⟩) (see_ok.2 ho) (ha.see _) (b3.see _) (by simpa using hr)
    (fun h => nod.2.2 r h r (Or.inl rfl) rfl) (fun h => nod.2.1.1.1 h) e1 rfl hg1
  have q1 := (see_upd (zn O) m u).to p2 (S := [r]) (k := 4) (fun r hr => by simpa using hr) (by omega)
  obtain ⟨s1, s2⟩ := tie_tr Z (m := tie O (see m u) r ⟨v.e, v.l, b.root, v.all, v.h⟩) (r := u) (l := .node r a v.e b) (q := c) (v := ⟨y, r, c.root, ⟨(Tr.node u b y c).items.length, S (Tr.node u b y c).elems⟩, (Tr.node u b y c).h⟩)
    (tie_ok.2 (see_ok.2 ho)) p1 (Rp.frame q1 (fun s hs => by simp; rintro rfl; exact nod.2.1.1.2.2 hs) b4) (by rw [q1.has]; exact b1)
    (by
      rw [Tr.refs_node]
      simp only [List.mem_append, List.mem_cons, not_or]
      exact ⟨fun h => nod.2.2 u h u (Or.inr (Or.inr (Or.inl rfl))) rfl, fun h => nod.2.1.1.2.1 h.symm, fun h => nod.2.1.2.2.2 u h u (Or.inl rfl) rfl⟩)
    (fun h => nod.2.1.2.2.1.1 h) rfl rfl (by rw [Tr.elems_node]; simpa using hg)
  exact ⟨s1, q1.to s2 (fun s hs => by simp at hs; rcases hs with rfl | rfl <;> simp) (by omega)⟩
theorem turnR_tr {n : Nat} {m : Po E A} (ho : POk n m) {r u : Ref} {a b c : Tr E} {y : E} {v : Node E A} (hb : Rp O S m (.node u a y b)) (hc : Rp O S m c) (hr : has m r = true)
    (nod : ((a.refs ++ u :: b.refs) ++ r :: c.refs).Nodup) (e1 : v.l = u) (e2 : v.r = c.root) (hg : good ((a.elems ++ y :: b.elems) ++ v.e :: c.elems)) :
    Rp O S (turnR O m r v) (.node u a y (.node r b v.e c)) ∧ Upd [r, u] 7 (zn O) m (turnR O m r v) := by
  obtain ⟨b1, b2, b3, b4⟩ := hb
  have k1 : lk O m v.l = nd O S (.node u a y b) := by rw [e1]; exact b2
  unfold turnR
  rw [k1, e1]
  simp only [nd]
  simp only [List.nodup_append, List.nodup_cons, List.mem_append, List.mem_cons, not_or] at nod
  have hg1 : good (b.elems ++ v.e :: c.elems) := Z.right (a.elems ++ [y]) _ (by simpa using hg)
  have nu : r ≠ u := fun h => nod.2.2 u (Or.inr (Or.inl rfl)) r (Or.inl rfl) h.symm
  obtain ⟨p1, p2⟩ := tie_tr Z (m := see m u) (r := r) (v := ⟨v.e, b.root, v.r, v.all, v.h⟩) (see_ok.2 ho) (b4.see _) (hc.see _) (by simpa using hr)
    (fun h => nod.2.2 r (Or.inr (Or.inr h)) r (Or.inl rfl) rfl) (fun h => nod.2.1.1 h) rfl e2 hg1
  have q1 := (see_upd (zn O) m u).to p2 (S := [r]) (k := 4) (fun r hr => by simpa using hr) (by omega)
  obtain ⟨s1, s2⟩ := tie_tr Z (m := tie O (see m u) r ⟨v.e, b.root, v.r, v.all, v.h⟩) (r := u) (l := a) (q := .node r b v.e c) (v := ⟨y, a.root, r, ⟨(Tr.node u a y b).items.length, S (Tr.node u a y b).elems⟩, (Tr.node u a y b).h⟩)
    (tie_ok.2 (see_ok.2 ho)) (Rp.frame q1 (fun s hs => by simp; rintro rfl; exact nod.2.2 s (Or.inl hs) s (Or.inl rfl) rfl) b3) p1 (by rw [q1.has]; exact b1)
    (fun h => nod.1.2.2 u h u (Or.inl rfl) rfl)
    (by
      rw [Tr.refs_node]
      simp only [List.mem_append, List.mem_cons, not_or]
      exact ⟨fun h => nod.1.2.1.1 h, fun h => nu h.symm, fun h => nod.2.2 u (Or.inr (Or.inl rfl)) u (Or.inr h) rfl⟩)
    rfl rfl (by simpa [Tr.elems_node] using hg)
  exact ⟨s1, q1.to s2 (fun s hs => by simp at hs; rcases hs with rfl | rfl <;> simp) (by omega)⟩
omit Z in
theorem Rp.see4 {m : Po E A} {t : Tr E} (a b c d : Ref) (h : Rp O S m t) : Rp O S (Gv.see (Gv.see (Gv.see (Gv.see m a) b) c) d) t := (((h.see _).see _).see _).see _
/-- two trees and a node, whose heights differ by 2 at most -/
theorem level_tr {n : Nat} {m : Po E A} (ho : POk n m) {r : Ref} {l q : Tr E} {v : Node E A} (hl : Rp O S m l) (hq : Rp O S m q) (hr : has m r = true)
    (nod : (l.refs ++ r :: q.refs).Nodup) (e1 : v.l = l.root) (e2 : v.r = q.root) (hg : good (l.elems ++ v.e :: q.elems)) (bl : l.bal) (bq : q.bal) (d1 : l.h ≤ q.h + 2) (d2 : q.h ≤ l.h + 2) :
    ∃ t, Is O S (level O m r v).2 (level O m r v).1 (l.items ++ (r, v.e) :: q.items) t ∧ max l.h q.h ≤ t.h ∧ t.h ≤ max l.h q.h + 1 ∧ (l.h ≤ q.h + 1 → q.h ≤ l.h + 1 → t.h = max l.h q.h + 1) ∧
      Upd (l.refs ++ r :: q.refs) 20 (zn O) m (level O m r v).2 := by
  have k1 : lk O m v.l = nd O S l := by rw [e1]; exact hl.root ho
  have k2 : lk O m v.r = nd O S q := by rw [e2]; exact hq.root ho
  have hlen := Z.len _ hg
  have h1 := l.h_le
  have h2 := q.h_le
  simp only [List.length_append, List.length_cons, Tr.elems_length] at hlen
  have w1 : W ((q.h : Int) + 1) = (q.h : Int) + 1 := W_of (by omega)
  have w2 : W ((l.h : Int) + 1) = (l.h : Int) + 1 := W_of (by omega)
  unfold level
  simp only [lk_see, k1, k2, nd_h, w1, w2]
  have nodc := nod
  simp only [List.nodup_append, List.nodup_cons, List.mem_append, List.mem_cons, not_or] at nodc
  split
  · rename_i hgt
    cases l with
    | nil => simp only [Tr.h] at hgt; omega
    | node a ll x lr =>
      obtain ⟨hl1, hl2, hl3, hl4⟩ := hl
      obtain ⟨bl1, bl2, bl3, bl4⟩ := bl
      have k3 : lk O m lr.root = nd O S lr := hl4.root ho
      have k4 : lk O m ll.root = nd O S ll := hl3.root ho
      simp only [nd_node, k3, k4, nd_h, Tr.h] at hgt d1 ⊢
      rw [Tr.refs_node] at nod
      rw [Tr.elems_node] at hg
      have hsee := see4_upd (O := O) m v.l v.r lr.root ll.root
      have hos : POk n (see (see (see (see m v.l) v.r) lr.root) ll.root) := see_ok.2 (see_ok.2 (see_ok.2 (see_ok.2 ho)))
      split
      · rename_i hin
        cases lr with
        | nil => simp only [Tr.h] at hin; omega
        | node b p y c =>
          obtain ⟨hr1, hr2, hr3, hr4⟩ := hl4
          obtain ⟨br1, br2, br3, br4⟩ := bl2
          simp only [Tr.h] at hin hgt d1 bl3 bl4 ⊢
          rw [Tr.refs_node] at nod
          rw [Tr.elems_node] at hg
          have nod1 : (ll.refs ++ a :: (p.refs ++ b :: c.refs)).Nodup := (List.nodup_append.1 nod).1
          obtain ⟨p1, p2⟩ := turnL_tr Z hos (r := a) (u := b) (a := ll) (b := p) (c := c) (y := y) (v := ⟨x, ll.root, b, ⟨(Tr.node a ll x (.node b p y c)).items.length, S (Tr.node a ll x (.node b p y c)).elems⟩, ((Tr.node a ll x (.node b p y c)).h : Nat)⟩)
            (Rp.see4 _ _ _ _ hl3) (Rp.see4 _ _ _ _ ⟨hr1, hr2, hr3, hr4⟩) (by simpa using hl1) nod1 rfl rfl (Z.left _ _ hg)
          have q1 := hsee.to p2 (S := [a, b]) (k := 11) (fun s hs => by simpa using hs) (by omega)
          have nod2 : (((ll.refs ++ a :: p.refs) ++ b :: c.refs) ++ r :: q.refs).Nodup := by simpa using nod
          have dq : ∀ s, s ∈ q.refs → s ∉ [a, b] := fun s hs hab => by
            have := (List.nodup_append.1 nod).2.2 s (by simp at hab; rcases hab with rfl | rfl <;> simp) s (by simp [hs])
            exact this rfl
          obtain ⟨s1, s2⟩ := turnR_tr Z (turnL_ok.2 hos) (r := r) (u := b) (a := .node a ll x p) (b := c) (c := q) (y := y) (v := ⟨v.e, b, v.r, v.all, v.h⟩) p1 (Rp.frame q1 dq hq) (by rw [q1.has]; exact hr)
            (by rw [Tr.refs_node]; exact nod2) rfl e2 (by rw [Tr.elems_node]; simpa using hg)
          rw [e1] at *
          refine ⟨.node b (.node a ll x p) y (.node r c v.e q), ⟨rfl, s1, by simp [Tr.items], ?_⟩, ?_, ?_, ?_, (q1.to s2 (fun s hs => by simp at hs; rw [Tr.refs_node, Tr.refs_node]; rcases hs with (rfl | rfl) | rfl | rfl <;> simp) (by omega))⟩
          · simp only [Tr.bal, Tr.h]
            refine ⟨⟨bl1, br1, by omega, by omega⟩, ⟨br2, bq, by omega, by omega⟩, by omega, by omega⟩
          · simp only [Tr.h]; omega
          · simp only [Tr.h]; omega
          · intro _ _; omega
      · rename_i hin
        obtain ⟨s1, s2⟩ := turnR_tr Z hos (r := r) (u := a) (a := ll) (b := lr) (c := q) (y := x) (v := v) (Rp.see4 _ _ _ _ ⟨hl1, hl2, hl3, hl4⟩) (Rp.see4 _ _ _ _ hq) (by simpa using hr)
          nod e1 e2 hg
        rw [e1] at *
        refine ⟨.node a ll x (.node r lr v.e q), ⟨rfl, s1, by simp [Tr.items], ?_⟩, ?_, ?_, ?_, (hsee.to s2 (fun s hs => by simp at hs; rw [Tr.refs_node]; rcases hs with rfl | rfl <;> simp) (by omega))⟩
        · simp only [Tr.bal, Tr.h]
          refine ⟨bl1, ⟨bl2, bq, by omega, by omega⟩, by omega, by omega⟩
        · simp only [Tr.h]; omega
        · simp only [Tr.h]; omega
        · intro _ _; omega
  · split
    · rename_i hngt hgt
      cases q with
      | nil => simp only [Tr.h] at hgt; omega
      | node a ql x qr =>
        obtain ⟨hq1, hq2, hq3, hq4⟩ := hq
        obtain ⟨bq1, bq2, bq3, bq4⟩ := bq
        have k3 : lk O m ql.root = nd O S ql := hq3.root ho
        have k4 : lk O m qr.root = nd O S qr := hq4.root ho
        simp only [nd_node, k3, k4, nd_h, Tr.h] at hgt d2 ⊢
        rw [Tr.refs_node] at nod
        rw [Tr.elems_node] at hg
        have hsee := see4_upd (O := O) m v.l v.r ql.root qr.root
        have hos : POk n (see (see (see (see m v.l) v.r) ql.root) qr.root) := see_ok.2 (see_ok.2 (see_ok.2 (see_ok.2 ho)))
        split
        · rename_i hin
          cases ql with
          | nil => simp only [Tr.h] at hin; omega
          | node b p y c =>
            obtain ⟨hr1, hr2, hr3, hr4⟩ := hq3
            obtain ⟨br1, br2, br3, br4⟩ := bq1
            simp only [Tr.h] at hin hgt d2 bq3 bq4 ⊢
            rw [Tr.refs_node] at nod
            rw [Tr.elems_node] at hg
            have nod1 : ((p.refs ++ b :: c.refs) ++ a :: qr.refs).Nodup := (List.nodup_cons.1 (List.nodup_append.1 nod).2.1).2
            have hg1 : good ((p.elems ++ y :: c.elems) ++ x :: qr.elems) := Z.right (l.elems ++ [v.e]) _ (by simpa using hg)
            obtain ⟨p1, p2⟩ := turnR_tr Z hos (r := a) (u := b) (a := p) (b := c) (c := qr) (y := y) (v := ⟨x, b, qr.root, ⟨(Tr.node a (.node b p y c) x qr).items.length, S (Tr.node a (.node b p y c) x qr).elems⟩, ((Tr.node a (.node b p y c) x qr).h : Nat)⟩)
              (Rp.see4 _ _ _ _ ⟨hr1, hr2, hr3, hr4⟩) (Rp.see4 _ _ _ _ hq4) (by simpa using hq1) nod1 rfl rfl hg1
            have q1 := hsee.to p2 (S := [a, b]) (k := 11) (fun s hs => by simpa using hs) (by omega)
            have dl : ∀ s, s ∈ l.refs → s ∉ [a, b] := fun s hs hab => by
              have := (List.nodup_append.1 nod).2.2 s hs s (by simp at hab; rcases hab with rfl | rfl <;> simp)
              exact this rfl
            obtain ⟨s1, s2⟩ := turnL_tr Z (turnR_ok.2 hos) (r := r) (u := b) (a := l) (b := p) (c := .node a c x qr) (y := y) (v := ⟨v.e, v.l, b, v.all, v.h⟩) (Rp.frame q1 dl hl) p1 (by rw [q1.has]; exact hr)
              (by rw [Tr.refs_node]; simpa using nod) e1 rfl (by rw [Tr.elems_node]; simpa using hg)
            rw [e2] at *
            refine ⟨.node b (.node r l v.e p) y (.node a c x qr), ⟨rfl, s1, by simp [Tr.items], ?_⟩, ?_, ?_, ?_, (q1.to s2 (fun s hs => by simp at hs; rw [Tr.refs_node, Tr.refs_node]; rcases hs with (rfl | rfl) | rfl | rfl <;> simp) (by omega))⟩
            · simp only [Tr.bal, Tr.h]
              refine ⟨⟨bl, br1, by omega, by omega⟩, ⟨br2, bq2, by omega, by omega⟩, by omega, by omega⟩
            · simp only [Tr.h]; omega
            · simp only [Tr.h]; omega
            · intro _ _; omega
        · rename_i hin
          obtain ⟨s1, s2⟩ := turnL_tr Z hos (r := r) (u := a) (a := l) (b := ql) (c := qr) (y := x) (v := v) (Rp.see4 _ _ _ _ hl) (Rp.see4 _ _ _ _ ⟨hq1, hq2, hq3, hq4⟩) (by simpa using hr)
            nod e1 e2 hg
          rw [e2] at *
          refine ⟨.node a (.node r l v.e ql) x qr, ⟨rfl, s1, by simp [Tr.items], ?_⟩, ?_, ?_, ?_, (hsee.to s2 (fun s hs => by simp at hs; rw [Tr.refs_node]; rcases hs with rfl | rfl <;> simp) (by omega))⟩
          · simp only [Tr.bal, Tr.h]
            refine ⟨⟨bl, bq1, by omega, by omega⟩, bq2, by omega, by omega⟩
          · simp only [Tr.h]; omega
          · simp only [Tr.h]; omega
          · intro _ _; omega
    · rename_i hn1 hn2
      obtain ⟨s1, s2⟩ := setN_tr Z (m := see (see m v.l) v.r) (see_ok.2 (see_ok.2 ho)) ((hl.see _).see _) ((hq.see _).see _) (by simpa using hr) (fun h => nodc.2.2 r h r (Or.inl rfl) rfl) (fun h => nodc.2.1.1 h) e1 e2 hg
      refine ⟨.node r l v.e q, ⟨rfl, s1, rfl, ⟨bl, bq, by omega, by omega⟩⟩, ?_, ?_, ?_, (see2_upd m v.l v.r).to s2 (fun s hs => by simp at hs; subst hs; simp) (by omega)⟩
      · simp only [Tr.h]; omega
      · simp only [Tr.h]; omega
      · intro _ _; simp only [Tr.h]; omega
end
end Go.Proofs.Ytclagkjjgmeifaa.Gv


/- grove: what is put in, taken out, parted and joined. -/
namespace Go.Proofs.Ytclagkjjgmeifaa.Gv
open Go.Proofs.Ytclagkjjgmeifaa.Rx
set_option linter.unusedVariables false
set_option linter.unusedSimpArgs false
set_option linter.unusedSectionVars false
section
variable {E A : Type} (O : Ops E A)
/-- what is ahead of e, and the rest -/
def lo (e : E) (l : List (Ref × E)) : List (Ref × E) := l.takeWhile fun x => decide (0 < O.cmp e x.2)
def hi (e : E) (l : List (Ref × E)) : List (Ref × E) := l.dropWhile fun x => decide (0 < O.cmp e x.2)
def hit (e : E) (l : List (Ref × E)) : Option (Ref × E) :=
  match hi O e l with
  | [] => none
  | x :: _ => if O.cmp e x.2 = 0 then some x else none
def Srt (l : List (Ref × E)) : Prop := l.Pairwise fun a b => O.cmp a.2 b.2 < 0
theorem lo_hi (e : E) (l : List (Ref × E)) : lo O e l ++ hi O e l = l := List.takeWhile_append_dropWhile
variable {O} {S : List E → A} {good : List E → Prop} (Z : Laws O S good)
theorem tw_append {α : Type} (p : α → Bool) : ∀ (l q : List α), (∀ x ∈ l, p x = true) → (l ++ q).takeWhile p = l ++ q.takeWhile p ∧ (l ++ q).dropWhile p = q.dropWhile p
  | [], q, _ => ⟨rfl, rfl⟩
  | a :: l, q, h => by
    obtain ⟨h1, h2⟩ := tw_append p l q fun x hx => h x (List.mem_cons_of_mem _ hx)
    have ha := h a List.mem_cons_self
    simp [List.takeWhile_cons, List.dropWhile_cons, ha, h1, h2]
theorem tw_stop {α : Type} (p : α → Bool) (a : α) (q : List α) (ha : p a = false) : ∀ l : List α, (l ++ a :: q).takeWhile p = l.takeWhile p ∧ (l ++ a :: q).dropWhile p = l.dropWhile p ++ a :: q
  | [] => by simp [List.takeWhile_cons, List.dropWhile_cons, ha]
  | b :: l => by
    obtain ⟨h1, h2⟩ := tw_stop p a q ha l
    simp only [List.cons_append, List.takeWhile_cons, List.dropWhile_cons]
    split
    · exact ⟨by rw [h1], h2⟩
    · exact ⟨rfl, rfl⟩
theorem lo_lt {e : E} {l q : List (Ref × E)} {r : Ref} {x : E} (h : O.cmp e x < 0) : lo O e (l ++ (r, x) :: q) = lo O e l ∧ hi O e (l ++ (r, x) :: q) = hi O e l ++ (r, x) :: q :=
  tw_stop _ _ _ (by simp; omega) _
include Z in
theorem Srt.ahead {l q : List (Ref × E)} {r : Ref} {x e : E} (hs : Srt O (l ++ (r, x) :: q)) (h : 0 ≤ O.cmp e x) : ∀ y ∈ l, decide (0 < O.cmp e y.2) = true := by
  intro y hy
  have h1 : O.cmp y.2 x < 0 := (List.pairwise_append.1 hs).2.2 y hy (r, x) List.mem_cons_self
  refine decide_eq_true ((Z.swap _ _).1 ?_)
  rcases Int.lt_or_eq_of_le h with h2 | h2
  · exact Z.trans _ _ _ h1 ((Z.swap _ _).2 h2)
  · exact Z.eqv' _ _ _ h2.symm h1
include Z in
theorem lo_gt {e : E} {l q : List (Ref × E)} {r : Ref} {x : E} (hs : Srt O (l ++ (r, x) :: q)) (h : 0 < O.cmp e x) : lo O e (l ++ (r, x) :: q) = l ++ (r, x) :: lo O e q ∧ hi O e (l ++ (r, x) :: q) = hi O e q := by
  obtain ⟨h1, h2⟩ := tw_append (fun y : Ref × E => decide (0 < O.cmp e y.2)) l ((r, x) :: q) (hs.ahead Z (by omega))
  have hx : decide (0 < O.cmp e x) = true := decide_eq_true h
  unfold lo hi
  rw [h1, h2, List.takeWhile_cons, List.dropWhile_cons, if_pos hx, if_pos hx]
  exact ⟨rfl, rfl⟩
include Z in
theorem lo_eq {e : E} {l q : List (Ref × E)} {r : Ref} {x : E} (hs : Srt O (l ++ (r, x) :: q)) (h : O.cmp e x = 0) : lo O e (l ++ (r, x) :: q) = l ∧ hi O e (l ++ (r, x) :: q) = (r, x) :: q := by
  obtain ⟨h1, h2⟩ := tw_append (fun y : Ref × E => decide (0 < O.cmp e y.2)) l ((r, x) :: q) (hs.ahead Z (by omega))
  have hx : ¬ decide (0 < O.cmp e x) = true := by simp; omega
  unfold lo hi
  rw [h1, h2, List.takeWhile_cons, List.dropWhile_cons, if_neg hx, if_neg hx]
  simp
theorem hit_lt {e : E} {l q : List (Ref × E)} {r : Ref} {x : E} (h : O.cmp e x < 0) : hit O e (l ++ (r, x) :: q) = hit O e l := by
  unfold hit
  rw [(lo_lt h).2]
  cases hl : hi O e l with
  | nil => simp only [List.nil_append]; rw [if_neg (by omega)]
  | cons y tl => rfl
include Z in
theorem hit_gt {e : E} {l q : List (Ref × E)} {r : Ref} {x : E} (hs : Srt O (l ++ (r, x) :: q)) (h : 0 < O.cmp e x) : hit O e (l ++ (r, x) :: q) = hit O e q := by
  unfold hit
  rw [(lo_gt Z hs h).2]
include Z in
theorem hit_eq {e : E} {l q : List (Ref × E)} {r : Ref} {x : E} (hs : Srt O (l ++ (r, x) :: q)) (h : O.cmp e x = 0) : hit O e (l ++ (r, x) :: q) = some (r, x) := by
  unfold hit
  rw [(lo_eq Z hs h).2]
  simp only
  rw [if_pos h]
theorem hit_some {e : E} {l : List (Ref × E)} {x : Ref × E} (h : hit O e l = some x) : hi O e l = x :: (hi O e l).tail ∧ O.cmp e x.2 = 0 ∧ x ∈ l := by
  unfold hit at h
  split at h
  · cases h
  · rename_i y tl hy
    split at h
    · rename_i hc
      injection h with h
      subst h
      rw [hy]
      refine ⟨rfl, hc, ?_⟩
      rw [← lo_hi O e l, hy]
      simp
    · cases h
theorem Srt.left {l q : List (Ref × E)} (h : Srt O (l ++ q)) : Srt O l := (List.pairwise_append.1 h).1
theorem Srt.right {l q : List (Ref × E)} (h : Srt O (l ++ q)) : Srt O q := (List.pairwise_append.1 h).2.1
abbrev gd (good : List E → Prop) (l : List (Ref × E)) : Prop := good (l.map Prod.snd)
/-- handles -/
abbrev rf (l : List (Ref × E)) : List Ref := l.map Prod.fst
theorem Tr.items_node (r : Ref) (l : Tr E) (e : E) (q : Tr E) : (Tr.node r l e q).items = l.items ++ (r, e) :: q.items := rfl
include Z
theorem hang_tr {n : Nat} {f : Ref} {e : E} : ∀ (t : Tr E) {k : Nat} {m : Po E A}, POk n m → Rp O S m t → t.bal → Srt O t.items → (f :: t.refs).Nodup → has m f = true →
    lk O m f = ⟨e, r0, r0, one O e, 1⟩ → hit O e t.items = none → gd good (lo O e t.items ++ (f, e) :: hi O e t.items) → t.h < k →
    ∃ t', Is O S (hang O k m t.root f e).2 (hang O k m t.root f e).1 (lo O e t.items ++ (f, e) :: hi O e t.items) t' ∧ t.h ≤ t'.h ∧ t'.h ≤ t.h + 1 ∧ Upd (f :: t.refs) (30 * t.h + 1) (zn O) m (hang O k m t.root f e).2
  | t, 0, m, _, _, _, _, _, _, _, _, _, hk => by omega
  | .nil, k + 1, m, ho, hr, hb, hs, hn, hf, hfe, hh, hg, hk => by
    have h0 : (lk O m (Tr.nil (E := E)).root).h = 0 := by rw [(show Rp O S m .nil from trivial).root ho]; rfl
    rw [hang, if_pos h0]
    refine ⟨.node f .nil e .nil, ⟨rfl, ⟨by simpa using hf, ?_, trivial, trivial⟩, rfl, ⟨trivial, trivial, by simp [Tr.h], by simp [Tr.h]⟩⟩, by simp [Tr.h], by simp [Tr.h], (see_upd _ _ _).mono (fun s hs => by cases hs) (by omega)⟩
    rw [lk_see, hfe, nd_node]
    simp [Tr.items, Tr.elems, Tr.h, Tr.root, one, Z.one]
  | .node r l x q, k + 1, m, ho, hr, hb, hs, hn, hf, hfe, hh, hg, hk => by
    have hrt := hr.root ho
    obtain ⟨hr1, hr2, hr3, hr4⟩ := hr
    obtain ⟨b1, b2, b3, b4⟩ := hb
    have h0 : ¬ (lk O m r).h = 0 := by rw [hr2, nd_h]; simp only [Tr.h]; omega
    simp only [Tr.root]
    rw [Tr.items_node] at hs hh hg ⊢
    rw [Tr.refs_node] at hn ⊢
    rw [hang, if_neg h0, hr2, nd_node]
    simp only [Tr.h] at hk ⊢
    have hne : O.cmp e x ≠ 0 := fun hx => by rw [hit_eq Z hs hx] at hh; cases hh
    by_cases hc : O.cmp e x < 0
    · rw [if_pos hc]
      obtain ⟨e1, e2⟩ := lo_lt (l := l.items) (q := q.items) (r := r) hc
      rw [e1, e2] at hg ⊢
      rw [hit_lt hc] at hh
      have hg1 : gd good (lo O e l.items ++ (f, e) :: hi O e l.items) := Z.left _ ((x :: q.elems)) (by simpa [gd, Tr.elems] using hg)
      have hn1 : (f :: l.refs).Nodup := (List.nodup_append (l₂ := r :: q.refs).1 (by simpa using hn)).1
      obtain ⟨t', h1, h2, h3, h4⟩ := hang_tr l (k := k) (m := see m r) (see_ok.2 ho) (hr3.see _) b1 hs.left hn1 (by simpa using hf) (by rw [lk_see]; exact hfe) hh hg1 (by omega)
      have hu : Upd (f :: l.refs) (30 * l.h + 2) (zn O) m (hang O k (see m r) l.root f e).2 := (see_upd _ m r).to h4 (fun s hs => by simpa using hs) (by omega)
      have hrefs : t'.refs = rf (lo O e l.items) ++ f :: rf (hi O e l.items) := by simp [Tr.refs, h1.its]
      have hlr : l.refs = rf (lo O e l.items) ++ rf (hi O e l.items) := by rw [Tr.refs]; conv => lhs; rw [← lo_hi O e l.items]; simp
      have hnd : (t'.refs ++ r :: q.refs).Nodup := by
        rw [hrefs]
        rw [hlr] at hn
        have : (rf (lo O e l.items) ++ f :: (rf (hi O e l.items) ++ r :: q.refs)).Nodup := List.perm_middle.nodup_iff.2 (by simpa using hn)
        simpa using this
      have hni : ∀ s, s ∈ r :: q.refs → s ∉ f :: l.refs := fun s hs hs2 => (List.nodup_append (l₁ := f :: l.refs) (l₂ := r :: q.refs).1 (by simpa using hn)).2.2 s hs2 s hs rfl
      rw [h1.root]
      obtain ⟨u, u1, u2, u3, u4, u5⟩ := level_tr Z (m := (hang O k (see m r) l.root f e).2) (hang_ok.2 (see_ok.2 ho)) (r := r) (l := t') (q := q)
        (v := ⟨x, t'.root, q.root, ⟨(Tr.node r l x q).items.length, S (Tr.node r l x q).elems⟩, ((Tr.node r l x q).h : Nat)⟩) h1.rp (Rp.frame hu (fun s hs => hni s (by simp [hs])) hr4) (by rw [hu.has]; exact hr1) hnd rfl rfl
        (by rw [Tr.elems, h1.its]; simpa [gd, Tr.elems] using hg) h1.bal b2 (by omega) (by omega)
      refine ⟨u, ⟨u1.root, u1.rp, by rw [u1.its, h1.its]; simp, u1.bal⟩, ?_, by omega, hu.to u5 (fun s hs => ?_) (by omega)⟩
      · rcases Nat.lt_or_ge (q.h + 1) t'.h with hx | hx
        · omega
        · have := u4 hx (by omega); omega
      · rw [hrefs] at hs
        rw [hlr] at hs ⊢
        simp only [List.mem_cons, List.mem_append] at hs ⊢
        rcases hs with (h | h | h) | (h | h | h) | h | h <;> simp [h]
    · rw [if_neg hc]
      have hc2 : 0 < O.cmp e x := by omega
      obtain ⟨e1, e2⟩ := lo_gt Z hs hc2
      rw [e1, e2] at hg ⊢
      rw [hit_gt Z hs hc2] at hh
      have hg1 : gd good (lo O e q.items ++ (f, e) :: hi O e q.items) := Z.right (l.elems ++ [x]) _ (by simpa [gd, Tr.elems] using hg)
      have hn0 := List.nodup_cons.1 hn
      have hn1 : (f :: q.refs).Nodup := List.nodup_cons.2 ⟨fun h => hn0.1 (by simp [h]), (List.nodup_cons.1 (List.nodup_append.1 hn0.2).2.1).2⟩
      have hsq : Srt O q.items := (List.pairwise_cons.1 hs.right).2
      obtain ⟨t', h1, h2, h3, h4⟩ := hang_tr q (k := k) (m := see m r) (see_ok.2 ho) (hr4.see _) b2 hsq hn1 (by simpa using hf) (by rw [lk_see]; exact hfe) hh hg1 (by omega)
      have hu : Upd (f :: q.refs) (30 * q.h + 2) (zn O) m (hang O k (see m r) q.root f e).2 := (see_upd _ m r).to h4 (fun s hs => by simpa using hs) (by omega)
      have hrefs : t'.refs = rf (lo O e q.items) ++ f :: rf (hi O e q.items) := by simp [Tr.refs, h1.its]
      have hlr : q.refs = rf (lo O e q.items) ++ rf (hi O e q.items) := by rw [Tr.refs]; conv => lhs; rw [← lo_hi O e q.items]; simp
      have hnd : (l.refs ++ r :: t'.refs).Nodup := by
        rw [hrefs]
        rw [hlr] at hn
        have : ((l.refs ++ r :: rf (lo O e q.items)) ++ f :: rf (hi O e q.items)).Nodup := List.perm_middle.nodup_iff.2 (by simpa using hn)
        simpa using this
      have hni : ∀ s, s ∈ l.refs ++ [r] → s ∉ f :: q.refs := fun s hs hs2 => by
        rcases List.mem_cons.1 hs2 with rfl | hs2
        · refine hn0.1 ?_
          rcases List.mem_append.1 hs with h | h
          · simp [h]
          · simp at h; simp [h]
        · have : ((l.refs ++ [r]) ++ q.refs).Nodup := by simpa using hn0.2
          exact (List.nodup_append.1 this).2.2 s hs s hs2 rfl
      rw [h1.root]
      obtain ⟨u, u1, u2, u3, u4, u5⟩ := level_tr Z (m := (hang O k (see m r) q.root f e).2) (hang_ok.2 (see_ok.2 ho)) (r := r) (l := l) (q := t')
        (v := ⟨x, l.root, t'.root, ⟨(Tr.node r l x q).items.length, S (Tr.node r l x q).elems⟩, ((Tr.node r l x q).h : Nat)⟩) (Rp.frame hu (fun s hs => hni s (by simp [hs])) hr3) h1.rp (by rw [hu.has]; exact hr1) hnd rfl rfl
        (by rw [show t'.elems = t'.items.map Prod.snd from rfl, h1.its]; simpa [gd, Tr.elems] using hg) b1 h1.bal (by omega) (by omega)
      refine ⟨u, ⟨u1.root, u1.rp, by rw [u1.its, h1.its]; simp, u1.bal⟩, ?_, by omega, hu.to u5 (fun s hs => ?_) (by omega)⟩
      · rcases Nat.lt_or_ge (l.h + 1) t'.h with hx | hx
        · omega
        · have := u4 (by omega) hx; omega
      · rw [hrefs] at hs
        rw [hlr] at hs ⊢
        simp only [List.mem_cons, List.mem_append] at hs ⊢
        rcases hs with (h | h | h) | h | h | h | h | h <;> simp [h]
end
end Go.Proofs.Ytclagkjjgmeifaa.Gv


/- grove: what is taken out, parted and joined. -/
namespace Go.Proofs.Ytclagkjjgmeifaa.Gv
open Go.Proofs.Ytclagkjjgmeifaa.Rx
set_option linter.unusedVariables false
set_option linter.unusedSimpArgs false
set_option linter.unusedSectionVars false
section
variable {E A : Type} {O : Ops E A} {S : List E → A} {good : List E → Prop} (Z : Laws O S good)
theorem Tr.root_node (r : Ref) (l : Tr E) (e : E) (q : Tr E) : (Tr.node r l e q).root = r := rfl
theorem Deep_tr {n : Nat} : ∀ (t : Tr E) {k : Nat} {m : Po E A}, POk n m → Rp O S m t → t.h < k → Deep O k m t.root
  | t, 0, m, _, _, hk => by omega
  | .nil, k + 1, m, ho, hr, hk => .inl (by rw [hr.root ho]; rfl)
  | .node r l x q, k + 1, m, ho, ⟨hr1, hr2, hr3, hr4⟩, hk => by
    simp only [Tr.h] at hk
    refine .inr ?_
    simp only [Tr.root]
    rw [hr2, nd_node]
    exact ⟨Deep_tr l ho hr3 (by omega), Deep_tr q ho hr4 (by omega)⟩
theorem Rp.elem {m : Po E A} : ∀ {t : Tr E}, Rp O S m t → ∀ p, p ∈ t.items → (lk O m p.1).e = p.2
  | .nil, _, p, hp => by cases hp
  | .node r l x q, ⟨h1, h2, h3, h4⟩, p, hp => by
    rw [Tr.items_node, List.mem_append, List.mem_cons] at hp
    rcases hp with hp | rfl | hp
    · exact Rp.elem h3 p hp
    · rw [h2]; rfl
    · exact Rp.elem h4 p hp
theorem lo_lt' {e : E} {l q : List (Ref × E)} {r : Ref} {x : E} (h : ¬ 0 < O.cmp e x) : lo O e (l ++ (r, x) :: q) = lo O e l ∧ hi O e (l ++ (r, x) :: q) = hi O e l ++ (r, x) :: q :=
  tw_stop _ _ _ (by simp; omega) _
theorem nil_of_root {n : Nat} {m : Po E A} (ho : POk n m) {t : Tr E} (h : Rp O S m t) (hr : t.root = r0) : t = .nil := by
  cases t with
  | nil => rfl
  | node r l x q => exact absurd hr (root_ne ho h (by simp))
theorem see3_upd (m : Po E A) (a b c : Ref) : Upd [] 3 (zn O) m (see (see (see m a) b) c) := (see2_upd m a b).to (see_upd _ _ c) (fun r hr => by simp at hr) (Nat.le_refl _)
include Z
theorem link_tr {n : Nat} {b : Ref} {e : E} : ∀ (k : Nat) (l q : Tr E) {m : Po E A}, POk n m → Rp O S m l → Rp O S m q → has m b = true → (lk O m b).e = e → (l.refs ++ b :: q.refs).Nodup → good (l.elems ++ e :: q.elems) → l.bal → q.bal → l.h + q.h < k →
    LinkD O k m l.root b q.root ∧ ∃ t, Is O S (link O k m l.root b q.root).2 (link O k m l.root b q.root).1 (l.items ++ (b, e) :: q.items) t ∧ max l.h q.h ≤ t.h ∧ t.h ≤ max l.h q.h + 1 ∧ (l.h ≤ q.h + 1 → q.h ≤ l.h + 1 → t.h = max l.h q.h + 1) ∧
      Upd (l.refs ++ b :: q.refs) (30 * (l.h + q.h) + 4) (zn O) m (link O k m l.root b q.root).2
  | 0, l, q, m, _, _, _, _, _, _, _, _, _, hk => by omega
  | k + 1, l, q, m, ho, hl, hq, hb, he, nod, hg, bl, bq, hk => by
    have k1 : lk O m l.root = nd O S l := hl.root ho
    have k2 : lk O m q.root = nd O S q := hq.root ho
    have hlen := Z.len _ hg
    have h1 := l.h_le
    have h2 := q.h_le
    simp only [List.length_append, List.length_cons, Tr.elems_length] at hlen
    have w1 : W ((q.h : Int) + 1) = (q.h : Int) + 1 := W_of (by omega)
    have w2 : W ((l.h : Int) + 1) = (l.h : Int) + 1 := W_of (by omega)
    have ho2 : POk n (see (see m l.root) q.root) := see_ok.2 (see_ok.2 ho)
    have nodc := nod
    simp only [List.nodup_append, List.nodup_cons, List.mem_append, List.mem_cons, not_or] at nodc
    rw [LinkD, link]
    simp only [lk_see, k1, k2, nd_h, w1, w2]
    by_cases c1 : (l.h : Int) > q.h + 1
    · rw [if_pos c1, if_pos c1]
      cases l with
      | nil => simp only [Tr.h] at c1; omega
      | node a ll x lr =>
        obtain ⟨hl1, hl2, hl3, hl4⟩ := hl
        obtain ⟨bl1, bl2, bl3, bl4⟩ := bl
        simp only [Tr.h] at c1 hk
        simp only [nd_node, Tr.root_node, Tr.h]
        rw [Tr.refs_node] at nod ⊢
        rw [Tr.elems_node] at hg
        have nod' : (ll.refs ++ a :: (lr.refs ++ b :: q.refs)).Nodup := by simpa using nod
        obtain ⟨d, t', i1, i2, i3, i4, i5⟩ := link_tr k lr q (m := see (see m a) q.root) (see_ok.2 (see_ok.2 ho)) ((hl4.see _).see _) ((hq.see _).see _) (by simpa using hb) (by simpa using he) (List.nodup_cons.1 (List.nodup_append.1 nod').2.1).2
          (Z.right (ll.elems ++ [x]) _ (by simpa using hg)) bl2 bq (by omega)
        have hu := (see2_upd (O := O) m a q.root).to i5 (S := lr.refs ++ b :: q.refs) (k := 30 * (lr.h + q.h) + 6) (fun s hs => by simpa using hs) (by omega)
        have hr' : t'.refs = lr.refs ++ b :: q.refs := by rw [Tr.refs, i1.its]; simp [Tr.refs]
        have he' : t'.elems = lr.elems ++ e :: q.elems := by rw [Tr.elems, i1.its]; simp [Tr.elems]
        have dis : ∀ s, s ∈ ll.refs ++ [a] → s ∉ lr.refs ++ b :: q.refs := fun s hs hs2 => by
          have : ((ll.refs ++ [a]) ++ (lr.refs ++ b :: q.refs)).Nodup := by simpa using nod'
          exact (List.nodup_append.1 this).2.2 s hs s hs2 rfl
        refine ⟨d, ?_⟩
        rw [i1.root]
        obtain ⟨u, u1, u2, u3, u4, u5⟩ := level_tr Z (m := (link O k (see (see m a) q.root) lr.root b q.root).2) (link_ok.2 (see_ok.2 (see_ok.2 ho))) (r := a) (l := ll) (q := t')
          (v := ⟨x, ll.root, t'.root, ⟨(Tr.node a ll x lr).items.length, S (Tr.node a ll x lr).elems⟩, ((Tr.node a ll x lr).h : Nat)⟩) (Rp.frame hu (fun s hs => dis s (by simp [hs])) hl3) i1.rp (by rw [hu.has]; exact hl1)
          (by rw [hr']; exact nod') rfl rfl (by rw [he']; simpa using hg) bl1 i1.bal (by omega) (by omega)
        simp only [Tr.h] at u4 u5 ⊢
        refine ⟨u, ⟨u1.root, u1.rp, by rw [u1.its, i1.its]; simp [Tr.items], u1.bal⟩, ?_, ?_, fun _ _ => by omega, hu.to u5 (fun s hs => ?_) (by omega)⟩
        · rcases Nat.lt_or_ge (ll.h + 1) t'.h with hx | hx
          · omega
          · have := u4 (by omega) hx; omega
        · rcases Nat.lt_or_ge (ll.h + 1) t'.h with hx | hx
          · omega
          · have := u4 (by omega) hx; omega
        · rw [hr'] at hs
          simp only [List.mem_append, List.mem_cons] at hs ⊢
          rcases hs with (h | h | h) | h | h | h | h | h <;> simp [h]
    · rw [if_neg c1, if_neg c1]
      by_cases c2 : (q.h : Int) > l.h + 1
      · rw [if_pos c2, if_pos c2]
        cases q with
        | nil => simp only [Tr.h] at c2; omega
        | node a ql x qr =>
          obtain ⟨hq1, hq2, hq3, hq4⟩ := hq
          obtain ⟨bq1, bq2, bq3, bq4⟩ := bq
          simp only [Tr.h] at c2 hk
          simp only [nd_node, Tr.root_node, Tr.h]
          rw [Tr.refs_node] at nod ⊢
          rw [Tr.elems_node] at hg
          have nod' : ((l.refs ++ b :: ql.refs) ++ a :: qr.refs).Nodup := by simpa using nod
          obtain ⟨d, t', i1, i2, i3, i4, i5⟩ := link_tr k l ql (m := see (see m l.root) a) (see_ok.2 (see_ok.2 ho)) ((hl.see _).see _) ((hq3.see _).see _) (by simpa using hb) (by simpa using he) (List.nodup_append.1 nod').1
            (Z.left _ (x :: qr.elems) (by simpa using hg)) bl bq1 (by omega)
          have hu := (see2_upd (O := O) m l.root a).to i5 (S := l.refs ++ b :: ql.refs) (k := 30 * (l.h + ql.h) + 6) (fun s hs => by simpa using hs) (by omega)
          have hr' : t'.refs = l.refs ++ b :: ql.refs := by rw [Tr.refs, i1.its]; simp [Tr.refs]
          have he' : t'.elems = l.elems ++ e :: ql.elems := by rw [Tr.elems, i1.its]; simp [Tr.elems]
          have dis : ∀ s, s ∈ a :: qr.refs → s ∉ l.refs ++ b :: ql.refs := fun s hs hs2 => (List.nodup_append.1 nod').2.2 s hs2 s hs rfl
          refine ⟨d, ?_⟩
          rw [i1.root]
          obtain ⟨u, u1, u2, u3, u4, u5⟩ := level_tr Z (m := (link O k (see (see m l.root) a) l.root b ql.root).2) (link_ok.2 (see_ok.2 (see_ok.2 ho))) (r := a) (l := t') (q := qr)
            (v := ⟨x, t'.root, qr.root, ⟨(Tr.node a ql x qr).items.length, S (Tr.node a ql x qr).elems⟩, ((Tr.node a ql x qr).h : Nat)⟩) i1.rp (Rp.frame hu (fun s hs => dis s (by simp [hs])) hq4) (by rw [hu.has]; exact hq1)
            (by rw [hr']; exact nod') rfl rfl (by rw [he']; simpa using hg) i1.bal bq2 (by omega) (by omega)
          simp only [Tr.h] at u4 u5 ⊢
          refine ⟨u, ⟨u1.root, u1.rp, by rw [u1.its, i1.its]; simp [Tr.items], u1.bal⟩, ?_, ?_, fun _ _ => by omega, hu.to u5 (fun s hs => ?_) (by omega)⟩
          · rcases Nat.lt_or_ge (qr.h + 1) t'.h with hx | hx
            · omega
            · have := u4 hx (by omega); omega
          · rcases Nat.lt_or_ge (qr.h + 1) t'.h with hx | hx
            · omega
            · have := u4 hx (by omega); omega
          · rw [hr'] at hs
            simp only [List.mem_append, List.mem_cons] at hs ⊢
            rcases hs with (h | h | h) | (h | h | h) | h | h <;> simp [h]
      · rw [if_neg c2, if_neg c2]
        refine ⟨trivial, ?_⟩
        obtain ⟨s1, s2⟩ := setN_tr Z (m := see (see (see m l.root) q.root) b) (r := b) (l := l) (q := q) (v := ⟨(lk O m b).e, l.root, q.root, (lk O m b).all, (lk O m b).h⟩) (see_ok.2 ho2) (((hl.see _).see _).see _) (((hq.see _).see _).see _) (by simpa using hb)
          (fun h => nodc.2.2 b h b (Or.inl rfl) rfl) (fun h => nodc.2.1.1 h) rfl rfl (by simpa [he] using hg)
        simp only [he] at s1 s2 ⊢
        refine ⟨.node b l e q, ⟨rfl, s1, rfl, ⟨bl, bq, by omega, by omega⟩⟩, ?_, ?_, ?_, (see3_upd m l.root q.root b).to s2 (fun s hs => by simp at hs; subst hs; simp) (by omega)⟩
        · simp only [Tr.h]; omega
        · simp only [Tr.h]; omega
        · intro _ _; simp only [Tr.h]; omega
theorem pickF_tr {n : Nat} : ∀ (t : Tr E) {k : Nat} {m : Po E A}, POk n m → Rp O S m t → t.bal → t.refs.Nodup → good t.elems → t ≠ .nil → t.h ≤ k →
    PickFD O k m t.root ∧ ∃ f x tl t', t.items = (f, x) :: tl ∧ Is O S (pickF O k m t.root).2.2 (pickF O k m t.root).1 tl t' ∧ (pickF O k m t.root).2.1 = f ∧ t.h ≤ t'.h + 1 ∧ t'.h ≤ t.h ∧ Upd (rf tl) (30 * t.h) (zn O) m (pickF O k m t.root).2.2
  | .nil, k, m, _, _, _, _, _, hn, _ => absurd rfl hn
  | .node r l x q, 0, m, _, _, _, _, _, _, hk => by simp only [Tr.h] at hk; omega
  | .node r l x q, k + 1, m, ho, ⟨hr1, hr2, hr3, hr4⟩, ⟨b1, b2, b3, b4⟩, nod, hg, _, hk => by
    simp only [Tr.h] at hk
    simp only [Tr.root]
    rw [PickFD, pickF, hr2, nd_node]
    simp only
    rw [Tr.refs_node] at nod
    rw [Tr.elems_node] at hg
    by_cases c : l.root = r0
    · have hl := nil_of_root ho hr3 c
      subst hl
      rw [if_pos c, if_pos c]
      exact ⟨trivial, r, x, q.items, q, rfl, ⟨rfl, hr4.see _, rfl, b2⟩, rfl, by simp only [Tr.h] at b3 b4 ⊢; omega, by simp only [Tr.h]; omega, (see_upd _ _ _).mono (fun s hs => by cases hs) (by simp only [Tr.h]; omega)⟩
    · rw [if_neg c, if_neg c]
      have hln : l ≠ .nil := fun h => c (by rw [h]; rfl)
      obtain ⟨d, f, y, tl, t', i0, i1, i2, i3, i4, i5⟩ := pickF_tr l (k := k) (m := see m r) (see_ok.2 ho) (hr3.see _) b1 (List.nodup_append.1 nod).1 (Z.left _ _ hg) hln (by omega)
      have hu := (see_upd (zn O) m r).to i5 (S := rf tl) (k := 30 * l.h + 1) (fun s hs => by simpa using hs) (by omega)
      have hlr : l.refs = f :: rf tl := by rw [Tr.refs, i0]; rfl
      have hle : l.elems = y :: tl.map Prod.snd := by rw [Tr.elems, i0]; rfl
      rw [hlr] at nod
      rw [hle] at hg
      have nod' : (rf tl ++ r :: q.refs).Nodup := (List.nodup_cons.1 nod).2
      have hr' : t'.refs = rf tl := by rw [Tr.refs, i1.its]
      have he' : t'.elems = tl.map Prod.snd := by rw [Tr.elems, i1.its]
      have dis : ∀ s, s ∈ r :: q.refs → s ∉ rf tl := fun s hs hs2 => (List.nodup_append.1 nod').2.2 s hs2 s hs rfl
      rw [i1.root]
      obtain ⟨u, u1, u2, u3, u4, u5⟩ := level_tr Z (m := (pickF O k (see m r) l.root).2.2) (pickF_ok.2 (see_ok.2 ho)) (r := r) (l := t') (q := q)
        (v := ⟨x, t'.root, q.root, ⟨(Tr.node r l x q).items.length, S (Tr.node r l x q).elems⟩, ((Tr.node r l x q).h : Nat)⟩) i1.rp (Rp.frame hu (fun s hs => dis s (by simp [hs])) hr4) (by rw [hu.has]; exact hr1)
        (by rw [hr']; exact nod') rfl rfl (by rw [he']; exact Z.right [y] _ hg) i1.bal b2 (by omega) (by omega)
      refine ⟨d, f, y, tl ++ (r, x) :: q.items, u, by rw [Tr.items_node, i0]; rfl, ⟨u1.root, u1.rp, by rw [u1.its, i1.its], u1.bal⟩, i2, ?_, ?_, hu.to u5 (fun s hs => ?_) (by simp only [Tr.h]; omega)⟩
      · simp only [Tr.h]
        rcases Nat.lt_or_ge (t'.h + 1) q.h with hx | hx
        · omega
        · have := u4 (by omega) hx; omega
      · simp only [Tr.h]
        rcases Nat.lt_or_ge (t'.h + 1) q.h with hx | hx
        · omega
        · have := u4 (by omega) hx; omega
      · rw [hr'] at hs
        simp only [List.mem_append, List.mem_cons, List.map_append, List.map_cons, rf] at hs ⊢
        rcases hs with h | h | h | h
        · exact .inl h
        · exact .inl h
        · exact .inr (.inl h)
        · exact .inr (.inr h)
theorem glue_tr {n K : Nat} {l q : Tr E} {m : Po E A} (ho : POk n m) (hl : Rp O S m l) (hq : Rp O S m q) (nod : (l.refs ++ q.refs).Nodup) (hg : good (l.elems ++ q.elems)) (bl : l.bal) (bq : q.bal) (hk : l.h + q.h < K) :
    GlueD O K m l.root q.root ∧ ∃ t, Is O S (glue O K m l.root q.root).2 (glue O K m l.root q.root).1 (l.items ++ q.items) t ∧ (l.h ≤ q.h + 1 → q.h ≤ l.h + 1 → max l.h q.h ≤ t.h) ∧ t.h ≤ max l.h q.h + 1 ∧
      Upd (l.refs ++ q.refs) (30 * (l.h + q.h + q.h) + 4) (zn O) m (glue O K m l.root q.root).2 := by
  unfold GlueD glue
  by_cases c : q.root = r0
  · have hqn := nil_of_root ho hq c
    subst hqn
    rw [if_pos c, if_pos c]
    exact ⟨trivial, l, ⟨rfl, hl, by simp [Tr.items], bl⟩, fun _ _ => by simp only [Tr.h]; omega, by simp only [Tr.h]; omega, Upd.refl _ _ _ _⟩
  · rw [if_neg c, if_neg c]
    have hqn : q ≠ .nil := fun h => c (by rw [h]; rfl)
    obtain ⟨d, f, x, tl, t', i0, i1, i2, i3, i4, i5⟩ := pickF_tr Z q (k := K) (m := m) ho hq bq (List.nodup_append.1 nod).2.1 (Z.right _ _ hg) hqn (by omega)
    have hqr : q.refs = f :: rf tl := by rw [Tr.refs, i0]; rfl
    have hqe : q.elems = x :: tl.map Prod.snd := by rw [Tr.elems, i0]; rfl
    have hf : has m f = true := hq.has f (by rw [hqr]; simp)
    have hfe : (lk O m f).e = x := hq.elem (f, x) (by rw [i0]; simp)
    rw [hqr] at nod ⊢
    rw [hqe] at hg
    have hr' : t'.refs = rf tl := by rw [Tr.refs, i1.its]
    have he' : t'.elems = tl.map Prod.snd := by rw [Tr.elems, i1.its]
    have hnf : f ∉ rf tl := (List.nodup_cons.1 (List.nodup_append.1 nod).2.1).1
    have dis : ∀ s, s ∈ l.refs → s ∉ rf tl := fun s hs hs2 => (List.nodup_append.1 nod).2.2 s hs s (by simp [hs2]) rfl
    rw [i1.root, i2]
    obtain ⟨d2, u, u1, u2, u3, u4, u5⟩ := link_tr Z K l t' (m := (pickF O K m q.root).2.2) (b := f) (e := x) (pickF_ok.2 ho) (Rp.frame i5 dis hl) i1.rp (by rw [i5.has]; exact hf) (by rw [show lk O (pickF O K m q.root).2.2 f = lk O m f from i5.look f hnf]; exact hfe)
      (by rw [hr']; exact nod) (by rw [he']; exact hg) bl i1.bal (by omega)
    refine ⟨⟨d, d2⟩, u, ⟨u1.root, u1.rp, by rw [u1.its, i1.its, i0], u1.bal⟩, fun h1 h2 => ?_, by omega, i5.to u5 (fun s hs => ?_) (by omega)⟩
    · rcases Nat.lt_or_ge (t'.h) q.h with hx | hx
      · rcases Nat.lt_or_ge l.h q.h with hy | hy
        · have := u4 (by omega) (by omega); omega
        · omega
      · omega
    · rw [hr'] at hs
      rcases hs with h | h
      · simp [h]
      · exact h
end
end Go.Proofs.Ytclagkjjgmeifaa.Gv


/- grove: what is dropped, replaced and cut. -/
namespace Go.Proofs.Ytclagkjjgmeifaa.Gv
open Go.Proofs.Ytclagkjjgmeifaa.Rx
set_option linter.unusedVariables false
set_option linter.unusedSimpArgs false
set_option linter.unusedSectionVars false
section
variable {E A : Type} {O : Ops E A} {S : List E → A} {good : List E → Prop} (Z : Laws O S good)
theorem rf_lo_hi (e : E) (l : List (Ref × E)) : List.map Prod.fst (lo O e l) ++ List.map Prod.fst (hi O e l) = List.map Prod.fst l := by conv => rhs; rw [← lo_hi O e l]; simp
include Z
theorem replace_tr {n : Nat} {e : E} : ∀ (t : Tr E) {k : Nat} {m : Po E A}, POk n m → Rp O S m t → t.bal → Srt O t.items → t.refs.Nodup → (∀ x, hit O e t.items = some x → gd good (lo O e t.items ++ (x.1, e) :: (hi O e t.items).tail)) → t.h < k →
    match hit O e t.items with
    | none => (replace O k m t.root e).1 = false ∧ Upd [] (2 * t.h + 1) (zn O) m (replace O k m t.root e).2
    | some x => (replace O k m t.root e).1 = true ∧ ∃ t', Is O S (replace O k m t.root e).2 t.root (lo O e t.items ++ (x.1, e) :: (hi O e t.items).tail) t' ∧ t'.h = t.h ∧ Upd t.refs (6 * t.h + 1) (zn O) m (replace O k m t.root e).2
  | t, 0, m, _, _, _, _, _, _, hk => by omega
  | .nil, k + 1, m, ho, hr, hb, hs, hn, hg, hk => by
    have h0 : (lk O m (Tr.nil (E := E)).root).h = 0 := by rw [(show Rp O S m .nil from trivial).root ho]; rfl
    rw [replace, if_pos h0]
    exact ⟨rfl, (see_upd _ _ _).mono (fun s hs => hs) (by omega)⟩
  | .node r l x q, k + 1, m, ho, ⟨hr1, hr2, hr3, hr4⟩, ⟨b1, b2, b3, b4⟩, hs, hn, hg, hk => by
    have h0 : ¬ (lk O m r).h = 0 := by rw [hr2, nd_h]; simp only [Tr.h]; omega
    simp only [Tr.root_node]
    rw [Tr.items_node] at hs hg ⊢
    rw [Tr.refs_node] at hn ⊢
    rw [replace, if_neg h0, hr2, nd_node]
    simp only [Tr.h] at hk ⊢
    have nodc := hn
    simp only [List.nodup_append, List.nodup_cons, List.mem_append, List.mem_cons, not_or] at nodc
    by_cases hc : O.cmp e x < 0
    · rw [if_pos hc]
      obtain ⟨e1, e2⟩ := lo_lt (l := l.items) (q := q.items) (r := r) hc
      rw [e1, e2, hit_lt hc] at hg
      rw [e1, e2, hit_lt hc]
      have ih := replace_tr l (k := k) (m := see m r) (see_ok.2 ho) (hr3.see _) b1 hs.left (List.nodup_append.1 hn).1 (fun y hy => Z.left _ (x :: q.elems) (by
        have := hg y hy
        rw [(hit_some hy).1] at this
        simpa [gd, Tr.elems] using this)) (by omega)
      cases hh : hit O e l.items with
      | none =>
        rw [hh] at ih
        obtain ⟨i1, i2⟩ := ih
        rw [if_neg (by rw [i1]; simp)]
        exact ⟨i1, (see_upd _ m r).to i2 (fun s hs => by simp at hs) (by omega)⟩
      | some y =>
        rw [hh] at ih
        obtain ⟨i1, t', i2, i3, i4⟩ := ih
        rw [if_pos i1]
        refine ⟨rfl, ?_⟩
        have hgy := hg y hh
        have hy := (hit_some hh).1
        have hu := (see_upd (zn O) m r).to i4 (S := l.refs) (k := 6 * l.h + 2) (fun s hs => by simpa using hs) (by omega)
        have hr' : t'.refs = l.refs := by rw [Tr.refs, i2.its, Tr.refs, ← rf_lo_hi e l.items, hy]; simp
        have he' : t'.elems = (lo O e l.items).map Prod.snd ++ e :: ((hi O e l.items).tail).map Prod.snd := by rw [Tr.elems, i2.its]; simp
        have hroot : t'.root = l.root := i2.root.symm
        obtain ⟨p1, p2⟩ := tie_tr Z (m := (replace O k (see m r) l.root e).2) (replace_ok.2 (see_ok.2 ho)) (r := r) (l := t') (q := q) (v := ⟨x, l.root, q.root, ⟨(Tr.node r l x q).items.length, S (Tr.node r l x q).elems⟩, ((Tr.node r l x q).h : Nat)⟩) i2.rp
          (Rp.frame hu (fun s hs hs2 => nodc.2.2 s hs2 s (Or.inr hs) rfl) hr4) (by rw [hu.has]; exact hr1) (by rw [hr']; exact fun h => nodc.2.2 r h r (Or.inl rfl) rfl) (fun h => nodc.2.1.1 h) hroot.symm rfl
          (by rw [he']; rw [hy] at hgy; simpa [gd, Tr.elems] using hgy)
        refine ⟨.node r t' x q, ⟨rfl, p1, ?_, ⟨i2.bal, b2, by omega, by omega⟩⟩, by simp only [Tr.h]; omega, hu.to p2 (fun s hs => by simp at hs; rcases hs with h | h <;> simp [h]) (by omega)⟩
        rw [Tr.items_node, i2.its, hy]
        simp
    · rw [if_neg hc]
      by_cases hc2 : 0 < O.cmp e x
      · rw [if_pos hc2]
        obtain ⟨e1, e2⟩ := lo_gt Z hs hc2
        rw [e1, e2, hit_gt Z hs hc2] at hg
        rw [e1, e2, hit_gt Z hs hc2]
        have hsq : Srt O q.items := (List.pairwise_cons.1 hs.right).2
        have ih := replace_tr q (k := k) (m := see m r) (see_ok.2 ho) (hr4.see _) b2 hsq (List.nodup_cons.1 (List.nodup_append.1 hn).2.1).2 (fun y hy => Z.right (l.elems ++ [x]) _ (by
          have := hg y hy
          simpa [gd, Tr.elems] using this)) (by omega)
        cases hh : hit O e q.items with
        | none =>
          rw [hh] at ih
          obtain ⟨i1, i2⟩ := ih
          rw [if_neg (by rw [i1]; simp)]
          exact ⟨i1, (see_upd _ m r).to i2 (fun s hs => by simp at hs) (by omega)⟩
        | some y =>
          rw [hh] at ih
          obtain ⟨i1, t', i2, i3, i4⟩ := ih
          rw [if_pos i1]
          refine ⟨rfl, ?_⟩
          have hgy := hg y hh
          have hy := (hit_some hh).1
          have hu := (see_upd (zn O) m r).to i4 (S := q.refs) (k := 6 * q.h + 2) (fun s hs => by simpa using hs) (by omega)
          have hr' : t'.refs = q.refs := by rw [Tr.refs, i2.its, Tr.refs, ← rf_lo_hi e q.items, hy]; simp
          have he' : t'.elems = (lo O e q.items).map Prod.snd ++ e :: ((hi O e q.items).tail).map Prod.snd := by rw [Tr.elems, i2.its]; simp
          have hroot : t'.root = q.root := i2.root.symm
          obtain ⟨p1, p2⟩ := tie_tr Z (m := (replace O k (see m r) q.root e).2) (replace_ok.2 (see_ok.2 ho)) (r := r) (l := l) (q := t') (v := ⟨x, l.root, q.root, ⟨(Tr.node r l x q).items.length, S (Tr.node r l x q).elems⟩, ((Tr.node r l x q).h : Nat)⟩)
            (Rp.frame hu (fun s hs hs2 => nodc.2.2 s hs s (Or.inr hs2) rfl) hr3) i2.rp (by rw [hu.has]; exact hr1) (fun h => nodc.2.2 r h r (Or.inl rfl) rfl) (by rw [hr']; exact fun h => nodc.2.1.1 h) rfl hroot.symm
            (by rw [he']; simpa [gd, Tr.elems] using hgy)
          refine ⟨.node r l x t', ⟨rfl, p1, ?_, ⟨b1, i2.bal, by omega, by omega⟩⟩, by simp only [Tr.h]; omega, hu.to p2 (fun s hs => by simp at hs; rcases hs with h | h <;> simp [h]) (by omega)⟩
          rw [Tr.items_node, i2.its]
          simp
      · rw [if_neg hc2]
        have hc3 : O.cmp e x = 0 := by omega
        obtain ⟨e1, e2⟩ := lo_eq Z hs hc3
        rw [e1, e2, hit_eq Z hs hc3] at hg
        rw [e1, e2, hit_eq Z hs hc3]
        have hgy := hg _ rfl
        simp only [List.tail_cons] at hgy ⊢
        obtain ⟨p1, p2⟩ := tie_tr Z (m := see m r) (see_ok.2 ho) (r := r) (l := l) (q := q) (v := ⟨e, l.root, q.root, ⟨(Tr.node r l x q).items.length, S (Tr.node r l x q).elems⟩, ((Tr.node r l x q).h : Nat)⟩)
          (hr3.see _) (hr4.see _) (by simpa using hr1) (fun h => nodc.2.2 r h r (Or.inl rfl) rfl) (fun h => nodc.2.1.1 h) rfl rfl (by simpa [gd, Tr.elems] using hgy)
        exact ⟨by simp, .node r l e q, ⟨rfl, p1, rfl, ⟨b1, b2, b3, b4⟩⟩, by simp only [Tr.h], (see_upd _ m r).to p2 (fun s hs => by simp at hs; simp [hs]) (by omega)⟩
theorem pick_tr {n K : Nat} {e : E} : ∀ (t : Tr E) {k : Nat} {m : Po E A}, POk n m → Rp O S m t → t.bal → Srt O t.items → t.refs.Nodup → gd good (lo O e t.items ++ (hi O e t.items).tail) → t.h < k → 2 * t.h < K →
    PickD O K k m t.root e ∧ match hit O e t.items with
    | none => (pick O K k m t.root e).2.1 = r0 ∧ (pick O K k m t.root e).1 = t.root ∧ Upd [] (2 * t.h + 1) (zn O) m (pick O K k m t.root e).2.2
    | some x => (pick O K k m t.root e).2.1 = x.1 ∧ ∃ t', Is O S (pick O K k m t.root e).2.2 (pick O K k m t.root e).1 (lo O e t.items ++ (hi O e t.items).tail) t' ∧ t.h ≤ t'.h + 1 ∧ t'.h ≤ t.h ∧
      Upd (rf (lo O e t.items ++ (hi O e t.items).tail)) (120 * t.h + 4) (zn O) m (pick O K k m t.root e).2.2
  | t, 0, m, _, _, _, _, _, _, hk, _ => by omega
  | .nil, k + 1, m, ho, hr, hb, hs, hn, hg, hk, hK => by
    have h0 : (lk O m (Tr.nil (E := E)).root).h = 0 := by rw [(show Rp O S m .nil from trivial).root ho]; rfl
    rw [PickD, pick, if_pos h0, if_pos h0]
    exact ⟨trivial, rfl, rfl, (see_upd _ _ _).mono (fun s hs => hs) (by omega)⟩
  | .node r l x q, k + 1, m, ho, ⟨hr1, hr2, hr3, hr4⟩, ⟨b1, b2, b3, b4⟩, hs, hn, hg, hk, hK => by
    have h0 : ¬ (lk O m r).h = 0 := by rw [hr2, nd_h]; simp only [Tr.h]; omega
    simp only [Tr.root_node]
    rw [Tr.items_node] at hs hg ⊢
    rw [Tr.refs_node] at hn
    rw [PickD, pick, if_neg h0, if_neg h0, hr2, nd_node]
    simp only [Tr.h] at hk hK ⊢
    have nodc := hn
    simp only [List.nodup_append, List.nodup_cons, List.mem_append, List.mem_cons, not_or] at nodc
    by_cases hc : O.cmp e x < 0
    · rw [if_pos hc, if_pos hc]
      obtain ⟨e1, e2⟩ := lo_lt (l := l.items) (q := q.items) (r := r) hc
      rw [e1, e2] at hg
      rw [e1, e2, hit_lt hc]
      cases hh : hit O e l.items with
      | none =>
        have hgl : gd good (lo O e l.items ++ (hi O e l.items).tail) := by
          cases hhi : hi O e l.items with
          | nil =>
            rw [hhi] at hg
            simp only [List.tail_nil, List.append_nil, List.nil_append] at hg ⊢
            exact Z.left _ (q.elems) (by simpa [gd, Tr.elems] using hg)
          | cons y tl =>
            rw [hhi] at hg
            simp only [List.tail_cons, List.cons_append] at hg ⊢
            exact Z.left _ (x :: q.elems) (by simpa [gd, Tr.elems] using hg)
        have ih := pick_tr (K := K) l (k := k) (m := see m r) (see_ok.2 ho) (hr3.see _) b1 hs.left (List.nodup_append.1 hn).1 hgl (by omega) (by omega)
        rw [hh] at ih
        obtain ⟨d, i1, i2, i3⟩ := ih
        rw [if_pos i1]
        exact ⟨d, i1, rfl, (see_upd _ m r).to i3 (fun s hs => by simp at hs) (by omega)⟩
      | some y =>
        have hy := (hit_some hh).1
        rw [hy] at hg
        simp only [List.cons_append, List.tail_cons] at hg
        have ih := pick_tr (K := K) l (k := k) (m := see m r) (see_ok.2 ho) (hr3.see _) b1 hs.left (List.nodup_append.1 hn).1 (Z.left _ (x :: q.elems) (by simpa [gd, Tr.elems] using hg)) (by omega) (by omega)
        rw [hh] at ih
        obtain ⟨d, i1, t', i2, i3, i4, i5⟩ := ih
        have hyr : y.1 ∈ l.refs := List.mem_map.2 ⟨y, (hit_some hh).2.2, rfl⟩
        have hyn : y.1 ≠ r0 := fun hc0 => by
          have := hr3.has _ hyr
          rw [hc0, ho.z0] at this
          cases this
        rw [if_neg (by rw [i1]; exact hyn)]
        have hsub : ∀ s, s ∈ rf (lo O e l.items ++ (hi O e l.items).tail) → s ∈ l.refs := fun s hs => by
          rw [Tr.refs, ← rf_lo_hi e l.items, hy]
          simp only [rf, List.map_append, List.mem_append, List.map_cons, List.mem_cons] at hs ⊢
          rcases hs with h | h
          · exact .inl h
          · exact .inr (.inr h)
        have hu := (see_upd (zn O) m r).to i5 (S := rf (lo O e l.items ++ (hi O e l.items).tail)) (k := 120 * l.h + 5) (fun s hs => by simpa using hs) (by omega)
        have hr' : t'.refs = rf (lo O e l.items ++ (hi O e l.items).tail) := by rw [Tr.refs, i2.its]
        have he' : t'.elems = (lo O e l.items ++ (hi O e l.items).tail).map Prod.snd := by rw [Tr.elems, i2.its]
        have hsl : (rf (lo O e l.items ++ (hi O e l.items).tail)).Sublist l.refs := by
          rw [Tr.refs, ← rf_lo_hi e l.items]
          conv => rhs; rw [hy]
          simp only [rf, List.map_append, List.map_cons]
          exact List.Sublist.append_left (List.sublist_cons_self _ _) _
        rw [i2.root]
        obtain ⟨u, u1, u2, u3, u4, u5⟩ := level_tr Z (m := (pick O K k (see m r) l.root e).2.2) (pick_ok.2 (see_ok.2 ho)) (r := r) (l := t') (q := q)
          (v := ⟨x, t'.root, q.root, ⟨(Tr.node r l x q).items.length, S (Tr.node r l x q).elems⟩, ((Tr.node r l x q).h : Nat)⟩) i2.rp (Rp.frame hu (fun s hs hs2 => nodc.2.2 s (hsub s hs2) s (Or.inr hs) rfl) hr4)
          (by rw [hu.has]; exact hr1) (by rw [hr']; exact (List.Sublist.append_right hsl _).nodup hn) rfl rfl (by rw [he']; simpa [gd, Tr.elems] using hg) i2.bal b2 (by omega) (by omega)
        refine ⟨d, i1, u, ⟨u1.root, u1.rp, by rw [u1.its, i2.its, hy]; simp, u1.bal⟩, ?_, ?_, hu.to u5 (fun s hs => ?_) (by omega)⟩
        · rcases Nat.lt_or_ge (t'.h + 1) q.h with hx | hx
          · omega
          · have := u4 (by omega) hx; omega
        · rcases Nat.lt_or_ge (t'.h + 1) q.h with hx | hx
          · omega
          · have := u4 (by omega) hx; omega
        · rw [hr'] at hs
          rw [hy]
          simp only [rf, List.map_append, List.mem_append, List.map_cons, List.mem_cons, List.cons_append, List.tail_cons, Tr.refs] at hs ⊢
          rcases hs with (h | h) | (h | h) | h | h <;> (first | simp [h]; done | exact Or.inl h | exact Or.inr h | exact Or.inl (Or.inl h) | exact Or.inl (Or.inr h) | exact Or.inr (Or.inl h) | exact Or.inr (Or.inr h) | exact Or.inl (Or.inr (Or.inl h)) | exact Or.inl (Or.inr (Or.inr h)) | exact Or.inr (Or.inr (Or.inl h)) | exact Or.inr (Or.inr (Or.inr h)))
    · rw [if_neg hc, if_neg hc]
      by_cases hc2 : 0 < O.cmp e x
      · rw [if_pos hc2, if_pos hc2]
        obtain ⟨e1, e2⟩ := lo_gt Z hs hc2
        rw [e1, e2] at hg
        rw [e1, e2, hit_gt Z hs hc2]
        have hsq : Srt O q.items := (List.pairwise_cons.1 hs.right).2
        have hgq : gd good (lo O e q.items ++ (hi O e q.items).tail) := Z.right (l.elems ++ [x]) _ (by simpa [gd, Tr.elems] using hg)
        have ih := pick_tr (K := K) q (k := k) (m := see m r) (see_ok.2 ho) (hr4.see _) b2 hsq (List.nodup_cons.1 (List.nodup_append.1 hn).2.1).2 hgq (by omega) (by omega)
        cases hh : hit O e q.items with
        | none =>
          rw [hh] at ih
          obtain ⟨d, i1, i2, i3⟩ := ih
          rw [if_pos i1]
          exact ⟨d, i1, rfl, (see_upd _ m r).to i3 (fun s hs => by simp at hs) (by omega)⟩
        | some y =>
          have hy := (hit_some hh).1
          rw [hh] at ih
          obtain ⟨d, i1, t', i2, i3, i4, i5⟩ := ih
          have hyr : y.1 ∈ q.refs := List.mem_map.2 ⟨y, (hit_some hh).2.2, rfl⟩
          have hyn : y.1 ≠ r0 := fun hc0 => by
            have := hr4.has _ hyr
            rw [hc0, ho.z0] at this
            cases this
          rw [if_neg (by rw [i1]; exact hyn)]
          have hsl : (rf (lo O e q.items ++ (hi O e q.items).tail)).Sublist q.refs := by
            rw [Tr.refs, ← rf_lo_hi e q.items]
            conv => rhs; rw [hy]
            simp only [rf, List.map_append, List.map_cons]
            exact List.Sublist.append_left (List.sublist_cons_self _ _) _
          have hu := (see_upd (zn O) m r).to i5 (S := rf (lo O e q.items ++ (hi O e q.items).tail)) (k := 120 * q.h + 5) (fun s hs => by simpa using hs) (by omega)
          have hr' : t'.refs = rf (lo O e q.items ++ (hi O e q.items).tail) := by rw [Tr.refs, i2.its]
          have he' : t'.elems = (lo O e q.items ++ (hi O e q.items).tail).map Prod.snd := by rw [Tr.elems, i2.its]
          rw [i2.root]
          obtain ⟨u, u1, u2, u3, u4, u5⟩ := level_tr Z (m := (pick O K k (see m r) q.root e).2.2) (pick_ok.2 (see_ok.2 ho)) (r := r) (l := l) (q := t')
            (v := ⟨x, l.root, t'.root, ⟨(Tr.node r l x q).items.length, S (Tr.node r l x q).elems⟩, ((Tr.node r l x q).h : Nat)⟩) (Rp.frame hu (fun s hs hs2 => nodc.2.2 s hs s (Or.inr (hsl.subset hs2)) rfl) hr3) i2.rp
            (by rw [hu.has]; exact hr1) (by rw [hr']; exact (List.Sublist.append_left (List.Sublist.cons_cons r hsl) _).nodup hn) rfl rfl (by rw [he']; simpa [gd, Tr.elems] using hg) b1 i2.bal (by omega) (by omega)
          refine ⟨d, i1, u, ⟨u1.root, u1.rp, by rw [u1.its, i2.its]; simp, u1.bal⟩, ?_, ?_, hu.to u5 (fun s hs => ?_) (by omega)⟩
          · rcases Nat.lt_or_ge (l.h) (t'.h + 1) with hx | hx
            · have := u4 (by omega) (by omega); omega
            · rcases Nat.lt_or_ge (t'.h + 1) l.h with hx2 | hx2
              · omega
              · have := u4 (by omega) (by omega); omega
          · rcases Nat.lt_or_ge (t'.h + 1) l.h with hx2 | hx2
            · omega
            · have := u4 (by omega) (by omega); omega
          · rw [hr'] at hs
            simp only [rf, List.map_append, List.mem_append, List.map_cons, List.mem_cons, Tr.refs] at hs ⊢
            rcases hs with (h | h) | h | h | h | h <;> (first | simp [h]; done | exact Or.inl h | exact Or.inr h | exact Or.inl (Or.inl h) | exact Or.inl (Or.inr h) | exact Or.inr (Or.inl h) | exact Or.inr (Or.inr h) | exact Or.inl (Or.inr (Or.inl h)) | exact Or.inl (Or.inr (Or.inr h)) | exact Or.inr (Or.inr (Or.inl h)) | exact Or.inr (Or.inr (Or.inr h)))
      · rw [if_neg hc2, if_neg hc2]
        have hc3 : O.cmp e x = 0 := by omega
        obtain ⟨e1, e2⟩ := lo_eq Z hs hc3
        rw [e1, e2] at hg
        rw [e1, e2, hit_eq Z hs hc3]
        simp only [List.tail_cons] at hg ⊢
        obtain ⟨d, u, u1, u2, u3, u4⟩ := glue_tr Z (K := K) (m := see m r) (see_ok.2 ho) (hr3.see _) (hr4.see _) (List.Sublist.nodup (List.Sublist.append_left (List.sublist_cons_self r _) _) hn) (by simpa [gd, Tr.elems] using hg) b1 b2 (by omega)
        refine ⟨d, by simp, u, u1, by have := u2 b3 b4; omega, by omega, (see_upd _ m r).to u4 (fun s hs => ?_) (by omega)⟩
        simp only [rf, List.map_append, List.mem_append, Tr.refs] at hs ⊢
        rcases hs with h | h | h <;> simp_all
end
end Go.Proofs.Ytclagkjjgmeifaa.Gv


/- grove: what is cut, gathered, found, counted and summed. -/
namespace Go.Proofs.Ytclagkjjgmeifaa.Gv
open Go.Proofs.Ytclagkjjgmeifaa.Rx
set_option linter.unusedVariables false
set_option linter.unusedSimpArgs false
set_option linter.unusedSectionVars false
set_option maxHeartbeats 4000000
section
variable {E A : Type} {O : Ops E A} {S : List E → A} {good : List E → Prop} (Z : Laws O S good)
theorem gather_tr {n : Nat} : ∀ (t : Tr E) {k : Nat} {m : Po E A}, POk n m → Rp O S m t → t.h < k → (gather O k m t.root).1 = t.elems ∧ ∃ kk, Upd [] kk (zn O) m (gather O k m t.root).2
  | t, 0, m, _, _, hk => by omega
  | .nil, k + 1, m, ho, hr, hk => by
    have h0 : (lk O m (Tr.nil (E := E)).root).h = 0 := by rw [(show Rp O S m .nil from trivial).root ho]; rfl
    rw [gather, if_pos h0]
    exact ⟨rfl, _, see_upd _ _ _⟩
  | .node r l x q, k + 1, m, ho, ⟨hr1, hr2, hr3, hr4⟩, hk => by
    have h0 : ¬ (lk O m r).h = 0 := by rw [hr2, nd_h]; simp only [Tr.h]; omega
    simp only [Tr.root_node]
    simp only [Tr.h] at hk
    rw [gather, if_neg h0, hr2, nd_node]
    obtain ⟨i1, k1, i2⟩ := gather_tr l (k := k) (m := see m r) (see_ok.2 ho) (hr3.see _) (by omega)
    have hu := (see_upd (zn O) m r).to i2 (S := []) (fun s hs => by simp at hs) (Nat.le_refl _)
    obtain ⟨j1, k2, j2⟩ := gather_tr q (k := k) (m := (gather O k (see m r) l.root).2) (gather_ok.2 (see_ok.2 ho)) (Rp.frame hu (fun s _ hs => by cases hs) hr4) (by omega)
    exact ⟨by rw [i1, j1, Tr.elems_node], _, hu.to j2 (fun s hs => by simp at hs) (Nat.le_refl _)⟩
include Z
theorem cut_tr {n K : Nat} {e : E} : ∀ (t : Tr E) {k : Nat} {m : Po E A}, POk n m → Rp O S m t → t.bal → Srt O t.items → t.refs.Nodup → good t.elems → t.h < k → 2 * t.items.length < K →
    CutD O K k m t.root e ∧ ∃ a b, Is O S (cutF O K k m t.root e).2.2 (cutF O K k m t.root e).1 (lo O e t.items) a ∧ Is O S (cutF O K k m t.root e).2.2 (cutF O K k m t.root e).2.1 (hi O e t.items) b ∧
      ∃ kk, Upd t.refs kk (zn O) m (cutF O K k m t.root e).2.2
  | t, 0, m, _, _, _, _, _, _, hk, _ => by omega
  | .nil, k + 1, m, ho, hr, hb, hs, hn, hg, hk, hK => by
    have h0 : (lk O m (Tr.nil (E := E)).root).h = 0 := by rw [(show Rp O S m .nil from trivial).root ho]; rfl
    rw [CutD, cutF, if_pos h0, if_pos h0]
    exact ⟨trivial, .nil, .nil, ⟨rfl, trivial, rfl, trivial⟩, ⟨rfl, trivial, rfl, trivial⟩, _, (see_upd _ _ _).mono (fun s hs => by cases hs) (Nat.le_refl _)⟩
  | .node r l x q, k + 1, m, ho, ⟨hr1, hr2, hr3, hr4⟩, ⟨b1, b2, b3, b4⟩, hs, hn, hg, hk, hK => by
    have h0 : ¬ (lk O m r).h = 0 := by rw [hr2, nd_h]; simp only [Tr.h]; omega
    simp only [Tr.root_node]
    rw [Tr.items_node] at hs hK ⊢
    rw [Tr.refs_node] at hn ⊢
    rw [Tr.elems_node] at hg
    simp only [List.length_append, List.length_cons] at hK
    rw [CutD, cutF, if_neg h0, if_neg h0, hr2, nd_node]
    simp only [Tr.h] at hk ⊢
    have nodc := hn
    simp only [List.nodup_append, List.nodup_cons, List.mem_append, List.mem_cons, not_or] at nodc
    have hl1 := l.h_le
    have hq1 := q.h_le
    by_cases hc : O.cmp x e < 0
    · rw [if_pos hc, if_pos hc]
      have hc2 : 0 < O.cmp e x := (Z.swap _ _).1 hc
      obtain ⟨e1, e2⟩ := lo_gt Z hs hc2
      rw [e1, e2]
      have hsq : Srt O q.items := (List.pairwise_cons.1 hs.right).2
      obtain ⟨d, a, b, i1, i2, kk, i3⟩ := cut_tr (K := K) q (k := k) (m := see m r) (see_ok.2 ho) (hr4.see _) b2 hsq (List.nodup_cons.1 (List.nodup_append.1 hn).2.1).2 (Z.right (l.elems ++ [x]) _ (by simpa using hg)) (by omega) (by omega)
      have hu := (see_upd (zn O) m r).to i3 (S := q.refs) (fun s hs => by simpa using hs) (Nat.le_refl _)
      have ha' : a.refs = List.map Prod.fst (lo O e q.items) := by rw [Tr.refs, i1.its]
      have hb' : b.refs = List.map Prod.fst (hi O e q.items) := by rw [Tr.refs, i2.its]
      have hq' : q.refs = a.refs ++ b.refs := by rw [ha', hb', rf_lo_hi]; rfl
      have hae : q.elems = a.elems ++ b.elems := by rw [Tr.elems, Tr.elems, Tr.elems, i1.its, i2.its, ← List.map_append, lo_hi]
      have hah := a.h_le
      have hal : a.items.length ≤ q.items.length := by
        have := congrArg List.length (lo_hi O e q.items)
        rw [List.length_append] at this
        rw [i1.its]; omega
      rw [hq'] at hn
      have hn' : ((l.refs ++ r :: a.refs) ++ b.refs).Nodup := by simpa using hn
      rw [hae] at hg
      have hg' : good (l.elems ++ x :: a.elems) := Z.left _ b.elems (by simpa using hg)
      have hrx : (lk O (cutF O K k (see m r) q.root e).2.2 r).e = x := by
        rw [show lk O (cutF O K k (see m r) q.root e).2.2 r = lk O m r from hu.look r (fun h => nodc.2.1.1 h), hr2]; rfl
      rw [i1.root]
      obtain ⟨d2, u, u1, u2, u3, u4, u5⟩ := link_tr Z K l a (m := (cutF O K k (see m r) q.root e).2.2) (b := r) (e := x) (cutF_ok.2 (see_ok.2 ho)) (Rp.frame hu (fun s hs hs2 => nodc.2.2 s hs s (Or.inr hs2) rfl) hr3) i1.rp
        (by rw [hu.has]; exact hr1) hrx (List.nodup_append.1 hn').1 hg' b1 i1.bal (by omega)
      refine ⟨⟨d, d2⟩, u, b, ⟨u1.root, u1.rp, by rw [u1.its, i1.its], u1.bal⟩, ⟨i2.root, Rp.frame u5 (fun s hs hs2 => (List.nodup_append.1 hn').2.2 s hs2 s hs rfl) i2.rp, i2.its, i2.bal⟩, _, hu.to u5 (fun s hs => ?_) (Nat.le_refl _)⟩
      rw [hq'] at hs ⊢
      simp only [List.mem_append, List.mem_cons] at hs ⊢
      rcases hs with (h | h) | h | h | h <;> simp [h]
    · rw [if_neg hc, if_neg hc]
      have hc2 : ¬ 0 < O.cmp e x := fun h => hc ((Z.swap _ _).2 h)
      obtain ⟨e1, e2⟩ := lo_lt' (l := l.items) (q := q.items) (r := r) hc2
      rw [e1, e2]
      obtain ⟨d, a, b, i1, i2, kk, i3⟩ := cut_tr (K := K) l (k := k) (m := see m r) (see_ok.2 ho) (hr3.see _) b1 hs.left (List.nodup_append.1 hn).1 (Z.left _ _ hg) (by omega) (by omega)
      have hu := (see_upd (zn O) m r).to i3 (S := l.refs) (fun s hs => by simpa using hs) (Nat.le_refl _)
      have ha' : a.refs = List.map Prod.fst (lo O e l.items) := by rw [Tr.refs, i1.its]
      have hb' : b.refs = List.map Prod.fst (hi O e l.items) := by rw [Tr.refs, i2.its]
      have hl' : l.refs = a.refs ++ b.refs := by rw [ha', hb', rf_lo_hi]; rfl
      have hle : l.elems = a.elems ++ b.elems := by rw [Tr.elems, Tr.elems, Tr.elems, i1.its, i2.its, ← List.map_append, lo_hi]
      have hbh := b.h_le
      have hbl : b.items.length ≤ l.items.length := by
        have := congrArg List.length (lo_hi O e l.items)
        rw [List.length_append] at this
        rw [i2.its]; omega
      rw [hl'] at hn
      have hn' : (a.refs ++ (b.refs ++ r :: q.refs)).Nodup := by simpa using hn
      rw [hle] at hg
      have hg' : good (b.elems ++ x :: q.elems) := Z.right a.elems _ (by simpa using hg)
      have hrx : (lk O (cutF O K k (see m r) l.root e).2.2 r).e = x := by
        rw [show lk O (cutF O K k (see m r) l.root e).2.2 r = lk O m r from hu.look r (fun h => nodc.2.2 r h r (Or.inl rfl) rfl), hr2]; rfl
      rw [i2.root]
      obtain ⟨d2, u, u1, u2, u3, u4, u5⟩ := link_tr Z K b q (m := (cutF O K k (see m r) l.root e).2.2) (b := r) (e := x) (cutF_ok.2 (see_ok.2 ho)) i2.rp (Rp.frame hu (fun s hs hs2 => nodc.2.2 s hs2 s (Or.inr hs) rfl) hr4)
        (by rw [hu.has]; exact hr1) hrx (List.nodup_append.1 hn').2.1 hg' i2.bal b2 (by omega)
      refine ⟨⟨d, d2⟩, a, u, ⟨i1.root, Rp.frame u5 (fun s hs hs2 => (List.nodup_append.1 hn').2.2 s hs s hs2 rfl) i1.rp, i1.its, i1.bal⟩, ⟨u1.root, u1.rp, by rw [u1.its, i2.its], u1.bal⟩, _, hu.to u5 (fun s hs => ?_) (Nat.le_refl _)⟩
      rw [hl'] at hs ⊢
      simp only [List.mem_append, List.mem_cons] at hs ⊢
      rcases hs with (h | h) | h | h | h <;> simp [h]
theorem rank_tr {n : Nat} {e : E} : ∀ (t : Tr E) {k : Nat} {m : Po E A} {c : Int}, POk n m → Rp O S m t → Srt O t.items → t.h < k → 0 ≤ c → c + t.items.length ≤ 2000000 →
    RankE O k m (nd O S t) e c ∧ (rank O k m (nd O S t) e c).1 = c + (lo O e t.items).length ∧ Upd [] (2 * t.h) (zn O) m (rank O k m (nd O S t) e c).2
  | t, 0, m, c, _, _, _, hk, _, _ => by omega
  | .nil, k + 1, m, c, ho, hr, hs, hk, hc0, hc1 => by
    have h0 : ¬ (nd O S (Tr.nil (E := E))).h > 0 := by rw [nd_h]; simp [Tr.h]
    rw [RankE, rank, if_neg h0]
    exact ⟨fun h => absurd h h0, by simp [lo, Tr.items], Upd.refl _ _ _ _⟩
  | .node r l x q, k + 1, m, c, ho, ⟨hr1, hr2, hr3, hr4⟩, hs, hk, hc0, hc1 => by
    have h0 : (nd O S (Tr.node r l x q)).h > 0 := by rw [nd_h]; simp only [Tr.h]; omega
    simp only [Tr.h] at hk ⊢
    have hall := nd_all (O := O) (S := S) Z.nil (.node r l x q)
    rw [Tr.items_node] at hs hc1 ⊢
    simp only [List.length_append, List.length_cons] at hc1
    rw [RankE, rank, if_pos h0]
    have kl : lk O m l.root = nd O S l := hr3.root ho
    have kq : lk O m q.root = nd O S q := hr4.root ho
    have e1 : (nd O S (Tr.node r l x q)).l = l.root := rfl
    have e2 : (nd O S (Tr.node r l x q)).r = q.root := rfl
    have e3 : (nd O S (Tr.node r l x q)).e = x := rfl
    have hv : W (c + W ((nd O S (Tr.node r l x q)).all.n - (nd O S q).all.n)) = c + (l.items.length + 1 : Nat) := by
      rw [hall, nd_all Z.nil]
      simp only [Tr.items_node, List.length_append, List.length_cons]
      rw [W_of (n := ((l.items.length + (q.items.length + 1) : Nat) : Int) - (q.items.length : Int)) (by omega), W_of (by omega)]
      omega
    rw [e1, e2, e3]
    simp only [kl, kq]
    rw [hv]
    have hsq : Srt O q.items := (List.pairwise_cons.1 hs.right).2
    have il := rank_tr (e := e) l (k := k) (m := see m l.root) (c := c) (see_ok.2 ho) (hr3.see _) hs.left (by omega) hc0 (by omega)
    have iq := rank_tr (e := e) q (k := k) (m := see m q.root) (c := c + (l.items.length + 1 : Nat)) (see_ok.2 ho) (hr4.see _) hsq (by omega) (by omega) (by omega)
    refine ⟨fun _ => ⟨fun _ => il.1, fun _ => iq.1⟩, ?_⟩
    by_cases hc : O.cmp e x ≤ 0
    · rw [if_pos hc, (lo_lt' (by omega)).1]
      exact ⟨il.2.1, (see_upd _ m _).to il.2.2 (fun s hs => by simp at hs) (by omega)⟩
    · rw [if_neg hc, (lo_gt Z hs (by omega)).1]
      refine ⟨?_, (see_upd _ m _).to iq.2.2 (fun s hs => by simp at hs) (by omega)⟩
      rw [iq.2.1]
      simp only [List.length_append, List.length_cons]
      omega
theorem nth_tr {n : Nat} : ∀ (t : Tr E) {k : Nat} {m : Po E A} {i : Nat}, POk n m → Rp O S m t → t.items.length ≤ 1000000 → t.h < k → i < t.items.length →
    NthE O k m (nd O S t) i ∧ (nthF O k m (nd O S t) i).1 = t.elems.getD i O.e0 ∧ Upd [] (2 * t.h) (zn O) m (nthF O k m (nd O S t) i).2
  | t, 0, m, i, _, _, _, hk, _ => by omega
  | .nil, k + 1, m, i, ho, hr, hg, hk, hi => by simp [Tr.items] at hi
  | .node r l x q, k + 1, m, i, ho, ⟨hr1, hr2, hr3, hr4⟩, hg, hk, hi => by
    simp only [Tr.h] at hk ⊢
    rw [Tr.items_node] at hg hi
    simp only [List.length_append, List.length_cons] at hg hi
    rw [NthE, nthF]
    have kl : lk O m l.root = nd O S l := hr3.root ho
    have kq : lk O m q.root = nd O S q := hr4.root ho
    have e1 : (nd O S (Tr.node r l x q)).l = l.root := rfl
    have e2 : (nd O S (Tr.node r l x q)).r = q.root := rfl
    have e3 : (nd O S (Tr.node r l x q)).e = x := rfl
    have e4 : (nd O S l).all.n = l.items.length := by rw [nd_all Z.nil]
    rw [e1, e2, e3]
    simp only [lk_see, kl, kq, e4]
    have w1 : W (((l.items.length : Nat) : Int) + 1) = (l.items.length : Int) + 1 := W_of (by omega)
    rw [w1, Tr.elems_node]
    have hle : l.elems.length = l.items.length := Tr.elems_length l
    by_cases h1 : (i : Int) = (l.items.length : Int)
    · rw [if_pos h1]
      refine ⟨fun h => absurd h1 h, ?_, (see_upd _ m _).mono (fun s hs => hs) (by omega)⟩
      rw [List.getD_eq_getElem?_getD, List.getElem?_append_right (by omega)]
      simp [hle, show i - l.items.length = 0 by omega]
    · rw [if_neg h1]
      by_cases h2 : (i : Int) < (l.items.length : Int)
      · rw [if_pos h2]
        obtain ⟨i1, i2, i3⟩ := nth_tr l (k := k) (m := see m l.root) (i := i) (see_ok.2 ho) (hr3.see _) (by omega) (by omega) (by omega)
        refine ⟨fun _ => ⟨fun _ => i1, fun h => absurd h2 h⟩, ?_, (see_upd _ m _).to i3 (fun s hs => by simp at hs) (by omega)⟩
        rw [i2, List.getD_eq_getElem?_getD, List.getD_eq_getElem?_getD, List.getElem?_append_left (by omega)]
      · rw [if_neg h2]
        have w2 : W ((i : Int) - ((l.items.length : Int) + 1)) = ((i - (l.items.length + 1) : Nat) : Int) := by rw [W_of (by omega)]; omega
        rw [w2]
        obtain ⟨i1, i2, i3⟩ := nth_tr q (k := k) (m := see (see m l.root) q.root) (i := i - (l.items.length + 1)) (see_ok.2 (see_ok.2 ho)) ((hr4.see _).see _) (by omega) (by omega) (by omega)
        refine ⟨fun _ => ⟨fun h => absurd h h2, fun _ => i1⟩, ?_, (see2_upd m _ _).to i3 (fun s hs => by simp at hs) (by omega)⟩
        rw [i2, List.getD_eq_getElem?_getD, List.getD_eq_getElem?_getD, List.getElem?_append_right (by omega), hle, show i - l.items.length = (i - (l.items.length + 1)) + 1 by omega, List.getElem?_cons_succ]
/-- the elements from a place on, below another -/
def sub (l : List E) (a b : Nat) : List E := (l.drop a).take (b - a)
omit Z in
theorem sub_node (L Q : List E) (x : E) {a b : Nat} (hab : a ≤ b) : sub (L ++ x :: Q) a b = sub L a b ++ ((if a ≤ L.length ∧ L.length < b then [x] else []) ++ sub Q (a - (L.length + 1)) (b - (L.length + 1))) := by
  unfold sub
  rw [List.drop_append, List.take_append]
  congr 1
  rw [List.length_drop]
  by_cases h1 : a ≤ L.length
  · rw [show a - L.length = 0 by omega, List.drop_zero, show a - (L.length + 1) = 0 by omega, List.drop_zero]
    by_cases h2 : L.length < b
    · rw [if_pos ⟨h1, h2⟩, show b - a - (L.length - a) = (b - (L.length + 1)) + 1 by omega, List.take_succ_cons]
      rfl
    · rw [if_neg (by omega), show b - a - (L.length - a) = 0 by omega, show b - (L.length + 1) - 0 = 0 by omega]
      simp
  · rw [if_neg (by omega), show a - L.length = (a - (L.length + 1)) + 1 by omega, List.drop_succ_cons, List.nil_append]
    congr 1
    omega
theorem good_sub {l : List E} (a b : Nat) (h : good l) : good (sub l a b) := by
  unfold sub
  have h1 : good (l.drop a) := Z.right (l.take a) _ (by rw [List.take_append_drop]; exact h)
  exact Z.left _ ((l.drop a).drop (b - a)) (by rw [List.take_append_drop]; exact h1)
omit Z in
theorem sub_none {l : List E} {a b : Nat} (h : b ≤ a ∨ l.length ≤ a) : sub l a b = [] := by
  unfold sub
  rcases h with h | h
  · rw [show b - a = 0 by omega, List.take_zero]
  · rw [List.drop_of_length_le h, List.take_nil]
omit Z in
theorem sub_cap (l : List E) (a b : Nat) : sub l a (min b l.length) = sub l a b := by
  unfold sub
  rcases Nat.le_total b l.length with h | h
  · rw [Nat.min_eq_left h]
  · rw [Nat.min_eq_right h, List.take_of_length_le (by simp), List.take_of_length_le (by simp; omega)]
/-- how many nodes are looked at: none, if there is nothing or all; one way down, if it begins or ends with all; else two -/
def cost (h s : Nat) (f u : Int) : Nat := if (max f 0 ≥ min u s) ∨ (f ≤ 0 ∧ u ≥ s) then 0 else if f ≤ 0 ∨ u ≥ s then 2 * h else 4 * h
omit Z in
theorem cost_le (h s : Nat) (f u : Int) : cost h s f u ≤ 4 * h ∧ (f ≤ 0 ∨ u ≥ s → cost h s f u ≤ 2 * h) ∧ ((max f 0 ≥ min u s) ∨ (f ≤ 0 ∧ u ≥ s) → cost h s f u = 0) := by
  unfold cost
  refine ⟨by split <;> (try split) <;> omega, fun hc => by split <;> (try split) <;> omega, fun hc => by rw [if_pos hc]⟩
omit Z in
theorem cost_eq {h s : Nat} {f u : Int} (h1 : ¬ ((max f 0 ≥ min u s) ∨ (f ≤ 0 ∧ u ≥ s))) : cost h s f u = if f ≤ 0 ∨ u ≥ s then 2 * h else 4 * h := by unfold cost; rw [if_neg h1]
theorem between_tr {n : Nat} : ∀ (t : Tr E) {k : Nat} {m : Po E A} {f u : Int}, POk n m → Rp O S m t → good t.elems → t.h < k →
    BetE O k m (nd O S t) f u ∧ (between O k m (nd O S t) f u).1 = ⟨(sub t.elems f.toNat u.toNat).length, S (sub t.elems f.toNat u.toNat)⟩ ∧ Upd [] (cost t.h t.elems.length f u) (zn O) m (between O k m (nd O S t) f u).2
  | t, 0, m, f, u, _, _, _, hk => by omega
  | .nil, k + 1, m, f, u, ho, hr, hg, hk => by
    have hall : (nd O S (Tr.nil (E := E))).all.n = 0 := rfl
    have hc : mx f 0 ≥ mn u (nd O S (Tr.nil (E := E))).all.n := by rw [hall]; unfold mx mn; split <;> split <;> omega
    rw [BetE, between, if_pos hc]
    refine ⟨fun h => absurd hc h, ?_, Upd.refl _ _ _ _⟩
    rw [sub_none (.inr (Nat.zero_le _)), ← Z.nil]
    rfl
  | .node r l x q, k + 1, m, f, u, ho, ⟨hr1, hr2, hr3, hr4⟩, hg, hk => by
    simp only [Tr.h] at hk ⊢
    have hlen := Z.len _ hg
    have hall := nd_all (O := O) (S := S) Z.nil (.node r l x q)
    rw [← Tr.elems_length] at hall
    have kl : lk O m l.root = nd O S l := hr3.root ho
    have kq : lk O m q.root = nd O S q := hr4.root ho
    have e1 : (nd O S (Tr.node r l x q)).l = l.root := rfl
    have e2 : (nd O S (Tr.node r l x q)).r = q.root := rfl
    have e3 : (nd O S (Tr.node r l x q)).e = x := rfl
    have e4 : (nd O S l).all.n = l.elems.length := by rw [nd_all Z.nil, Tr.elems_length]
    rw [BetE, between, e1, e2, e3, hall]
    rw [Tr.elems_node] at hg hlen ⊢
    simp only [kl, e4, lk_between, lk_see, kq]
    generalize hL : (l.elems ++ x :: q.elems) = L at *
    have hLl : L.length = l.elems.length + (q.elems.length + 1) := by rw [← hL]; simp
    -- the bounds, clamped
    obtain ⟨a, ha⟩ : ∃ a : Nat, mx f 0 = a := ⟨f.toNat, by unfold mx; split <;> omega⟩
    have ha' : a = f.toNat := by unfold mx at ha; split at ha <;> omega
    by_cases c1 : mx f 0 ≥ mn u L.length
    · rw [if_pos c1]
      refine ⟨fun h => absurd c1 h, ?_, Upd.refl _ _ _ _⟩
      have : min u.toNat L.length ≤ a := by unfold mn at c1; rw [ha] at c1; split at c1 <;> omega
      rw [← sub_cap, ← ha', sub_none (.inl this), ← Z.nil]
      rfl
    · rw [if_neg c1]
      obtain ⟨b, hb⟩ : ∃ b : Nat, mn u L.length = b := ⟨min u.toNat L.length, by unfold mn at c1 ⊢; split at c1 <;> split <;> omega⟩
      have hb' : b = min u.toNat L.length := by unfold mn at c1 hb; split at hb <;> omega
      have hsub : sub L f.toNat u.toNat = sub L a b := by rw [hb', sub_cap, ha']
      rw [hsub]
      rw [ha, hb] at c1 ⊢
      have hab : a < b := by omega
      by_cases c2 : (a : Int) = 0 ∧ (b : Int) = L.length
      · rw [if_pos c2]
        refine ⟨fun _ h => absurd c2 h, ?_, Upd.refl _ _ _ _⟩
        have : sub L a b = L := by
          unfold sub
          rw [show a = 0 by omega, List.drop_zero, show b - 0 = L.length by omega, List.take_length]
        rw [this]
      · rw [if_neg c2]
        have hgl : good l.elems := Z.left _ (x :: q.elems) (by rw [hL]; exact hg)
        have hgq : good q.elems := Z.right (l.elems ++ [x]) _ (by rw [List.append_assoc]; simpa [hL] using hg)
        have ih1 := between_tr l (k := k) (m := see m l.root) (f := a) (u := b) (see_ok.2 ho) (hr3.see _) hgl (by omega)
        simp only [Int.toNat_natCast] at ih1
        obtain ⟨d1, v1, u1⟩ := ih1
        have hu1 := (see_upd (zn O) m l.root).to u1 (S := []) (k := cost l.h l.elems.length a b + 1) (fun s hs => by simp at hs) (by omega)
        have w1 : W ((l.elems.length : Int) + 1) = (l.elems.length : Int) + 1 := W_of (by omega)
        have w2 : W (W ((a : Int) - (l.elems.length : Int)) - 1) = (a : Int) - l.elems.length - 1 := by rw [W_of (n := (a : Int) - (l.elems.length : Int)) (by omega), W_of (by omega)]
        have w3 : W (W ((b : Int) - (l.elems.length : Int)) - 1) = (b : Int) - l.elems.length - 1 := by rw [W_of (n := (b : Int) - (l.elems.length : Int)) (by omega), W_of (by omega)]
        rw [w1, w2, w3, v1]
        have hsn := sub_node l.elems q.elems x (a := a) (b := b) (by omega)
        rw [hL] at hsn
        have hgs := good_sub Z a b hg
        rw [hsn] at hgs ⊢
        have hone : (if (a : Int) ≤ (l.elems.length : Int) ∧ (l.elems.length : Int) < (b : Int) then plusP O ⟨(sub l.elems a b).length, S (sub l.elems a b)⟩ (one O x) else ⟨(sub l.elems a b).length, S (sub l.elems a b)⟩) =
            ⟨(sub l.elems a b ++ (if a ≤ l.elems.length ∧ l.elems.length < b then [x] else [])).length, S (sub l.elems a b ++ (if a ≤ l.elems.length ∧ l.elems.length < b then [x] else []))⟩ := by
          by_cases c3 : a ≤ l.elems.length ∧ l.elems.length < b
          · rw [if_pos (by omega), if_pos c3]
            rw [if_pos c3] at hgs
            rw [one_part Z, part_plus Z (Z.left _ (sub q.elems (a - (l.elems.length + 1)) (b - (l.elems.length + 1))) (by simpa using hgs))]
          · rw [if_neg (by omega), if_neg c3, List.append_nil]
        rw [hone]
        by_cases c4 : (b : Int) ≤ (l.elems.length : Int) + 1
        · rw [if_pos c4]
          refine ⟨fun _ _ => ⟨d1, fun h => absurd c4 h⟩, ?_, hu1.mono (fun s hs => hs) ?_⟩
          rotate_left
          · have q1 := cost_le l.h l.elems.length a b
            have q0 : ¬ ((max f 0 ≥ min u (L.length : Nat)) ∨ (f ≤ 0 ∧ u ≥ (L.length : Nat))) := by omega
            rw [cost_eq q0]
            split <;> omega
          rw [sub_none (l := q.elems) (.inl (by omega)), List.append_nil]
        · rw [if_neg c4]
          obtain ⟨d2, v2, u2⟩ := between_tr q (k := k) (m := see (between O k (see m l.root) (nd O S l) a b).2 q.root) (f := (a : Int) - l.elems.length - 1) (u := (b : Int) - l.elems.length - 1) (see_ok.2 (between_ok.2 (see_ok.2 ho)))
            ((Rp.frame hu1 (fun s _ hs => by cases hs) hr4).see _) hgq (by omega)
          refine ⟨fun _ _ => ⟨d1, fun _ => d2⟩, ?_, (hu1.to (see_upd _ _ q.root) (S := []) (k := cost l.h l.elems.length a b + 2) (fun s hs => by simp at hs) (by omega)).to u2 (fun s hs => by simp at hs) ?_⟩
          · rw [v2]
            rw [show ((a : Int) - l.elems.length - 1).toNat = a - (l.elems.length + 1) by omega, show ((b : Int) - l.elems.length - 1).toNat = b - (l.elems.length + 1) by omega]
            rw [part_plus Z (by rw [List.append_assoc]; exact hgs), List.append_assoc]
          · have q1 := cost_le l.h l.elems.length a b
            have q2 := cost_le q.h q.elems.length ((a : Int) - l.elems.length - 1) ((b : Int) - l.elems.length - 1)
            have q0 : ¬ ((max f 0 ≥ min u (L.length : Nat)) ∨ (f ≤ 0 ∧ u ≥ (L.length : Nat))) := by omega
            rw [cost_eq q0]
            split
            · rcases Nat.eq_zero_or_pos a with h0 | h0
              · have := q1.2.2 (by omega)
                have := q2.2.1 (by omega)
                omega
              · rcases Nat.lt_or_ge l.elems.length a with h3 | h3
                · have := q1.2.2 (by omega)
                  have := q2.2.1 (by omega)
                  omega
                · have := q1.2.1 (by omega)
                  have := q2.2.2 (by omega)
                  omega
            · rcases Nat.lt_or_ge l.elems.length a with h3 | h3
              · have := q1.2.2 (by omega)
                omega
              · have := q1.2.1 (by omega)
                have := q2.2.1 (by omega)
                omega
end
end Go.Proofs.Ytclagkjjgmeifaa.Gv


/- grove: the first and the last place. -/
namespace Go.Proofs.Ytclagkjjgmeifaa.Gv
open Go.Proofs.Ytclagkjjgmeifaa.Rx
set_option linter.unusedVariables false
set_option linter.unusedSimpArgs false
set_option linter.unusedSectionVars false
section
variable {E A : Type} {O : Ops E A} {S : List E → A} {good : List E → Prop} (Z : Laws O S good)
/-- what is asked of places, and of more of them side by side -/
structure Asks (O : Ops E A) (S : List E → A) (may : A → A → Bool) (P : Nat → Bool) (L : List E) : Prop where
  at_ : ∀ p x q, p ++ x :: q = L → P p.length = may (S p) (O.sum x)
  mon : ∀ p l q, p ++ (l ++ q) = L → ∀ i, p.length ≤ i → i < p.length + l.length → P i = true → may (S p) (S l) = true
def FirstIs (P : Nat → Bool) (a b : Nat) (from_ r : Int) : Prop :=
  (r = -1 ∧ ∀ i : Nat, a ≤ i → i < b → from_ ≤ i → P i = false) ∨ (∃ j : Nat, r = j ∧ a ≤ j ∧ j < b ∧ from_ ≤ j ∧ P j = true ∧ ∀ i : Nat, a ≤ i → i < j → from_ ≤ i → P i = false)
def LastIs (P : Nat → Bool) (a b : Nat) (to r : Int) : Prop :=
  (r = -1 ∧ ∀ i : Nat, a ≤ i → i < b → (i : Int) < to → P i = false) ∨ (∃ j : Nat, r = j ∧ a ≤ j ∧ j < b ∧ (j : Int) < to ∧ P j = true ∧ ∀ i : Nat, j < i → i < b → (i : Int) < to → P i = false)
include Z
theorem first_tr {n : Nat} {may : A → A → Bool} {P : Nat → Bool} {L : List E} {f : Int} (hA : Asks O S may P L) (hg : good L) : ∀ (t : Tr E) {k : Nat} {m : Po E A} {p s : List E}, POk n m → Rp O S m t → p ++ (t.elems ++ s) = L → t.h < k →
    FirstIs P p.length (p.length + t.elems.length) f (first O may k m (nd O S t) ⟨p.length, S p⟩ f).1 ∧ ∃ kk, Upd [] kk (zn O) m (first O may k m (nd O S t) ⟨p.length, S p⟩ f).2
  | t, 0, m, p, s, _, _, _, hk => by omega
  | .nil, k + 1, m, p, s, ho, hr, hL, hk => by
    rw [first, if_pos (.inl (by rw [nd_h]; rfl))]
    exact ⟨.inl ⟨rfl, fun i h1 h2 => by simp [Tr.elems, Tr.items] at h2; omega⟩, 0, Upd.refl _ _ _ _⟩
  | .node r l x q, k + 1, m, p, s, ho, ⟨hr1, hr2, hr3, hr4⟩, hL, hk => by
    simp only [Tr.h] at hk
    have hlen := Z.len _ hg
    have hall := nd_all (O := O) (S := S) Z.nil (.node r l x q)
    rw [← Tr.elems_length] at hall
    have kl : lk O m l.root = nd O S l := hr3.root ho
    have kq : lk O m q.root = nd O S q := hr4.root ho
    have e1 : (nd O S (Tr.node r l x q)).l = l.root := rfl
    have e2 : (nd O S (Tr.node r l x q)).r = q.root := rfl
    have e3 : (nd O S (Tr.node r l x q)).e = x := rfl
    have e5 : ¬ (nd O S (Tr.node r l x q)).h = 0 := by rw [nd_h]; simp only [Tr.h]; omega
    have hLl := congrArg List.length hL
    rw [Tr.elems_node] at hL
    have hL1 : p ++ (l.elems ++ (x :: q.elems ++ s)) = L := by simpa using hL
    have hL2 : (p ++ l.elems) ++ x :: (q.elems ++ s) = L := by simpa using hL
    have hL3 : (p ++ l.elems ++ [x]) ++ (q.elems ++ s) = L := by simpa using hL
    have hmon := hA.mon p (Tr.node r l x q).elems s (by rw [Tr.elems_node]; exact hL)
    rw [first, e1, e2, e3, hall]
    simp only [kl, lk_first, lk_see, kq, nd_all Z.nil, ← Tr.elems_length]
    simp only [List.length_append] at hLl
    have hsl : (Tr.node r l x q).elems.length = l.elems.length + (q.elems.length + 1) := by rw [Tr.elems_node]; simp
    have w1 : W ((p.length : Int) + ((Tr.node r l x q).elems.length : Int)) = (p.length : Int) + (Tr.node r l x q).elems.length := W_of (by omega)
    rw [w1]
    by_cases c1 : (nd O S (Tr.node r l x q)).h = 0 ∨ (p.length : Int) + (Tr.node r l x q).elems.length ≤ f
    · rw [if_pos c1]
      refine ⟨.inl ⟨rfl, fun i h1 h2 h3 => ?_⟩, 0, Upd.refl _ _ _ _⟩
      rcases c1 with c1 | c1
      · exact absurd c1 e5
      · omega
    · rw [if_neg c1]
      by_cases c2 : (p.length : Int) ≥ f ∧ may (S p) (S (Tr.node r l x q).elems) = false
      · rw [if_pos c2]
        refine ⟨.inl ⟨rfl, fun i h1 h2 h3 => ?_⟩, 0, Upd.refl _ _ _ _⟩
        cases hP : P i with
        | false => rfl
        | true => have := hmon i h1 h2 hP; rw [c2.2] at this; cases this
      · rw [if_neg c2]
        obtain ⟨i1, kk, i2⟩ := first_tr hA hg l (k := k) (m := see m l.root) (p := p) (s := x :: q.elems ++ s) (see_ok.2 ho) (hr3.see _) hL1 (by omega)
        have hu := (see_upd (zn O) m l.root).to i2 (S := []) (fun s hs => by simp at hs) (Nat.le_refl _)
        by_cases c3 : (first O may k (see m l.root) (nd O S l) ⟨p.length, S p⟩ f).1 ≥ 0
        · rw [if_pos c3]
          refine ⟨?_, _, hu⟩
          rcases i1 with ⟨h1, _⟩ | ⟨j, h1, h2, h3, h4, h5, h6⟩
          · omega
          · exact .inr ⟨j, h1, h2, by omega, h4, h5, h6⟩
        · rw [if_neg c3]
          have hno : ∀ i : Nat, p.length ≤ i → i < p.length + l.elems.length → f ≤ i → P i = false := by
            rcases i1 with ⟨_, h⟩ | ⟨j, h1, _⟩
            · exact h
            · omega
          have hgl : good (p ++ l.elems) := Z.left _ (x :: (q.elems ++ s)) (by rw [hL2]; exact hg)
          have hgx : good ((p ++ l.elems) ++ [x]) := Z.left _ (q.elems ++ s) (by rw [hL3]; exact hg)
          rw [part_plus Z hgl, one_part Z, part_plus Z hgx]
          have hPx := hA.at_ (p ++ l.elems) x (q.elems ++ s) hL2
          have hpl : (p ++ l.elems).length = p.length + l.elems.length := by simp
          by_cases c4 : ((p ++ l.elems).length : Int) ≥ f ∧ may (S (p ++ l.elems)) (O.sum x) = true
          · rw [if_pos c4]
            refine ⟨.inr ⟨(p ++ l.elems).length, rfl, by omega, by omega, c4.1, by rw [hPx]; exact c4.2, fun i h1 h2 h3 => hno i h1 (by omega) h3⟩, _, hu⟩
          · rw [if_neg c4]
            obtain ⟨j1, kk2, j2⟩ := first_tr hA hg q (k := k) (m := see (first O may k (see m l.root) (nd O S l) ⟨p.length, S p⟩ f).2 q.root) (p := p ++ l.elems ++ [x]) (s := s) (see_ok.2 (first_ok.2 (see_ok.2 ho)))
              ((Rp.frame hu (fun s _ hs => by cases hs) hr4).see _) hL3 (by omega)
            refine ⟨?_, _, (hu.to (see_upd _ _ q.root) (S := []) (fun s hs => by simp at hs) (Nat.le_refl _)).to j2 (fun s hs => by simp at hs) (Nat.le_refl _)⟩
            have hxl : (p ++ l.elems ++ [x]).length = p.length + l.elems.length + 1 := by simp; omega
            have hnx : f ≤ (p ++ l.elems).length → P (p ++ l.elems).length = false := fun h => by
              rw [hPx]
              cases hm : may (S (p ++ l.elems)) (O.sum x) with
              | false => rfl
              | true => exact absurd ⟨h, hm⟩ c4
            have hall2 : ∀ i : Nat, p.length ≤ i → i < p.length + l.elems.length + 1 → f ≤ i → P i = false := fun i h1 h2 h3 => by
              rcases Nat.lt_or_ge i (p.length + l.elems.length) with h4 | h4
              · exact hno i h1 h4 h3
              · have : i = (p ++ l.elems).length := by omega
                rw [this]; exact hnx (by omega)
            rcases j1 with ⟨h1, h2⟩ | ⟨j, h1, h2, h3, h4, h5, h6⟩
            · refine .inl ⟨h1, fun i g1 g2 g3 => ?_⟩
              rcases Nat.lt_or_ge i (p.length + l.elems.length + 1) with h4 | h4
              · exact hall2 i g1 h4 g3
              · exact h2 i (by rw [hxl]; exact h4) (by rw [hxl]; omega) g3
            · rw [hxl] at h2 h3 h6
              refine .inr ⟨j, h1, by omega, by omega, h4, h5, fun i g1 g2 g3 => ?_⟩
              rcases Nat.lt_or_ge i (p.length + l.elems.length + 1) with h7 | h7
              · exact hall2 i g1 h7 g3
              · exact h6 i h7 g2 g3
theorem last_tr {n : Nat} {may : A → A → Bool} {P : Nat → Bool} {L : List E} {u : Int} (hA : Asks O S may P L) (hg : good L) : ∀ (t : Tr E) {k : Nat} {m : Po E A} {p s : List E}, POk n m → Rp O S m t → p ++ (t.elems ++ s) = L → t.h < k →
    LastIs P p.length (p.length + t.elems.length) u (last O may k m (nd O S t) ⟨p.length, S p⟩ u).1 ∧ ∃ kk, Upd [] kk (zn O) m (last O may k m (nd O S t) ⟨p.length, S p⟩ u).2
  | t, 0, m, p, s, _, _, _, hk => by omega
  | .nil, k + 1, m, p, s, ho, hr, hL, hk => by
    rw [last, if_pos (.inl (by rw [nd_h]; rfl))]
    exact ⟨.inl ⟨rfl, fun i h1 h2 => by simp [Tr.elems, Tr.items] at h2; omega⟩, 0, Upd.refl _ _ _ _⟩
  | .node r l x q, k + 1, m, p, s, ho, ⟨hr1, hr2, hr3, hr4⟩, hL, hk => by
    simp only [Tr.h] at hk
    have hlen := Z.len _ hg
    have hall := nd_all (O := O) (S := S) Z.nil (.node r l x q)
    rw [← Tr.elems_length] at hall
    have kl : lk O m l.root = nd O S l := hr3.root ho
    have kq : lk O m q.root = nd O S q := hr4.root ho
    have e1 : (nd O S (Tr.node r l x q)).l = l.root := rfl
    have e2 : (nd O S (Tr.node r l x q)).r = q.root := rfl
    have e3 : (nd O S (Tr.node r l x q)).e = x := rfl
    have e5 : ¬ (nd O S (Tr.node r l x q)).h = 0 := by rw [nd_h]; simp only [Tr.h]; omega
    have hLl := congrArg List.length hL
    rw [Tr.elems_node] at hL
    have hL1 : p ++ (l.elems ++ (x :: q.elems ++ s)) = L := by simpa using hL
    have hL2 : (p ++ l.elems) ++ x :: (q.elems ++ s) = L := by simpa using hL
    have hL3 : (p ++ l.elems ++ [x]) ++ (q.elems ++ s) = L := by simpa using hL
    have hmon := hA.mon p (Tr.node r l x q).elems s (by rw [Tr.elems_node]; exact hL)
    rw [last, e1, e2, e3, hall]
    simp only [kl, lk_last, lk_see, kq, nd_all Z.nil, ← Tr.elems_length]
    simp only [List.length_append] at hLl
    have hsl : (Tr.node r l x q).elems.length = l.elems.length + (q.elems.length + 1) := by rw [Tr.elems_node]; simp
    have w1 : W ((p.length : Int) + ((Tr.node r l x q).elems.length : Int)) = (p.length : Int) + (Tr.node r l x q).elems.length := W_of (by omega)
    rw [w1]
    by_cases c1 : (nd O S (Tr.node r l x q)).h = 0 ∨ (p.length : Int) ≥ u
    · rw [if_pos c1]
      refine ⟨.inl ⟨rfl, fun i h1 h2 h3 => ?_⟩, 0, Upd.refl _ _ _ _⟩
      rcases c1 with c1 | c1
      · exact absurd c1 e5
      · omega
    · rw [if_neg c1]
      by_cases c2 : (p.length : Int) + (Tr.node r l x q).elems.length ≤ u ∧ may (S p) (S (Tr.node r l x q).elems) = false
      · rw [if_pos c2]
        refine ⟨.inl ⟨rfl, fun i h1 h2 h3 => ?_⟩, 0, Upd.refl _ _ _ _⟩
        cases hP : P i with
        | false => rfl
        | true => have := hmon i h1 h2 hP; rw [c2.2] at this; cases this
      · rw [if_neg c2]
        have hgl : good (p ++ l.elems) := Z.left _ (x :: (q.elems ++ s)) (by rw [hL2]; exact hg)
        have hgx : good ((p ++ l.elems) ++ [x]) := Z.left _ (q.elems ++ s) (by rw [hL3]; exact hg)
        rw [part_plus Z hgl, one_part Z, part_plus Z hgx]
        obtain ⟨i1, kk, i2⟩ := last_tr hA hg q (k := k) (m := see (see m l.root) q.root) (p := p ++ l.elems ++ [x]) (s := s) (see_ok.2 (see_ok.2 ho)) ((hr4.see _).see _) hL3 (by omega)
        have hu := (see2_upd (O := O) m l.root q.root).to i2 (S := []) (fun s hs => by simp at hs) (Nat.le_refl _)
        have hxl : (p ++ l.elems ++ [x]).length = p.length + l.elems.length + 1 := by simp; omega
        have hpl : (p ++ l.elems).length = p.length + l.elems.length := by simp
        have hPx := hA.at_ (p ++ l.elems) x (q.elems ++ s) hL2
        by_cases c3 : (last O may k (see (see m l.root) q.root) (nd O S q) ⟨(p ++ l.elems ++ [x]).length, S (p ++ l.elems ++ [x])⟩ u).1 ≥ 0
        · rw [if_pos c3]
          refine ⟨?_, _, hu⟩
          rcases i1 with ⟨h1, _⟩ | ⟨j, h1, h2, h3, h4, h5, h6⟩
          · omega
          · rw [hxl] at h2 h3
            exact .inr ⟨j, h1, by omega, by omega, h4, h5, fun i g1 g2 g3 => h6 i g1 (by rw [hxl]; omega) g3⟩
        · rw [if_neg c3]
          have hno : ∀ i : Nat, p.length + l.elems.length + 1 ≤ i → i < p.length + (Tr.node r l x q).elems.length → (i : Int) < u → P i = false := by
            rcases i1 with ⟨_, h⟩ | ⟨j, h1, _⟩
            · exact fun i g1 g2 g3 => h i (by rw [hxl]; exact g1) (by rw [hxl]; omega) g3
            · omega
          by_cases c4 : ((p ++ l.elems).length : Int) < u ∧ may (S (p ++ l.elems)) (O.sum x) = true
          · rw [if_pos c4]
            refine ⟨.inr ⟨(p ++ l.elems).length, rfl, by omega, by omega, c4.1, by rw [hPx]; exact c4.2, fun i h1 h2 h3 => hno i (by omega) h2 h3⟩, _, hu⟩
          · rw [if_neg c4]
            obtain ⟨j1, kk2, j2⟩ := last_tr hA hg l (k := k) (m := (last O may k (see (see m l.root) q.root) (nd O S q) ⟨(p ++ l.elems ++ [x]).length, S (p ++ l.elems ++ [x])⟩ u).2) (p := p) (s := x :: q.elems ++ s) (last_ok.2 (see_ok.2 (see_ok.2 ho)))
              (Rp.frame hu (fun s _ hs => by cases hs) hr3) hL1 (by omega)
            refine ⟨?_, _, hu.to j2 (S := []) (fun s hs => by simp at hs) (Nat.le_refl _)⟩
            have hnx : ((p ++ l.elems).length : Int) < u → P (p ++ l.elems).length = false := fun h => by
              rw [hPx]
              cases hm : may (S (p ++ l.elems)) (O.sum x) with
              | false => rfl
              | true => exact absurd ⟨h, hm⟩ c4
            have hall2 : ∀ i : Nat, p.length + l.elems.length ≤ i → i < p.length + (Tr.node r l x q).elems.length → (i : Int) < u → P i = false := fun i h1 h2 h3 => by
              rcases Nat.lt_or_ge (p.length + l.elems.length) i with h4 | h4
              · exact hno i h4 h2 h3
              · have : i = (p ++ l.elems).length := by omega
                rw [this]; exact hnx (by omega)
            rcases j1 with ⟨h1, h2⟩ | ⟨j, h1, h2, h3, h4, h5, h6⟩
            · refine .inl ⟨h1, fun i g1 g2 g3 => ?_⟩
              rcases Nat.lt_or_ge i (p.length + l.elems.length) with h4 | h4
              · exact h2 i g1 h4 g3
              · exact hall2 i h4 g2 g3
            · refine .inr ⟨j, h1, h2, by omega, h4, h5, fun i g1 g2 g3 => ?_⟩
              rcases Nat.lt_or_ge i (p.length + l.elems.length) with h7 | h7
              · exact h6 i g1 h7 g3
              · exact hall2 i h7 g2 g3
end
end Go.Proofs.Ytclagkjjgmeifaa.Gv


/- grove: lists in order. -/
namespace Go.Proofs.Ytclagkjjgmeifaa.Gv
open Go.Proofs.Ytclagkjjgmeifaa.Rx
set_option linter.unusedVariables false
set_option linter.unusedSimpArgs false
set_option linter.unusedSectionVars false
section
variable {E A : Type} (O : Ops E A)
def loE (e : E) (l : List E) : List E := l.takeWhile fun x => decide (0 < O.cmp e x)
def hiE (e : E) (l : List E) : List E := l.dropWhile fun x => decide (0 < O.cmp e x)
def hitE (e : E) (l : List E) : Option E :=
  match hiE O e l with
  | [] => none
  | x :: _ => if O.cmp e x = 0 then some x else none
def SrtE (l : List E) : Prop := l.Pairwise fun a b => O.cmp a b < 0
/-- one more, or another one in its place; one less -/
def putE (e : E) (l : List E) : List E :=
  match hitE O e l with
  | none => loE O e l ++ e :: hiE O e l
  | some _ => loE O e l ++ e :: (hiE O e l).tail
def dropE (e : E) (l : List E) : List E :=
  match hitE O e l with
  | none => l
  | some _ => loE O e l ++ (hiE O e l).tail
variable {O}
theorem loE_hiE (e : E) (l : List E) : loE O e l ++ hiE O e l = l := List.takeWhile_append_dropWhile
theorem loE_map (e : E) (l : List (Ref × E)) : (lo O e l).map Prod.snd = loE O e (l.map Prod.snd) := by
  unfold lo loE
  rw [List.takeWhile_map]
  rfl
theorem hiE_map (e : E) (l : List (Ref × E)) : (hi O e l).map Prod.snd = hiE O e (l.map Prod.snd) := by
  unfold hi hiE
  rw [List.dropWhile_map]
  rfl
theorem hitE_map (e : E) (l : List (Ref × E)) : (hit O e l).map Prod.snd = hitE O e (l.map Prod.snd) := by
  unfold hit hitE
  rw [← hiE_map]
  cases hi O e l with
  | nil => rfl
  | cons x tl => simp only [List.map_cons]; split <;> rfl
theorem Srt_map {l : List (Ref × E)} : SrtE O (l.map Prod.snd) ↔ Srt O l := by
  unfold SrtE Srt
  rw [List.pairwise_map]
theorem hiE_tail (e : E) (l : List (Ref × E)) : (hi O e l).tail.map Prod.snd = (hiE O e (l.map Prod.snd)).tail := by
  rw [← hiE_map, List.map_tail]
theorem cons_gt {e y : E} {l : List E} (h : 0 < O.cmp e y) : loE O e (y :: l) = y :: loE O e l ∧ hiE O e (y :: l) = hiE O e l ∧ hitE O e (y :: l) = hitE O e l ∧ putE O e (y :: l) = y :: putE O e l ∧ dropE O e (y :: l) = y :: dropE O e l := by
  have h1 : loE O e (y :: l) = y :: loE O e l := by unfold loE; rw [List.takeWhile_cons, if_pos (by simpa using h)]
  have h2 : hiE O e (y :: l) = hiE O e l := by unfold hiE; rw [List.dropWhile_cons, if_pos (by simpa using h)]
  have h3 : hitE O e (y :: l) = hitE O e l := by unfold hitE; rw [h2]
  refine ⟨h1, h2, h3, ?_, ?_⟩
  · unfold putE; rw [h1, h2, h3]; split <;> rfl
  · unfold dropE; rw [h1, h2, h3]; split <;> rfl
theorem cons_ngt {e y : E} {l : List E} (h : ¬ 0 < O.cmp e y) : loE O e (y :: l) = [] ∧ hiE O e (y :: l) = y :: l := by
  refine ⟨?_, ?_⟩
  · unfold loE; rw [List.takeWhile_cons, if_neg (by simpa using h)]
  · unfold hiE; rw [List.dropWhile_cons, if_neg (by simpa using h)]
theorem cons_eq {e y : E} {l : List E} (h : O.cmp e y = 0) : hitE O e (y :: l) = some y ∧ putE O e (y :: l) = e :: l ∧ dropE O e (y :: l) = l := by
  obtain ⟨h1, h2⟩ := cons_ngt (O := O) (e := e) (y := y) (l := l) (by omega)
  have h3 : hitE O e (y :: l) = some y := by unfold hitE; rw [h2]; exact if_pos h
  refine ⟨h3, ?_, ?_⟩
  · unfold putE; rw [h1, h2, h3]; rfl
  · unfold dropE; rw [h1, h2, h3]; rfl
theorem cons_lt {e y : E} {l : List E} (h : O.cmp e y < 0) : hitE O e (y :: l) = none ∧ putE O e (y :: l) = e :: y :: l ∧ dropE O e (y :: l) = y :: l := by
  obtain ⟨h1, h2⟩ := cons_ngt (O := O) (e := e) (y := y) (l := l) (by omega)
  have h3 : hitE O e (y :: l) = none := by unfold hitE; rw [h2]; exact if_neg (by omega)
  refine ⟨h3, ?_, ?_⟩
  · unfold putE; rw [h1, h2, h3]; rfl
  · unfold dropE; rw [h3]
theorem put_mem {e : E} : ∀ {l : List E} {x : E}, x ∈ putE O e l → x = e ∨ x ∈ l
  | [], x, h => by simp [putE, hitE, hiE, loE] at h; exact .inl h
  | y :: l, x, h => by
    rcases Int.lt_trichotomy (O.cmp e y) 0 with c | c | c
    · rw [(cons_lt c).2.1] at h
      simpa using h
    · rw [(cons_eq c).2.1] at h
      rcases List.mem_cons.1 h with h | h
      · exact .inl h
      · exact .inr (List.mem_cons_of_mem _ h)
    · rw [(cons_gt c).2.2.2.1] at h
      rcases List.mem_cons.1 h with h | h
      · exact .inr (by rw [h]; exact List.mem_cons_self)
      · rcases put_mem h with h | h
        · exact .inl h
        · exact .inr (List.mem_cons_of_mem _ h)
theorem drop_mem {e : E} : ∀ {l : List E} {x : E}, x ∈ dropE O e l → x ∈ l
  | [], x, h => by simp [dropE, hitE, hiE, loE] at h
  | y :: l, x, h => by
    rcases Int.lt_trichotomy (O.cmp e y) 0 with c | c | c
    · rw [(cons_lt c).2.2] at h; exact h
    · rw [(cons_eq c).2.2] at h; exact List.mem_cons_of_mem _ h
    · rw [(cons_gt c).2.2.2.2] at h
      rcases List.mem_cons.1 h with h | h
      · rw [h]; exact List.mem_cons_self
      · exact List.mem_cons_of_mem _ (drop_mem h)
theorem put_len {e : E} : ∀ {l : List E}, (putE O e l).length = l.length + (if (hitE O e l).isSome then 0 else 1)
  | [] => by simp [putE, hitE, hiE, loE]
  | y :: l => by
    rcases Int.lt_trichotomy (O.cmp e y) 0 with c | c | c
    · rw [(cons_lt c).2.1, (cons_lt c).1]; simp
    · rw [(cons_eq c).2.1, (cons_eq c).1]; simp
    · rw [(cons_gt c).2.2.2.1, (cons_gt c).2.2.1, List.length_cons, List.length_cons, put_len]; omega
theorem drop_len {e : E} : ∀ {l : List E}, (dropE O e l).length + (if (hitE O e l).isSome then 1 else 0) = l.length
  | [] => by simp [dropE, hitE, hiE, loE]
  | y :: l => by
    rcases Int.lt_trichotomy (O.cmp e y) 0 with c | c | c
    · rw [(cons_lt c).2.2, (cons_lt c).1]; simp
    · rw [(cons_eq c).2.2, (cons_eq c).1]; simp
    · have := drop_len (e := e) (l := l)
      rw [(cons_gt c).2.2.2.2, (cons_gt c).2.2.1, List.length_cons, List.length_cons]; omega
variable {S : List E → A} {good : List E → Prop} (Z : Laws O S good)
include Z
theorem put_srt {e : E} : ∀ {l : List E}, SrtE O l → SrtE O (putE O e l)
  | [], h => by simp [putE, hitE, hiE, loE, SrtE]
  | y :: l, h => by
    obtain ⟨h1, h2⟩ := List.pairwise_cons.1 h
    rcases Int.lt_trichotomy (O.cmp e y) 0 with c | c | c
    · rw [(cons_lt c).2.1]
      refine List.pairwise_cons.2 ⟨fun x hx => ?_, h⟩
      rcases List.mem_cons.1 hx with hx | hx
      · rw [hx]; exact c
      · exact Z.trans _ _ _ c (h1 x hx)
    · rw [(cons_eq c).2.1]
      exact List.pairwise_cons.2 ⟨fun x hx => Z.eqv _ _ _ c (h1 x hx), h2⟩
    · rw [(cons_gt c).2.2.2.1]
      refine List.pairwise_cons.2 ⟨fun x hx => ?_, put_srt h2⟩
      rcases put_mem hx with hx | hx
      · rw [hx]; exact (Z.swap _ _).2 c
      · exact h1 x hx
omit Z in
theorem drop_srt {e : E} : ∀ {l : List E}, SrtE O l → SrtE O (dropE O e l)
  | [], h => by simp [dropE, hitE, hiE, loE, SrtE]
  | y :: l, h => by
    obtain ⟨h1, h2⟩ := List.pairwise_cons.1 h
    rcases Int.lt_trichotomy (O.cmp e y) 0 with c | c | c
    · rw [(cons_lt c).2.2]; exact h
    · rw [(cons_eq c).2.2]; exact h2
    · rw [(cons_gt c).2.2.2.2]
      exact List.pairwise_cons.2 ⟨fun x hx => h1 x (drop_mem hx), drop_srt h2⟩
end
end Go.Proofs.Ytclagkjjgmeifaa.Gv


/- grove: two trees in a pool: put, drop. -/
namespace Go.Proofs.Ytclagkjjgmeifaa.Gv
open Go.Proofs.Ytclagkjjgmeifaa.Rx
set_option linter.unusedVariables false
set_option linter.unusedSimpArgs false
set_option linter.unusedSectionVars false
/-- at most k nodes were looked at -/
def Vis {N : Type} (k : Nat) (m m' : PM N) : Prop := ∃ j : Nat, j ≤ k ∧ (m'.visits = m.visits ∧ j = 0 ∨ m'.visits = W (m.visits + j))
theorem Vis.trans {N : Type} {k k' : Nat} {a b c : PM N} (h : Vis k a b) (h' : Vis k' b c) : Vis (k + k') a c := by
  obtain ⟨j, hj, e⟩ := h
  obtain ⟨j', hj', e'⟩ := h'
  refine ⟨j + j', by omega, ?_⟩
  rcases e with ⟨e, rfl⟩ | e <;> rcases e' with ⟨e', rfl⟩ | e'
  · exact .inl ⟨e'.trans e, rfl⟩
  · right; rw [e', e]; congr 1; omega
  · right; rw [e', e]; congr 1
  · right; rw [e', e, W_W]; congr 1; omega
theorem Vis.mono {N : Type} {k k' : Nat} {a b : PM N} (h : Vis k a b) (hk : k ≤ k') : Vis k' a b := by
  obtain ⟨j, hj, e⟩ := h
  exact ⟨j, Nat.le_trans hj hk, e⟩
section
variable {E A : Type} {O : Ops E A} {S : List E → A} {good : List E → Prop}
theorem Upd.v {R : List Ref} {k : Nat} {z : Node E A} {m m' : Po E A} (h : Upd R k z m m') : Vis k m m' := h.vis
/-- a pool with two trees in it -/
structure St (O : Ops E A) (S : List E → A) (good : List E → Prop) (n : Nat) (m : Po E A) (a b : Tr E) : Prop where
  ok : POk n m
  ra : Rp O S m a
  rb : Rp O S m b
  ba : a.bal
  bb : b.bal
  sa : Srt O a.items
  sb : Srt O b.items
  nod : (a.refs ++ b.refs).Nodup
  held : m.held = a.items.length + b.items.length
  ga : good a.elems
  gb : good b.elems
theorem St.swap {n : Nat} {m : Po E A} {a b : Tr E} (h : St O S good n m a b) : St O S good n m b a :=
  ⟨h.ok, h.rb, h.ra, h.bb, h.ba, h.sb, h.sa, (List.perm_append_comm.nodup_iff).1 h.nod, by rw [h.held]; omega, h.gb, h.ga⟩
theorem St.nodA {n : Nat} {m : Po E A} {a b : Tr E} (h : St O S good n m a b) : a.refs.Nodup := (List.nodup_append.1 h.nod).1
theorem St.off {n : Nat} {m : Po E A} {a b : Tr E} (h : St O S good n m a b) : ∀ s, s ∈ b.refs → s ∉ a.refs := fun s hs ha => (List.nodup_append.1 h.nod).2.2 _ ha _ hs rfl
theorem St.look {n k : Nat} {m m' : Po E A} {a b : Tr E} (h : St O S good n m a b) (hu : Upd [] k (zn O) m m') : St O S good n m' a b :=
  ⟨hu.ok h.ok, Rp.frame hu (fun s _ hs => by cases hs) h.ra, Rp.frame hu (fun s _ hs => by cases hs) h.rb, h.ba, h.bb, h.sa, h.sb, h.nod, by rw [hu.held]; exact h.held, h.ga, h.gb⟩
theorem St.see {n : Nat} {m : Po E A} {a b : Tr E} (h : St O S good n m a b) (r : Ref) : St O S good n (Gv.see m r) a b := h.look (see_upd _ m r)
theorem St.mono {n k : Nat} {m : Po E A} {a b : Tr E} (h : St O S good n m a b) (hk : n ≤ k) : St O S good k m a b :=
  ⟨h.ok.mono hk, h.ra, h.rb, h.ba, h.bb, h.sa, h.sb, h.nod, h.held, h.ga, h.gb⟩
/-- another tree in the place of the first one -/
theorem St.first {n k : Nat} {m m' : Po E A} {a a' b : Tr E} {root : Ref} {its : List (Ref × E)} {R : List Ref} (h : St O S good n m a b) (hi : Is O S m' root its a') (hu : Upd R k (zn O) m m') (hR : ∀ s, s ∈ R → s ∈ a.refs)
    (hits : ∀ s, s ∈ a'.refs → s ∈ a.refs) (hnd : a'.refs.Nodup) (hlen : a'.items.length = a.items.length) (hs : SrtE O a'.elems) (hg : good a'.elems) : St O S good n m' a' b :=
  ⟨hu.ok h.ok, hi.rp, Rp.frame hu (fun s hs hr => h.off s hs (hR s hr)) h.rb, hi.bal, h.bb, Srt_map.1 hs, h.sb,
    List.nodup_append.2 ⟨hnd, (List.nodup_append.1 h.nod).2.1, fun x hx y hy e => by subst e; exact h.off x hy (hits x hx)⟩, by rw [hu.held, h.held, hlen], hg, h.gb⟩
theorem St.empty (hg : good []) (c : Int) (n : Nat) : St O S good n ⟨[], [], [], [], 0, c, 0⟩ .nil .nil :=
  ⟨⟨rfl, rfl, (fun f hf => by cases hf), List.nodup_nil, Nat.zero_le _, Nat.zero_le _, (fun g hg => by cases hg), (fun i hi => by simp at hi), ⟨by simp only; omega, by simp only; omega⟩⟩, trivial, trivial, trivial, trivial, List.Pairwise.nil, List.Pairwise.nil, List.nodup_nil, rfl, hg, hg⟩
def rf_list (x y : List (Ref × E)) (r : Ref) : List Ref := x.map Prod.fst ++ r :: y.map Prod.fst
theorem rf_put {e : E} {r : Ref} {x : Ref × E} {l : List (Ref × E)} (h : hit O e l = some x) : (lo O e l ++ (x.1, e) :: (hi O e l).tail).map Prod.fst = l.map Prod.fst := by
  have h1 := (hit_some h).1
  conv => rhs; rw [← lo_hi O e l, h1]
  simp
variable (Z : Laws O S good)
include Z
theorem put_st {n K : Nat} {e : E} {m : Po E A} {a b : Tr E} (h : St O S good n m a b) (hn : n + 1 ≤ 100000) (hg : good (putE O e a.elems)) (hk : a.h < K) :
    PutD O K m a.root e ∧ (putF O K m a.root e).1 = ((hitE O e a.elems).isSome || decide (m.held ≠ m.cap)) ∧
      ∃ a', (putF O K m a.root e).2.1 = a'.root ∧ St O S good (n + 1) (putF O K m a.root e).2.2 a' b ∧ a'.elems = (if ((hitE O e a.elems).isSome || decide (m.held ≠ m.cap)) = true then putE O e a.elems else a.elems) ∧
        Vis (32 * a.h + 4) m (putF O K m a.root e).2.2 ∧ (putF O K m a.root e).2.2.cap = m.cap := by
  have hD := Deep_tr a h.ok h.ra hk
  have hE : (hit O e a.items).map Prod.snd = hitE O e a.elems := hitE_map e a.items
  have hlo : (lo O e a.items).map Prod.snd = loE O e a.elems := loE_map e a.items
  have hhi : (hi O e a.items).map Prod.snd = hiE O e a.elems := hiE_map e a.items
  have htl : (hi O e a.items).tail.map Prod.snd = (hiE O e a.elems).tail := hiE_tail e a.items
  have hsE := put_srt Z (e := e) (Srt_map.2 h.sa : SrtE O a.elems)
  have R := replace_tr Z (e := e) a (k := K) h.ok h.ra h.ba h.sa h.nodA (fun x hx => by
    have : hitE O e a.elems = some x.2 := by rw [← hE, hx]; rfl
    unfold putE at hg
    rw [this] at hg
    rw [gd, List.map_append, List.map_cons, hlo, htl]
    exact hg) hk
  cases hh : hit O e a.items with
  | some x =>
    rw [hh] at R hE
    obtain ⟨r1, a', r2, r3, r4⟩ := R
    have hE : hitE O e a.elems = some x.2 := hE.symm
    have e1 : putF O K m a.root e = (true, a.root, (replace O K m a.root e).2) := by rw [putF, if_pos r1]
    have e2 : a'.elems = putE O e a.elems := by
      rw [Tr.elems, r2.its, List.map_append, List.map_cons, hlo, htl]
      unfold putE
      rw [hE]
    have e3 : a'.refs = a.refs := by rw [Tr.refs, r2.its]; exact rf_put (r := r0) hh
    refine ⟨⟨hD, fun hc => ?_⟩, by rw [e1, hE]; rfl, a', by rw [e1]; exact r2.root, ?_, ?_, ?_, by rw [e1]; exact r4.cap⟩
    · have hp := put_ok (zn O) (r4.ok h.ok) hc (fresh O e)
      refine ⟨hp.2.mono hn, ?_⟩
      have hf : ∀ t : Tr E, Rp O S (replace O K m a.root e).2 t → Rp O S (put (zn O) (replace O K m a.root e).2 (fresh O e)) t := by
        intro t
        induction t with
        | nil => exact fun _ => trivial
        | node r l y q ihl ihq =>
          intro ⟨q1, q2, q3, q4⟩
          have := hp.1.old r q1
          exact ⟨this.1, by rw [lk, this.2]; exact q2, ihl q3, ihq q4⟩
      have := Deep_tr a' (k := K) hp.2 (hf a' r2.rp) (by omega)
      rw [← r2.root] at this
      exact this
    · rw [e1]
      refine (h.first r2 r4 (fun s hs => hs) (fun s hs => by rw [e3] at hs; exact hs) (by rw [e3]; exact h.nodA) (by rw [← Tr.refs_length, e3, Tr.refs_length]) (by rw [e2]; exact hsE) (by rw [e2]; exact hg)).mono (by omega)
    · rw [e2, hE]; rfl
    · rw [e1]; exact r4.v.mono (by omega)
  | none =>
    rw [hh] at R hE
    obtain ⟨r1, r2⟩ := R
    have hE : hitE O e a.elems = none := hE.symm
    have h2 := h.look r2
    have hup : putE O e a.elems = loE O e a.elems ++ e :: hiE O e a.elems := by unfold putE; rw [hE]
    by_cases hc : (replace O K m a.root e).2.held = (replace O K m a.root e).2.cap
    · have hc' : m.held = m.cap := by rw [← r2.held, ← r2.cap, hc]
      have ep : put (zn O) (replace O K m a.root e).2 (fresh O e) = (replace O K m a.root e).2 := by unfold put; rw [if_pos hc]
      have e1 : putF O K m a.root e = (false, a.root, (replace O K m a.root e).2) := by rw [putF, if_neg (by rw [r1]; decide), if_pos hc, ep]
      have e4 : ((hitE O e a.elems).isSome || decide (m.held ≠ m.cap)) = false := by rw [hE]; simpa using hc'
      refine ⟨⟨hD, fun hx => absurd hc hx⟩, by rw [e1, e4], a, by rw [e1], by rw [e1]; exact h2.mono (by omega), by rw [e4, if_neg (by decide)], by rw [e1]; exact r2.v.mono (by omega), by rw [e1]; exact r2.cap⟩
    · have hc' : m.held ≠ m.cap := by rw [← r2.held, ← r2.cap]; exact hc
      obtain ⟨p1, p2⟩ := put_ok (zn O) h2.ok hc (fresh O e)
      have hf : ∀ t : Tr E, Rp O S (replace O K m a.root e).2 t → Rp O S (put (zn O) (replace O K m a.root e).2 (fresh O e)) t := by
        intro t
        induction t with
        | nil => exact fun _ => trivial
        | node r l y q ihl ihq =>
          intro ⟨q1, q2, q3, q4⟩
          have := p1.old r q1
          exact ⟨this.1, by rw [lk, this.2]; exact q2, ihl q3, ihq q4⟩
      have hnew : ∀ t : Tr E, Rp O S (replace O K m a.root e).2 t → putR (zn O) (replace O K m a.root e).2 ∉ t.refs := fun t ht hr => by
        have := ht.has _ hr
        rw [p1.new] at this
        cases this
      have hnd : (putR (zn O) (replace O K m a.root e).2 :: a.refs).Nodup := List.nodup_cons.2 ⟨hnew a h2.ra, h.nodA⟩
      obtain ⟨t', t1, t2, t3, t4⟩ := hang_tr Z (f := putR (zn O) (replace O K m a.root e).2) (e := e) a (k := K) p2 (hf a h2.ra) h.ba h.sa hnd p1.has (by rw [lk, p1.look]; rfl) hh
        (by rw [gd, List.map_append, List.map_cons, hlo, hhi, ← hup]; exact hg) hk
      have e1 : putF O K m a.root e = (true, (hang O K (put (zn O) (replace O K m a.root e).2 (fresh O e)) a.root (putR (zn O) (replace O K m a.root e).2) e).1, (hang O K (put (zn O) (replace O K m a.root e).2 (fresh O e)) a.root (putR (zn O) (replace O K m a.root e).2) e).2) := by
        rw [putF, if_neg (by rw [r1]; decide), if_neg hc]
      have e4 : ((hitE O e a.elems).isSome || decide (m.held ≠ m.cap)) = true := by rw [hE]; simpa using hc'
      have e2 : t'.elems = putE O e a.elems := by rw [Tr.elems, t1.its, List.map_append, List.map_cons, hlo, hhi, hup]
      have e5 : t'.refs = rf_list (lo O e a.items) (hi O e a.items) (putR (zn O) (replace O K m a.root e).2) := by rw [Tr.refs, t1.its, List.map_append, List.map_cons]; rfl
      refine ⟨⟨hD, fun _ => ⟨p2.mono hn, Deep_tr a p2 (hf a h2.ra) hk⟩⟩, by rw [e1, e4], t', by rw [e1]; exact t1.root, ?_, by rw [e4, if_pos rfl]; exact e2, ?_, by rw [e1]; exact t4.cap.trans (p1.cap.trans r2.cap)⟩
      · rw [e1]
        have hrf := rf_lo_hi (O := O) e a.items
        have hmem : ∀ s, s ∈ t'.refs ↔ s = putR (zn O) (replace O K m a.root e).2 ∨ s ∈ a.refs := fun s => by
          rw [e5, Tr.refs, ← hrf]
          unfold rf_list
          simp only [List.mem_append, List.mem_cons]
          constructor
          · rintro (h | h | h) <;> simp [h]
          · rintro (h | h | h) <;> simp [h]
        refine ⟨t4.ok p2, t1.rp, Rp.frame t4 (fun s hs hr => ?_) (hf b h2.rb), t1.bal, h.bb, Srt_map.1 (by rw [show t'.items.map Prod.snd = t'.elems from rfl, e2]; exact hsE), h.sb, ?_, ?_, by rw [e2]; exact hg, h.gb⟩
        · rcases List.mem_cons.1 hr with hr | hr
          · exact hnew b h2.rb (by rw [← hr]; exact hs)
          · exact h.off s hs hr
        · refine List.nodup_append.2 ⟨?_, (List.nodup_append.1 h.nod).2.1, fun x hx y hy e => ?_⟩
          · rw [e5]
            unfold rf_list
            refine (List.perm_middle.nodup_iff).2 ?_
            rw [hrf]
            exact hnd
          · subst e
            rcases (hmem x).1 hx with hr | hr
            · exact hnew b h2.rb (by rw [← hr]; exact hy)
            · exact h.off x hy hr
        · have hl : t'.items.length = a.items.length + 1 := by
            have := put_len (O := O) (e := e) (l := a.elems)
            rw [hE] at this
            rw [← Tr.elems_length, e2, this, Tr.elems_length]
            rfl
          rw [t4.held, p1.held, h2.held, hl]
          omega
      · rw [e1]
        have : Vis 0 (replace O K m a.root e).2 (put (zn O) (replace O K m a.root e).2 (fresh O e)) := ⟨0, Nat.le_refl _, .inl ⟨p1.vis, rfl⟩⟩
        exact ((r2.v.trans this).trans t4.v).mono (by omega)
end
end Go.Proofs.Ytclagkjjgmeifaa.Gv


/- grove: two trees in a pool: drop, split. -/
namespace Go.Proofs.Ytclagkjjgmeifaa.Gv
open Go.Proofs.Ytclagkjjgmeifaa.Rx
set_option linter.unusedVariables false
set_option linter.unusedSimpArgs false
set_option linter.unusedSectionVars false
section
variable {E A : Type} {O : Ops E A} {S : List E → A} {good : List E → Prop}
theorem rf_drop {e : E} {x : Ref × E} {l : List (Ref × E)} (h : hit O e l = some x) : (x.1 :: rf (lo O e l ++ (hi O e l).tail)).Perm (l.map Prod.fst) := by
  have h1 := (hit_some h).1
  have h2 : l.map Prod.fst = (lo O e l).map Prod.fst ++ x.1 :: (hi O e l).tail.map Prod.fst := by
    conv => lhs; rw [← lo_hi O e l, h1]
    simp
  rw [h2]
  unfold rf
  rw [List.map_append]
  exact List.perm_middle.symm
theorem drop_none {m : Po E A} {z : Node E A} {r : Ref} (h : has m r = false) : drop z m r = m := by unfold drop; rw [if_neg (by rw [h]; decide)]
variable (Z : Laws O S good)
include Z
theorem drop_st {n K : Nat} {e : E} {m : Po E A} {a b : Tr E} (h : St O S good n m a b) (hg : good (loE O e a.elems ++ (hiE O e a.elems).tail)) (hk : 2 * a.h < K) :
    PickD O K K m a.root e ∧ (dropF O K m a.root e).1 = (hitE O e a.elems).getD O.e0 ∧ (dropF O K m a.root e).2.1 = (hitE O e a.elems).isSome ∧
      ∃ a', (dropF O K m a.root e).2.2.1 = a'.root ∧ St O S good (n + 1) (dropF O K m a.root e).2.2.2 a' b ∧ a'.elems = dropE O e a.elems ∧
        Vis (120 * a.h + 5) m (dropF O K m a.root e).2.2.2 ∧ (dropF O K m a.root e).2.2.2.cap = m.cap := by
  have hE : (hit O e a.items).map Prod.snd = hitE O e a.elems := hitE_map e a.items
  have hlo : (lo O e a.items).map Prod.snd = loE O e a.elems := loE_map e a.items
  have htl : (hi O e a.items).tail.map Prod.snd = (hiE O e a.elems).tail := hiE_tail e a.items
  have hsE := drop_srt (e := e) (Srt_map.2 h.sa : SrtE O a.elems)
  obtain ⟨R1, R⟩ := pick_tr Z (K := K) (e := e) a (k := K) h.ok h.ra h.ba h.sa h.nodA (by rw [gd, List.map_append, hlo, htl]; exact hg) (by omega) hk
  refine ⟨R1, ?_⟩
  unfold dropF
  cases hh : hit O e a.items with
  | none =>
    rw [hh] at R hE
    obtain ⟨r1, r2, r3⟩ := R
    have hE : hitE O e a.elems = none := hE.symm
    have h2 := h.look r3
    have hz := h2.ok.z0
    have h0 : lk O (pick O K K m a.root e).2.2 r0 = zn O := by unfold lk look; rw [if_neg (by rw [hz]; decide)]
    rw [r1, r2, h0, hz, drop_none hz, hE]
    refine ⟨rfl, rfl, a, rfl, h2.mono (by omega), ?_, r3.v.mono (by omega), r3.cap⟩
    unfold dropE
    rw [hE]
  | some x =>
    rw [hh] at R hE
    obtain ⟨r1, t, r2, r3, r4, r5⟩ := R
    have hE : hitE O e a.elems = some x.2 := hE.symm
    have hp := rf_drop hh
    have hnx : x.1 ∉ rf (lo O e a.items ++ (hi O e a.items).tail) ∧ (rf (lo O e a.items ++ (hi O e a.items).tail)).Nodup := List.nodup_cons.1 ((hp.nodup_iff).2 h.nodA)
    have hmem : ∀ s, s ∈ a.refs ↔ s = x.1 ∨ s ∈ rf (lo O e a.items ++ (hi O e a.items).tail) := fun s => by
      rw [Tr.refs, ← hp.mem_iff, List.mem_cons]
    have hxm := (hit_some hh).2.2
    have hhx : has m x.1 = true := h.ra.has _ (List.mem_map_of_mem hxm)
    have hhx' : has (pick O K K m a.root e).2.2 x.1 = true := by rw [r5.has]; exact hhx
    have ho := r5.ok h.ok
    obtain ⟨d1, d2, d3, d4, d5, d6⟩ := drop_ok (zn O) ho hhx'
    have hf : ∀ u : Tr E, x.1 ∉ u.refs → Rp O S (pick O K K m a.root e).2.2 u → Rp O S (drop (zn O) (pick O K K m a.root e).2.2 x.1) u := by
      intro u
      induction u with
      | nil => exact fun _ _ => trivial
      | node r l y q ihl ihq =>
        intro hx ⟨q1, q2, q3, q4⟩
        rw [Tr.refs_node] at hx
        simp only [List.mem_append, List.mem_cons, not_or] at hx
        have := d2 r (fun e => hx.2.1 e.symm)
        exact ⟨by rw [this.1]; exact q1, by rw [lk, this.2]; exact q2, ihl hx.1 q3, ihq hx.2.2 q4⟩
    have et : t.refs = rf (lo O e a.items ++ (hi O e a.items).tail) := by rw [Tr.refs, r2.its]
    have ee : t.elems = dropE O e a.elems := by
      rw [Tr.elems, r2.its, List.map_append, hlo, htl]
      unfold dropE
      rw [hE]
    rw [r1]
    have hel : (lk O (pick O K K m a.root e).2.2 x.1).e = x.2 := by
      have : lk O (pick O K K m a.root e).2.2 x.1 = lk O m x.1 := r5.look _ hnx.1
      rw [this]
      exact h.ra.elem x hxm
    refine ⟨by rw [hel, hE]; rfl, by rw [hhx', hE]; rfl, t, r2.root, ?_, ee, ?_, by rw [d5]; exact r5.cap⟩
    · refine ⟨d1, hf t (by rw [et]; exact hnx.1) r2.rp, hf b (fun hb => h.off _ hb ((hmem _).2 (.inl rfl))) (Rp.frame r5 (fun s hs hr => h.off s hs ((hmem s).2 (.inr hr))) h.rb), r2.bal, h.bb,
        Srt_map.1 (by rw [show t.items.map Prod.snd = t.elems from rfl, ee]; exact hsE), h.sb, ?_, ?_, ?_, h.gb⟩
      · exact List.nodup_append.2 ⟨by rw [et]; exact hnx.2, (List.nodup_append.1 h.nod).2.1, fun y hy z hz e => by subst e; exact h.off y hz ((hmem y).2 (.inr (by rw [← et]; exact hy)))⟩
      · have hl := drop_len (O := O) (e := e) (l := a.elems)
        rw [hE, ← ee, Tr.elems_length, Tr.elems_length] at hl
        rw [d4, r5.held, h.held]
        simp only [Option.isSome_some, if_true] at hl
        omega
      · rw [Tr.elems, r2.its, List.map_append, hlo, htl]; exact hg
    · have : Vis 1 (pick O K K m a.root e).2.2 (drop (zn O) (pick O K K m a.root e).2.2 x.1) := ⟨1, Nat.le_refl _, .inr d6⟩
      exact (r5.v.trans this).mono (by omega)
theorem split_st {n K : Nat} {e : E} {m : Po E A} {a : Tr E} (h : St O S good n m a .nil) (hk : 2 * a.items.length < K) :
    CutD O K K m a.root e ∧ ∃ x y, (cutF O K K m a.root e).1 = x.root ∧ (cutF O K K m a.root e).2.1 = y.root ∧ St O S good n (cutF O K K m a.root e).2.2 x y ∧ x.elems = loE O e a.elems ∧ y.elems = hiE O e a.elems ∧ (cutF O K K m a.root e).2.2.cap = m.cap := by
  have hh := a.h_le
  obtain ⟨r1, x, y, r2, r3, kk, r4⟩ := cut_tr Z (K := K) (e := e) a (k := K) h.ok h.ra h.ba h.sa h.nodA h.ga (by omega) hk
  have ex : x.elems = loE O e a.elems := by rw [Tr.elems, r2.its]; exact loE_map e a.items
  have ey : y.elems = hiE O e a.elems := by rw [Tr.elems, r3.its]; exact hiE_map e a.items
  have hsE : SrtE O a.elems := Srt_map.2 h.sa
  have hle := loE_hiE (O := O) e a.elems
  rw [← hle] at hsE
  have hg := h.ga
  rw [← hle] at hg
  have hrf := rf_lo_hi (O := O) e a.items
  refine ⟨r1, x, y, r2.root, r3.root, ⟨r4.ok h.ok, r2.rp, r3.rp, r2.bal, r3.bal, Srt_map.1 ?_, Srt_map.1 ?_, ?_, ?_, ?_, ?_⟩, ex, ey, r4.cap⟩
  · rw [show x.items.map Prod.snd = x.elems from rfl, ex]; exact (List.pairwise_append.1 hsE).1
  · rw [show y.items.map Prod.snd = y.elems from rfl, ey]; exact (List.pairwise_append.1 hsE).2.1
  · rw [Tr.refs, Tr.refs, r2.its, r3.its, hrf]; exact h.nodA
  · rw [r4.held, h.held, r2.its, r3.its]
    have := congrArg List.length (lo_hi O e a.items)
    rw [List.length_append] at this
    simp only [Tr.items, List.length_nil]
    omega
  · rw [ex]; exact Z.left _ _ hg
  · rw [ey]; exact Z.right _ _ hg
end
end Go.Proofs.Ytclagkjjgmeifaa.Gv


/- grove: two trees in a pool: what is asked of them, joined, how high. -/
namespace Go.Proofs.Ytclagkjjgmeifaa.Gv
open Go.Proofs.Ytclagkjjgmeifaa.Rx
set_option linter.unusedVariables false
set_option linter.unusedSimpArgs false
set_option linter.unusedSectionVars false
theorem Tr.bal_size {E : Type} : ∀ t : Tr E, t.bal → 2 ^ (t.h / 2) ≤ t.items.length + 1
  | .nil, _ => by simp [Tr.h, Tr.items]
  | .node r l e q, ⟨h1, h2, h3, h4⟩ => by
    have i1 := bal_size l h1
    have i2 := bal_size q h2
    simp only [Tr.h, Tr.items, List.length_append, List.length_cons]
    by_cases c : max l.h q.h = 0
    · rw [c]; simp
    · have k1 : (1 + max l.h q.h) / 2 = (max l.h q.h - 1) / 2 + 1 := by omega
      rw [k1, Nat.pow_succ]
      have k2 : (max l.h q.h - 1) / 2 ≤ l.h / 2 := by omega
      have k3 : (max l.h q.h - 1) / 2 ≤ q.h / 2 := by omega
      have j1 : 2 ^ ((max l.h q.h - 1) / 2) ≤ 2 ^ (l.h / 2) := Nat.pow_le_pow_right (by omega) k2
      have j2 : 2 ^ ((max l.h q.h - 1) / 2) ≤ 2 ^ (q.h / 2) := Nat.pow_le_pow_right (by omega) k3
      omega
/-- the bound of a height -/
def hgt (n : Nat) : Nat := 2 + 3 * Nat.log2 (n + 1)
theorem Tr.h_hgt {E : Type} (t : Tr E) (h : t.bal) : t.h ≤ hgt t.items.length := by
  have h1 := t.bal_size h
  have h2 : t.h / 2 ≤ Nat.log2 (t.items.length + 1) := (Nat.le_log2 (by omega)).2 h1
  unfold hgt
  omega
section
variable {E A : Type} {O : Ops E A} {S : List E → A} {good : List E → Prop}
/-- what was found -/
def fndE (O : Ops E A) (e : E) (l : List E) : E × Bool := ((hitE O e l).getD O.e0, (hitE O e l).isSome)
def nthE (O : Ops E A) (i : Int) (l : List E) : E × Bool := if 0 ≤ i ∧ i < l.length then (l.getD i.toNat O.e0, true) else (O.e0, false)
/-- the same trees, a few nodes looked at -/
structure Same (O : Ops E A) (S : List E → A) (good : List E → Prop) (n k : Nat) (m m' : Po E A) (a b : Tr E) : Prop where
  st : St O S good n m' a b
  vis : Vis k m m'
  cap : m'.cap = m.cap
theorem St.up {n k : Nat} {m m' : Po E A} {a b : Tr E} {r : Ref} (h : St O S good n m a b) (hu : Upd [] k (zn O) (Gv.see m r) m') : Same O S good n (k + 1) m m' a b := by
  have := (see_upd (zn O) m r).to hu (S := []) (fun s hs => by simp at hs) (Nat.le_of_eq (Nat.add_comm 1 k))
  exact ⟨h.look this, this.v, this.cap⟩
theorem St.seen {n : Nat} {m : Po E A} {a b : Tr E} (h : St O S good n m a b) (r : Ref) : Same O S good n 1 m (Gv.see m r) a b := h.up (Upd.refl _ _ _ _)
theorem Same.mono {n k k' : Nat} {m m' : Po E A} {a b : Tr E} (h : Same O S good n k m m' a b) (hk : k ≤ k') : Same O S good n k' m m' a b := ⟨h.st, h.vis.mono hk, h.cap⟩
theorem St.lk {n : Nat} {m : Po E A} {a b : Tr E} (h : St O S good n m a b) : Gv.lk O m a.root = nd O S a := h.ra.root h.ok
theorem St.hh {n : Nat} {m : Po E A} {a b : Tr E} (h : St O S good n m a b) : (Gv.lk O m a.root).h = (a.h : Int) := by rw [h.lk, nd_h]
variable (Z : Laws O S good)
include Z
theorem St.nn {n : Nat} {m : Po E A} {a b : Tr E} (h : St O S good n m a b) : (Gv.lk O m a.root).all.n = (a.elems.length : Int) := by rw [h.lk, nd_all Z.nil, Tr.elems_length]
theorem rank_st {n K : Nat} {e : E} {m : Po E A} {a b : Tr E} (h : St O S good n m a b) (hk : a.h < K) :
    RankE O K (Gv.see m a.root) (Gv.lk O m a.root) e 0 ∧ ∃ m', rank O K (Gv.see m a.root) (Gv.lk O m a.root) e 0 = (((loE O e a.elems).length : Int), m') ∧ Same O S good n (2 * a.h + 1) m m' a b := by
  have h2 := h.see a.root
  have hl := Z.len _ h.ga
  rw [Tr.elems_length] at hl
  obtain ⟨r1, r2, r3⟩ := rank_tr Z (e := e) a (k := K) (c := 0) h2.ok h2.ra h.sa hk (Int.le_refl _) (by omega)
  rw [h.lk]
  refine ⟨r1, _, Prod.ext ?_ rfl, h.up r3⟩
  rw [r2, show a.elems = a.items.map Prod.snd from rfl, ← loE_map, List.length_map]
  omega
theorem at_st {n K : Nat} {i : Int} {m : Po E A} {a b : Tr E} (h : St O S good n m a b) (hk : a.h < K) :
    AtD O K m a.root i ∧ ∃ m', atF O K m a.root i = (nthE O i a.elems, m') ∧ Same O S good n (2 * a.h + 1) m m' a b := by
  have h2 := h.see a.root
  have hl := Z.len _ h.ga
  have hn := h.nn Z
  unfold AtD atF nthE
  rw [hn]
  by_cases c : i < 0 ∨ i ≥ (a.elems.length : Int)
  · rw [if_pos c, if_neg (by omega)]
    exact ⟨fun h3 h4 => by omega, _, rfl, (h.seen _).mono (by omega)⟩
  · rw [if_neg c, if_pos (by omega)]
    rw [Tr.elems_length] at hl c
    obtain ⟨r1, r2, r3⟩ := nth_tr Z a (k := K) (i := i.toNat) h2.ok h2.ra hl hk (by omega)
    have e : ((i.toNat : Nat) : Int) = i := by omega
    rw [e] at r1 r2 r3
    rw [h.lk]
    exact ⟨fun _ _ => r1, _, Prod.ext (by rw [r2]) rfl, h.up r3⟩
theorem bet_st {n K : Nat} {f u : Int} {m : Po E A} {a b : Tr E} (h : St O S good n m a b) (hk : a.h < K) :
    BetE O K (Gv.see m a.root) (Gv.lk O m a.root) f u ∧ ∃ m', between O K (Gv.see m a.root) (Gv.lk O m a.root) f u = (⟨(sub a.elems f.toNat u.toNat).length, S (sub a.elems f.toNat u.toNat)⟩, m') ∧ Same O S good n (4 * a.h + 1) m m' a b := by
  have h2 := h.see a.root
  obtain ⟨r1, r2, r3⟩ := between_tr Z (f := f) (u := u) a (k := K) h2.ok h2.ra h.ga hk
  rw [h.lk]
  exact ⟨r1, _, Prod.ext r2 rfl, (h.up r3).mono (by have := (cost_le a.h a.elems.length f u).1; omega)⟩
theorem all_st {n K : Nat} {m : Po E A} {a b : Tr E} (h : St O S good n m a b) (hk : a.h < K) :
    Deep O K m a.root ∧ (Gv.lk O m a.root).all.n = (a.elems.length : Int) ∧ ∃ m' kk, gather O K (Gv.see m a.root) a.root = (a.elems, m') ∧ Same O S good n kk m m' a b := by
  have h2 := h.see a.root
  obtain ⟨r1, kk, r2⟩ := gather_tr a (k := K) h2.ok h2.ra hk
  exact ⟨Deep_tr a h.ok h.ra hk, h.nn Z, _, _, Prod.ext r1 rfl, h.up r2⟩
theorem deepN_st {n K : Nat} {m : Po E A} {a b : Tr E} (h : St O S good n m a b) (hk : a.h < K) : DeepN O K (Gv.see m a.root) (Gv.lk O m a.root) :=
  DeepN_of (Deep_tr a h.ok h.ra hk) (fun s => lk_see ..)
theorem first_st {n K : Nat} {f : Int} {may : A → A → Bool} {P : Nat → Bool} {m : Po E A} {a b : Tr E} (h : St O S good n m a b) (hA : Asks O S may P a.elems) (hk : a.h < K) :
    DeepN O K (Gv.see m a.root) (Gv.lk O m a.root) ∧ ∃ r m' kk, first O may K (Gv.see m a.root) (Gv.lk O m a.root) ⟨0, O.a0⟩ f = (r, m') ∧ FirstIs P 0 a.elems.length f r ∧ Same O S good n kk m m' a b := by
  have h2 := h.see a.root
  obtain ⟨r1, kk, r2⟩ := first_tr Z (f := f) hA h.ga a (k := K) (p := []) (s := []) h2.ok h2.ra (by simp) hk
  have e0 : (([] : List E).length : Int) = 0 := rfl
  rw [e0, Z.nil, List.length_nil, Nat.zero_add] at r1
  rw [e0, Z.nil] at r2
  refine ⟨deepN_st Z h hk, _, _, _, rfl, ?_, h.up (r := a.root) (k := kk) ?_⟩
  · rw [h.lk]; exact r1
  · rw [h.lk]; exact r2
theorem last_st {n K : Nat} {f : Int} {may : A → A → Bool} {P : Nat → Bool} {m : Po E A} {a b : Tr E} (h : St O S good n m a b) (hA : Asks O S may P a.elems) (hk : a.h < K) :
    DeepN O K (Gv.see m a.root) (Gv.lk O m a.root) ∧ ∃ r m' kk, last O may K (Gv.see m a.root) (Gv.lk O m a.root) ⟨0, O.a0⟩ f = (r, m') ∧ LastIs P 0 a.elems.length f r ∧ Same O S good n kk m m' a b := by
  have h2 := h.see a.root
  obtain ⟨r1, kk, r2⟩ := last_tr Z (u := f) hA h.ga a (k := K) (p := []) (s := []) h2.ok h2.ra (by simp) hk
  have e0 : (([] : List E).length : Int) = 0 := rfl
  rw [e0, Z.nil, List.length_nil, Nat.zero_add] at r1
  rw [e0, Z.nil] at r2
  refine ⟨deepN_st Z h hk, _, _, _, rfl, ?_, h.up (r := a.root) (k := kk) ?_⟩
  · rw [h.lk]; exact r1
  · rw [h.lk]; exact r2
theorem put_st' {n K : Nat} {e : E} {m : Po E A} {a b : Tr E} (h : St O S good n m a b) (hn : n + 1 ≤ 100000) (hg : good (putE O e a.elems)) (hk : a.h < K) :
    PutD O K m a.root e ∧ ∃ a' m', putF O K m a.root e = (((hitE O e a.elems).isSome || decide (m.held ≠ m.cap)), a'.root, m') ∧ St O S good (n + 1) m' a' b ∧
      a'.elems = (if ((hitE O e a.elems).isSome || decide (m.held ≠ m.cap)) = true then putE O e a.elems else a.elems) ∧ Vis (32 * a.h + 4) m m' ∧ m'.cap = m.cap := by
  obtain ⟨r1, r2, a', r3, r4, r5, r6, r7⟩ := put_st Z h hn hg hk
  exact ⟨r1, a', _, Prod.ext r2 (Prod.ext r3 rfl), r4, r5, r6, r7⟩
theorem drop_st' {n K : Nat} {e : E} {m : Po E A} {a b : Tr E} (h : St O S good n m a b) (hg : good (loE O e a.elems ++ (hiE O e a.elems).tail)) (hk : 2 * a.h < K) :
    PickD O K K m a.root e ∧ ∃ a' m', dropF O K m a.root e = ((fndE O e a.elems).1, (fndE O e a.elems).2, a'.root, m') ∧ St O S good (n + 1) m' a' b ∧ a'.elems = dropE O e a.elems ∧ Vis (120 * a.h + 5) m m' ∧ m'.cap = m.cap := by
  obtain ⟨r1, r2, r3, a', r4, r5, r6, r7, r8⟩ := drop_st Z h hg hk
  exact ⟨r1, a', _, Prod.ext r2 (Prod.ext r3 (Prod.ext r4 rfl)), r5, r6, r7, r8⟩
theorem split_st' {n K : Nat} {e : E} {m : Po E A} {a : Tr E} (h : St O S good n m a .nil) (hk : 2 * a.items.length < K) :
    CutD O K K m a.root e ∧ ∃ x y m', cutF O K K m a.root e = (x.root, y.root, m') ∧ St O S good n m' x y ∧ x.elems = loE O e a.elems ∧ y.elems = hiE O e a.elems ∧ m'.cap = m.cap := by
  obtain ⟨r1, x, y, r2, r3, r4, r5, r6, r7⟩ := split_st Z (e := e) h hk
  exact ⟨r1, x, y, _, Prod.ext r2 (Prod.ext r3 rfl), r4, r5, r6, r7⟩
/-- is the first list's last element ahead of the second one's first one? -/
def aheadE (O : Ops E A) (x y : List E) : Bool := decide (x = [] ∨ y = [] ∨ O.cmp (x.getD (x.length - 1) O.e0) (y.getD 0 O.e0) < 0)
omit Z in
theorem snocE (l : List E) (z d : E) : (l ++ [z]).getD ((l ++ [z]).length - 1) d = z := by
  simp [List.getD_eq_getElem?_getD]
theorem srt_append {x y : List E} (hx : SrtE O x) (hy : SrtE O y) (h : aheadE O x y = true) : SrtE O (x ++ y) := by
  refine List.pairwise_append.2 ⟨hx, hy, fun u hu v hv => ?_⟩
  have h := of_decide_eq_true h
  have hx0 : x ≠ [] := fun e => by rw [e] at hu; cases hu
  have hy0 : y ≠ [] := fun e => by rw [e] at hv; cases hv
  have h := (h.resolve_left hx0).resolve_left hy0
  rcases List.eq_nil_or_concat x with e | ⟨x', z, e⟩
  · exact absurd e hx0
  rw [List.concat_eq_append] at e
  subst e
  rw [snocE] at h
  cases y with
  | nil => exact absurd rfl hy0
  | cons w y =>
    simp only [List.getD_cons_zero] at h
    have h1 : O.cmp u w < 0 := by
      rcases List.mem_append.1 hu with hu | hu
      · exact Z.trans _ _ _ ((List.pairwise_append.1 hx).2.2 u hu z (List.mem_singleton_self z)) h
      · rw [List.mem_singleton] at hu; rw [hu]; exact h
    rcases List.mem_cons.1 hv with hv | hv
    · rw [hv]; exact h1
    · exact Z.trans _ _ _ h1 ((List.pairwise_cons.1 hy).1 v hv)
theorem join_st {n K : Nat} {m : Po E A} {a b : Tr E} (h : St O S good n m a b) (hn : n ≤ 100000) (hg : good (a.elems ++ b.elems)) (hk : a.h + b.h < K) :
    JoinD O K m a.root b.root ∧ (aheadE O a.elems b.elems = true → ∃ t m', joinF O K m a.root b.root = (true, t.root, r0, m') ∧ St O S good n m' t .nil ∧ t.elems = a.elems ++ b.elems ∧ m'.cap = m.cap) ∧
      (aheadE O a.elems b.elems = false → ∃ m', joinF O K m a.root b.root = (false, a.root, b.root, m') ∧ St O S good n m' a b ∧ m'.cap = m.cap) := by
  have hla := Z.len _ h.ga
  have hnn := h.nn Z
  have hW : W ((a.elems.length : Int) - 1) = (a.elems.length : Int) - 1 := W_of (by omega)
  obtain ⟨d1, m1, e1, s1⟩ := at_st Z (K := K) (i := (a.elems.length : Int) - 1) (h.see a.root) (by omega)
  obtain ⟨d2, m2, e2, s2⟩ := at_st Z (K := K) (i := 0) s1.st.swap (by omega)
  have s2' := s2.st.swap
  have hend : endsF O K m a.root b.root = (nthE O ((a.elems.length : Int) - 1) a.elems, nthE O 0 b.elems, m2) := by
    unfold endsF
    rw [hnn, hW, e1]
    simp only
    rw [e2]
  obtain ⟨g1, t, g2, g3, g4, g5⟩ := glue_tr Z (K := K) s2'.ok s2'.ra s2'.rb s2'.nod hg s2'.ba s2'.bb hk
  have hcond : ((nthE O ((a.elems.length : Int) - 1) a.elems).2 = true ∧ (nthE O 0 b.elems).2 = true ∧ O.cmp (nthE O ((a.elems.length : Int) - 1) a.elems).1 (nthE O 0 b.elems).1 ≥ 0) ↔ aheadE O a.elems b.elems = false := by
    have k3 : ((a.elems.length : Int) - 1).toNat = a.elems.length - 1 := by omega
    unfold nthE aheadE
    rw [decide_eq_false_iff_not]
    by_cases c1 : a.elems = []
    · rw [if_neg (by rw [c1]; simp)]
      simp [c1]
    · have : a.elems.length ≠ 0 := fun h0 => c1 (List.eq_nil_of_length_eq_zero h0)
      rw [if_pos (by omega), k3]
      by_cases c2 : b.elems = []
      · rw [if_neg (by rw [c2]; simp)]
        simp [c2]
      · have : b.elems.length ≠ 0 := fun h0 => c2 (List.eq_nil_of_length_eq_zero h0)
        rw [if_pos (by omega)]
        simp only [true_and, not_or, c1, c2, not_false_eq_true, Int.toNat_zero]
        omega
  have hcap : m2.cap = m.cap := by rw [s2.cap, s1.cap]; unfold see; split <;> rfl
  have hJ : joinF O K m a.root b.root = if aheadE O a.elems b.elems = false then (false, a.root, b.root, m2) else (true, (glue O K m2 a.root b.root).1, r0, (glue O K m2 a.root b.root).2) := by
    unfold joinF
    rw [hend]
    simp only
    by_cases c : aheadE O a.elems b.elems = false
    · rw [if_pos c, if_pos (hcond.2 c)]
    · rw [if_neg c, if_neg (fun x => c (hcond.1 x))]
  refine ⟨⟨?_, ?_, ?_, ?_, ?_⟩, fun c => ?_, fun c => ?_⟩
  · rw [hnn, hW]; exact d1
  · rw [hnn, hW, e1]; exact d2
  · rw [hnn, hW, e1]; exact s1.st.ok.mono hn
  · rw [hend]; exact s2'.ok.mono hn
  · rw [hend]; exact fun _ => g1
  · rw [hJ, if_neg (by rw [c]; decide)]
    have et : t.elems = a.elems ++ b.elems := by rw [Tr.elems, g2.its, List.map_append]; rfl
    have er : t.refs = a.refs ++ b.refs := by rw [Tr.refs, g2.its, List.map_append]; rfl
    refine ⟨t, _, Prod.ext rfl (Prod.ext g2.root rfl), ⟨g5.ok s2'.ok, g2.rp, trivial, g2.bal, trivial, Srt_map.1 ?_, List.Pairwise.nil, ?_, ?_, by rw [et]; exact hg, Z.left [] _ (by simpa [Tr.elems, Tr.items] using h.ga)⟩, et, by rw [g5.cap]; exact hcap⟩
    · rw [show t.items.map Prod.snd = t.elems from rfl, et]
      exact srt_append Z (Srt_map.2 h.sa) (Srt_map.2 h.sb) c
    · rw [er]; simpa [Tr.refs, Tr.items] using h.nod
    · rw [g5.held, s2'.held, g2.its, List.length_append]
      simp [Tr.items]
  · rw [hJ, if_pos c]
    exact ⟨m2, rfl, s2', hcap⟩
end
end Go.Proofs.Ytclagkjjgmeifaa.Gv


