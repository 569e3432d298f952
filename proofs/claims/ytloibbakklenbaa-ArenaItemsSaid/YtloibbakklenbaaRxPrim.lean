/- Symbolic runs: contracts out of runs; a contract on a few blocks serves on any heap. Nothing of the program. -/
import Derived.Test.YtloibbakklenbaaRxMove
namespace Go.Proofs.Ytloibbakklenbaa.Rx
open Go.RowKit Go.Proofs.Ytloibbakklenbaa.State
set_option linter.unusedVariables false
set_option linter.unusedSimpArgs false
def nth : List Nat → Nat → Nat
  | [], _ => 0
  | a :: _, 0 => a
  | _ :: l, i + 1 => nth l i
def pos : List Nat → Nat → Nat
  | [], _ => 0
  | a :: l, b => match Nat.beq a b with
    | true => 0
    | false => pos l b + 1
def nodupB : List Nat → Bool
  | [] => true
  | a :: l => !mem l a && nodupB l
theorem nth_mem : ∀ {s : List Nat} {i : Nat}, i < s.length → nth s i ∈ s
  | [], i, h => by simp at h
  | a :: l, 0, _ => by simp [nth]
  | a :: l, i + 1, h => by
    simp only [nth]
    exact List.mem_cons_of_mem _ (nth_mem (by simpa using h))
theorem pos_nth : ∀ {s : List Nat} {b : Nat}, b ∈ s → nth s (pos s b) = b ∧ pos s b < s.length
  | [], b, h => by cases h
  | a :: l, b, h => by
    simp only [pos]
    split
    · rename_i hb
      exact ⟨Nat.eq_of_beq_eq_true hb, by simp⟩
    · rename_i hb
      have hl : b ∈ l := by
        rcases List.mem_cons.1 h with rfl | h
        · simp at hb
        · exact h
      obtain ⟨h1, h2⟩ := pos_nth hl
      exact ⟨by simpa [nth] using h1, by simp; omega⟩
theorem nth_pos : ∀ {s : List Nat} {i : Nat}, nodupB s = true → i < s.length → pos s (nth s i) = i
  | [], i, _, h => by simp at h
  | a :: l, 0, _, _ => by simp [nth, pos]
  | a :: l, i + 1, hn, h => by
    simp only [nodupB, Bool.and_eq_true, Bool.not_eq_true'] at hn
    have hi : i < l.length := by simpa using h
    have hm := nth_mem hi
    simp only [nth, pos]
    have hne : Nat.beq a (nth l i) = false := by
      cases hb : Nat.beq a (nth l i) with
      | false => rfl
      | true =>
        rw [← Nat.eq_of_beq_eq_true hb] at hm
        rw [mem_iff.2 hm] at hn
        simp at hn
    rw [hne]
    simp only
    rw [nth_pos hn.2 hi]
section
variable {R : Type} {D : Res R} {P : Program} {T : Tab R} {C : Ctx} {ρ ρ' : Env} {ft ft' : Nat → Nat → Prop} {w w' : World} {h hr hx h' : Hp R}
theorem blt_true {a b : Nat} (h : a < b) : Nat.blt a b = true := blt_iff.2 h
theorem blt_false {a b : Nat} (h : ¬ a < b) : Nat.blt a b = false := by
  cases hb : Nat.blt a b with
  | false => rfl
  | true => exact absurd (blt_iff.1 hb) h
theorem cut_eq {α : Type} {l : List α} {k : Nat} (h : l.length = k) : cut l 0 k = l := by subst h; exact cut_all l
/-- a block of a heap, found in another; of a row its first elements may be taken; a row of no elements may be nil -/
def pullB (k : Nat) (s : Nat → Nat) (hp : Hp R) (j : Nat) : SB R → Prop
  | .inl (t, cs) => at2 hp j = some (.inl (t, dnL k (mvL s cs)))
  | .inr (.inl (t, r')) => match Nat.blt j k with
    | true => ∃ r, at2 hp j = some (.inr (.inl (t, r))) ∧ RowLe r' r
    | false => NoRow r'
  | .inr (.inr x) => at2 hp j = some (.inr (.inr x))
/-- the blocks of a heap, found in another -/
def Pulls (k : Nat) (s : Nat → Nat) (hp : Hp R) : Nat → Hp R → Prop
  | _, [] => True
  | b, none :: l => Pulls k s hp (b + 1) l
  | b, some X :: l => pullB k s hp (s b) X ∧ Pulls k s hp (b + 1) l
def hits (k : Nat) (s : Nat → Nat) : Nat → Hp R → List Nat
  | _, [] => []
  | b, none :: l => hits k s (b + 1) l
  | b, some _ :: l => match Nat.blt (s b) k with
    | true => s b :: hits k s (b + 1) l
    | false => hits k s (b + 1) l
theorem Pulls.get {k : Nat} {s : Nat → Nat} {hp : Hp R} : ∀ {b : Nat} {l : Hp R} {i : Nat} {X : SB R}, Pulls k s hp b l → l[i]? = some (some X) → pullB k s hp (s (b + i)) X
  | b, [], i, X, _, hi => by simp at hi
  | b, none :: l, i, X, h, hi => by
    cases i with
    | zero => simp at hi
    | succ i =>
      simp only [List.getElem?_cons_succ] at hi
      have := Pulls.get (b := b + 1) h hi
      rwa [show b + 1 + i = b + (i + 1) by omega] at this
  | b, some Y :: l, i, X, h, hi => by
    cases i with
    | zero =>
      simp only [List.getElem?_cons_zero, Option.some.injEq] at hi
      subst hi
      exact h.1
    | succ i =>
      simp only [List.getElem?_cons_succ] at hi
      have := Pulls.get (b := b + 1) h.2 hi
      rwa [show b + 1 + i = b + (i + 1) by omega] at this
theorem hits_mem {k : Nat} {s : Nat → Nat} : ∀ {b : Nat} {l : Hp R} {i : Nat} {X : SB R}, s (b + i) < k → l[i]? = some (some X) → s (b + i) ∈ hits k s b l
  | b, [], i, X, _, hi => by simp at hi
  | b, none :: l, i, X, hk, hi => by
    cases i with
    | zero => simp at hi
    | succ i =>
      simp only [List.getElem?_cons_succ] at hi
      rw [show b + (i + 1) = b + 1 + i by omega] at hk ⊢
      exact hits_mem (s := s) (b := b + 1) hk hi
  | b, some Y :: l, i, X, hk, hi => by
    simp only [hits]
    cases i with
    | zero =>
      simp only [Nat.add_zero] at hk ⊢
      rw [blt_iff.2 hk]
      exact List.mem_cons_self
    | succ i =>
      simp only [List.getElem?_cons_succ] at hi
      rw [show b + (i + 1) = b + 1 + i by omega] at hk ⊢
      have := hits_mem (s := s) (b := b + 1) hk hi
      split
      · exact List.mem_cons_of_mem _ this
      · exact this
theorem hits_inj {k : Nat} {s : Nat → Nat} : ∀ {b : Nat} {l : Hp R} {i j : Nat} {X Y : SB R}, nodupB (hits k s b l) = true → s (b + i) < k → l[i]? = some (some X) → l[j]? = some (some Y) → s (b + i) = s (b + j) → i = j
  | b, [], i, j, X, Y, _, _, hi, _, _ => by simp at hi
  | b, none :: l, i, j, X, Y, hn, hk, hi, hj, he => by
    cases i with
    | zero => simp at hi
    | succ i =>
      cases j with
      | zero => simp at hj
      | succ j =>
        simp only [List.getElem?_cons_succ] at hi hj
        rw [show b + (i + 1) = b + 1 + i by omega] at hk he
        rw [show b + (j + 1) = b + 1 + j by omega] at he
        rw [hits_inj (b := b + 1) (s := s) hn hk hi hj he]
  | b, some Z :: l, i, j, X, Y, hn, hk, hi, hj, he => by
    have hn' : nodupB (hits k s (b + 1) l) = true ∧ (s b < k → ¬ s b ∈ hits k s (b + 1) l) := by
      simp only [hits] at hn
      split at hn
      · simp only [nodupB, Bool.and_eq_true, Bool.not_eq_true'] at hn
        exact ⟨hn.2, fun _ hm => by rw [mem_iff.2 hm] at hn; simp at hn⟩
      · rename_i hb
        exact ⟨hn, fun hlt => by rw [blt_iff.2 hlt] at hb; cases hb⟩
    cases i with
    | zero =>
      cases j with
      | zero => rfl
      | succ j =>
        simp only [List.getElem?_cons_succ] at hj
        simp only [Nat.add_zero] at hk he
        rw [show b + (j + 1) = b + 1 + j by omega] at he
        have := hits_mem (s := s) (b := b + 1) (k := k) (by rw [← he]; exact hk) hj
        rw [← he] at this
        exact absurd this (hn'.2 hk)
    | succ i =>
      simp only [List.getElem?_cons_succ] at hi
      rw [show b + (i + 1) = b + 1 + i by omega] at hk he
      cases j with
      | zero =>
        simp only [Nat.add_zero] at he
        have := hits_mem (s := s) (b := b + 1) hk hi
        rw [he] at this hk
        exact absurd this (hn'.2 hk)
      | succ j =>
        simp only [List.getElem?_cons_succ] at hj
        rw [show b + (j + 1) = b + 1 + j by omega] at he
        rw [hits_inj (b := b + 1) (s := s) hn'.1 hk hi hj he]
theorem at2_some {b : Nat} {X : SB R} (hb : at2 h b = some X) : h[b]? = some (some X) := by
  unfold at2 at hb
  split at hb
  · rename_i hh; rw [hh, hb]
  · cases hb
theorem at2_of {b : Nat} {X : SB R} (hb : h[b]? = some (some X)) : at2 h b = some X := by
  unfold at2; rw [hb]
theorem like_mv {n : Nat} {s : Nat → Nat} {ρn : Env} {X : SB R} (hρ : ∀ b, ρn b = ρ (s b)) (hi : inside n X) : LikeSB ρ ρn n (mvSB s X) X := by
  have e : ρn = fun b => ρ (s b) := funext hρ
  rcases X with ⟨t, cs⟩ | X
  · refine ⟨rfl, ?_, hi⟩
    rw [map_ren_mv, e]
  · exact LikeI.refl X
theorem pullB.like {n : Nat} {s : Nat → Nat} {ρn : Env} {X : SB R} {hp : Hp R} {j : Nat} (h : pullB hp.length s hp j X) (hin : ∀ Y, hp[j]? = some (some Y) → inside hp.length Y) (hρ : ∀ b, ρn b = plusE ρ hp.length (s b)) (hi : inside n X) :
    (j < hp.length ∧ ∃ Y, hp[j]? = some (some Y) ∧ LikeSB ρ ρn n Y X) ∨ (hp.length ≤ j ∧ ∃ t r, X = .inr (.inl (t, r)) ∧ NoRow r) := by
  have lt : ∀ {Y}, hp[j]? = some (some Y) → j < hp.length := fun hY => (List.getElem?_eq_some_iff.1 hY).1
  rcases X with ⟨t, cs⟩ | ⟨t, r'⟩ | x
  · have hY := at2_some h
    refine Or.inl ⟨lt hY, _, hY, rfl, ?_, hi⟩
    have hin' := hin _ hY
    simp only [inside] at hin'
    rw [← renL_eq, ← renL_eq, renL_dn _ hin', renL_mv]
    congr 1
    exact funext hρ
  · simp only [pullB] at h
    split at h
    · obtain ⟨r, h1, h2⟩ := h
      exact Or.inl ⟨lt (at2_some h1), _, at2_some h1, ⟨rfl, h2⟩⟩
    · rename_i hb
      refine Or.inr ⟨?_, t, r', rfl, h⟩
      rcases Nat.lt_or_ge j hp.length with h' | h'
      · rw [blt_iff.2 h'] at hb; cases hb
      · exact h'
  · exact Or.inl ⟨lt (at2_some h), _, at2_some h, by cases x <;> rfl⟩
/-- a heap under other numbers -/
theorem HM.pulled {s : Nat → Nat} {hp hn : Hp R} (hm : HM D C ρ ft hp w) (h2 : Pulls hp.length s hp 0 hn) (h3 : nodupB (hits hp.length s 0 hn) = true) (h5 : hpIn hn.length hn = true) :
    HM D C (fun b => plusE ρ hp.length (s b)) (fun b k => (∃ X, hn[b]? = some (some X)) ∧ ft (s b) k) hn w := by
  refine hm.rename s (fun b X hX => ?_) fun b b' X X' hlt hX hX' he => hits_inj (b := 0) h3 (by simpa using hlt) hX hX' (by simpa using he)
  have := h2.get hX
  rw [Nat.zero_add] at this
  rcases this.like (fun Y hY => (hm.at_ _ Y hY).2) (fun _ => rfl) (hpIn_get h5 hX) with ⟨hlt, Y, hY, hl⟩ | ⟨hge, t, r, rfl, hr⟩
  · exact Or.inl ⟨plus_lt hlt, Y, hY, hl⟩
  · exact Or.inr ⟨hge, plus_ge (by omega), t, r, rfl, hr⟩
/-- a run's end is as the contract says, under other numbers -/
structure Ends (n : Nat) (x : Out R) (v : Value) (hp : Hp R) : Prop where
  ex : ∃ s : List Nat, v = dnV hp.length (mvV (nth s) x.v) ∧ inb hp.length v = true ∧ Pulls hp.length (nth s) hp 0 x.hp ∧ nodupB (hits hp.length (nth s) 0 x.hp) = true ∧ allLt (fun i => Nat.beq (nth s i) i) n = true ∧ Nat.ble n hp.length = true ∧ hpIn x.hp.length x.hp = true
theorem HM.ends {n : Nat} {x : Out R} {v : Value} {hp : Hp R} (he : Ends n x v hp) (hm : HM D C ρ ft hp w) :
    ∃ ρ' ft', (∀ i, i < n → ρ' i = ρ i) ∧ ren ρ v = ren ρ' x.v ∧ HM D C ρ' ft' x.hp w := by
  obtain ⟨s, h1, h1', h2, h3, h4, h4', h5⟩ := he.ex
  refine ⟨fun b => plusE ρ hp.length (nth s b), _, fun i hi => ?_, ?_, hm.pulled h2 h3 h5⟩
  · have := allLt_get h4 hi
    show plusE ρ hp.length (nth s i) = ρ i
    rw [Nat.eq_of_beq_eq_true this]
    have := Nat.le_of_ble_eq_true h4'
    exact plus_lt (by omega)
  · rw [h1] at h1' ⊢
    rw [ren_dn _ h1', ren_mv]
/-- a contract, out of a run -/
theorem prim_at {f : FuncId} {fn : Func} {root : Code} {on : List Value → Hp R → Prop} {spec : Prim R} (hf : P.funcs[f]? = some fn) (hb : fn.body = some root) (hname : (fn.name == "runtime.NumGoroutine") = false)
    (H : ∀ args hh x, spec args hh = some x → hh.length ≤ x.hp.length ∧ (∀ b, x.lit = some b → x.v = .bool b) ∧ (x.wr = [] → x.hp = hh) ∧
      (on args hh → x.vc → At D P root hh.length (retK P fn.results.toList (Ends hh.length x)) [.inl []] ⟨someL args ++ List.replicate (fn.ntmps - args.length) none, [], hh⟩)) : PrimOk D P f on spec where
  known := ⟨fn, hf, hname, by rw [hb]; rfl⟩
  run args hh x hon hx C ρ ft w hm hv hi := by
    obtain ⟨_, _, _, h4⟩ := H args hh x hx
    refine (calls_At hf hb (h4 hon hv) hm hi).mono fun e w' ⟨ρ', ft', v, hp', g1, g2, g3, g4⟩ => ?_
    obtain ⟨ρ2, ft2, q1, q2, q3⟩ := g4.ends g3
    exact ⟨ρ2, ft2, fun i hi => (q1 i hi).trans (g1 i hi), by rw [g2, q2], q3⟩
  len args hh x hx := (H args hh x hx).1
  lit args hh x hx := (H args hh x hx).2.1
  still args hh x hx := (H args hh x hx).2.2.1

/-- the part of a heap that a call sees; rows may be lent to be read -/
def Sub (hr h : Hp R) : Prop := ∀ (b : Nat) (X : SB R), hr[b]? = some (some X) → h[b]? = some (some X) ∨ ∃ t r, X = .inr (.inr (.inl r)) ∧ h[b]? = some (some (.inr (.inl (t, r))))
def Own (hr : Hp R) (b : Nat) : Prop := ∃ X, hr[b]? = some (some X) ∧ isView X = false
def lentC (w : World) (hr : Hp R) (ft : Nat → Nat → Prop) (ρ : Env) (n : Nat) : Ctx := ⟨w, fun k => ∃ b, Own hr b ∧ ft b k, ρ, n⟩
theorem HM.lend (hm : HM D C ρ ft h w) (hsub : Sub hr h) (hlen : hr.length = h.length) (n : Nat) : HM D (lentC w hr ft ρ n) ρ (fun b k => Own hr b ∧ ft b k) hr w where
  at_ i B hB := by
    rcases hsub i B hB with hi | ⟨t, r, rfl, hi⟩
    · obtain ⟨h1, h2⟩ := hm.at_ i B hi
      refine ⟨?_, by rw [hlen]; exact h2⟩
      cases hv : isView B with
      | false =>
        have e : (fun k => Own hr i ∧ ft i k) = ft i := funext fun k => propext ⟨fun h => h.2, fun h => ⟨⟨B, hB, hv⟩, h⟩⟩
        rw [e]
        exact hold_ctx hv h1
      | true =>
        rcases B with ⟨t, cs⟩ | ⟨t, r⟩ | r | x <;> simp [isView] at hv
        obtain ⟨g1, g2, g3, g4, g5, arr, g6, g7⟩ := h1
        refine ⟨fun k hk => ?_, g2, g3, g4, g5, arr, fun hn h0 => ?_, g7⟩
        · exact g1 k hk.2
        · obtain ⟨q1, q2, t, fz, q3⟩ := g6 hn h0
          refine ⟨Nat.lt_of_lt_of_le q1 hm.kept.size, fun ⟨b, _, hb⟩ => ?_, t, fz, by rw [← q3]; exact hm.kept.block _ q1 q2⟩
          rcases hm.fresh b _ hb with hu | hge
          · exact q2 hu
          · omega
    · obtain ⟨h1, h2⟩ := hm.at_ i _ hi
      obtain ⟨g1, g2, g3, g4, g5, arr, g6, g7⟩ := h1
      have hno : ¬ Own hr i := fun ⟨X, hX, hv⟩ => by
        rw [hB] at hX
        injection hX with hX; injection hX with hX
        subst hX
        simp [isView] at hv
      refine ⟨⟨fun k hk => hno hk.1, g2, g3, g4, g5, arr, fun hn _ => ?_, g7⟩, trivial⟩
      obtain ⟨q1, q2⟩ := g6 hn
      have hft : ft i (ρ i).blk := (g1 _).2 ⟨hn, rfl⟩
      refine ⟨hm.lt i _ hft, fun ⟨b, hb, hbk⟩ => ?_, t, (0, 0), q1⟩
      rw [hm.apart b i _ hbk hft] at hb
      exact hno hb
  lt i k hk := hm.lt i k hk.2
  fresh i k hk := Or.inl ⟨i, hk.1, hk.2⟩
  apart i j k hi hj := hm.apart i j k hi.2 hj.2
  some_ i k hk := by obtain ⟨X, hX, _⟩ := hk.1; exact ⟨X, hX⟩
  kept := Kept.refl _ _
theorem HM.regain (hm : HM D C ρ ft h w) (hsub : Sub hr h) (hlen : hr.length = h.length) {n : Nat}
    (hm' : HM D (lentC w hr ft ρ n) ρ' ft' hx w') (hρ : ∀ b, b < h.length → ρ' b = ρ b) (hlx : h.length ≤ hx.length)
    (hv : ∀ (b : Nat) (X : SB R), hx[b]? = some (some X) → isView X = false ∨ ∃ Y, hr[b]? = some (some Y) ∧ isView Y = true)
    (hlen' : h'.length = hx.length) (hnew : ∀ (b : Nat), Own hr b ∨ h.length ≤ b → h'[b]? = hx[b]?) (hold_ : ∀ (b : Nat), b < h.length → ¬ Own hr b → h'[b]? = h[b]?) :
    HM D C ρ' (fun b k => ((Own hr b ∨ h.length ≤ b) ∧ ft' b k) ∨ (¬ (Own hr b ∨ h.length ≤ b) ∧ ft b k)) h' w' := by
  refine hm.step (Own hr) ⟨hm'.kept.os, hm'.kept.tape, hm'.kept.output, hm'.kept.size, fun k hk hn => hm'.kept.block k hk hn⟩ hρ (by omega) ?_ ?_ ?_ ?_
  · intro i B hi hB
    have hTn : Own hr i ∨ h.length ≤ i := by
      rcases Nat.lt_or_ge i h.length with hlt | hge'
      · exact Or.inl (hi hlt)
      · exact Or.inr hge'
    rw [hnew i hTn] at hB
    obtain ⟨g1, g2⟩ := hm'.at_ i B hB
    have hnv : isView B = false := by
      rcases hv i B hB with h1 | ⟨Y, hY, hYv⟩
      · exact h1
      · rcases hTn with ⟨Y', hY', hYv'⟩ | hge'
        · rw [hY] at hY'; injection hY' with e; injection e with e; subst e; rw [hYv] at hYv'; cases hYv'
        · have := (List.getElem?_eq_some_iff.1 hY).1; omega
    refine ⟨?_, by rw [hlen']; exact g2⟩
    have e : (fun k => ((Own hr i ∨ h.length ≤ i) ∧ ft' i k) ∨ (¬ (Own hr i ∨ h.length ≤ i) ∧ ft i k)) = ft' i := funext fun k => propext ⟨fun h => h.elim (fun h => h.2) (fun h => absurd hTn h.1), fun h => Or.inl ⟨hTn, h⟩⟩
    rw [e]
    exact hold_ctx hnv g1
  · intro i hi hn
    refine ⟨hold_ i hi hn, fun k => ?_⟩
    have : ¬ (Own hr i ∨ h.length ≤ i) := fun hh => hh.elim hn (fun h => by omega)
    exact ⟨fun h => h.elim (fun h => absurd h.1 this) (fun h => h.2), fun h => Or.inr ⟨this, h⟩⟩
  · intro i k hi hk
    have hTn : Own hr i ∨ h.length ≤ i := by
      rcases Nat.lt_or_ge i h.length with hlt | hge'
      · exact Or.inl (hi hlt)
      · exact Or.inr hge'
    have hk' : ft' i k := hk.elim (fun h => h.2) (fun h => absurd hTn h.1)
    refine ⟨?_, hm'.lt i k hk', ?_⟩
    · rcases hm'.fresh i k hk' with ⟨b, hb, hbk⟩ | hge'
      · exact Or.inl ⟨b, hb, hbk⟩
      · exact Or.inr hge'
    · obtain ⟨B, hB⟩ := hm'.some_ i k hk'
      exact ⟨B, by rw [hnew i hTn]; exact hB⟩
  · intro i j k hi hj hki hkj
    have hTi : Own hr i ∨ h.length ≤ i := by
      rcases Nat.lt_or_ge i h.length with hlt | hge'
      · exact Or.inl (hi hlt)
      · exact Or.inr hge'
    have hTj : Own hr j ∨ h.length ≤ j := by
      rcases Nat.lt_or_ge j h.length with hlt | hge'
      · exact Or.inl (hj hlt)
      · exact Or.inr hge'
    exact hm'.apart i j k (hki.elim (fun h => h.2) (fun h => absurd hTi h.1)) (hkj.elim (fun h => h.2) (fun h => absurd hTj h.1))

/-- a row lent to be read -/
def frzSB (z : Bool) : SB R → SB R
  | .inr (.inl (t, r)) => match z with
    | true => .inr (.inr (.inl r))
    | false => .inr (.inl (t, r))
  | B => B
def locHp (z : Nat → Bool) (u : Nat → Nat) (h : Hp R) : Nat → List Nat → Hp R
  | _, [] => []
  | i, b :: l => (match at2 h b with
    | some B => some (mvSB u (frzSB (z i) B))
    | none => none) :: locHp z u h (i + 1) l
def selOk (s : List Nat) (h : Hp R) : List Nat → Bool
  | [] => true
  | b :: l => Nat.blt b h.length && (match at2 h b with
    | some (.inl (_, cs)) => onL (mem s) cs
    | _ => true) && selOk s h l
def nub : List Nat → List Nat → List Nat
  | [], _ => []
  | a :: l, seen => if mem seen a then nub l seen else a :: nub l (a :: seen)
def outOf (s : List Nat) (n i : Nat) : Nat := if Nat.blt i s.length then nth s i else n + (i - s.length)
def mvO (f : Nat → Nat) : Option (SB R) → Option (SB R)
  | some B => some (mvSB f B)
  | none => none
def backHp (s : List Nat) (f : Nat → Nat) (hl hx : Hp R) : Nat → Hp R → Hp R
  | _, [] => []
  | b, x :: h => (if mem s b && ownAt hl (pos s b) then mvO f (at2 hx (pos s b)) else x) :: backHp s f hl hx (b + 1) h
def newHp (f : Nat → Nat) : Hp R → Hp R
  | [] => []
  | x :: l => mvO f x :: newHp f l
/-- a contract on a few blocks, on any heap: z tells which rows are lent to be read, d how far what is seen goes -/
def liftP (z : Nat → Bool) (d : Nat) (spec : Prim R) : Prim R := fun args h =>
  fNs (nub (reach h d (blksL args)) []) fun s =>
    if onL (mem s) args && selOk s h s && nodupB s then
      fHp (locHp z (pos s) h 0 s) fun hl =>
        match spec (mvL (pos s) args) hl with
        | some x => if backOk hl x.hp && inb x.hp.length x.v then
            some ⟨x.vc, mvV (outOf s h.length) x.v, x.lit, backHp s (outOf s h.length) hl x.hp 0 h ++ newHp (outOf s h.length) (x.hp.drop s.length), [], match x.wr with
              | [] => []
              | _ => [(0, 0)]⟩
          else none
        | none => none
    else none
def liftW (z : Nat → Bool) (d : Nat) (when : List Value → Hp R → Option Bool) (args : List Value) (h : Hp R) : Option Bool :=
  fNs (nub (reach h d (blksL args)) []) fun s => fHp (locHp z (pos s) h 0 s) fun hl => when (mvL (pos s) args) hl
def liftC (z : Nat → Bool) (d : Nat) (c : Con R) : Con R := ⟨liftW z d c.when, liftP z d c.yes, liftP z d c.no⟩
mutual
theorem on_mv {p q : Nat → Bool} {s : Nat → Nat} (h : ∀ i, p i = true → q (s i) = true) : ∀ v, onV p v = true → onV q (mvV s v) = true
  | .pointer (some a), hv => by simp only [mvV, onV] at *; exact onA_mv h hv
  | .pointer none, _ => by simp [mvV, onV]
  | .slice (some a) k c, hv => by simp only [mvV, onV] at *; exact onA_mv h hv
  | .slice none _ _, _ => by simp [mvV, onV]
  | .map (some r), hv => by simp only [mvV, onV] at *; exact h r hv
  | .map none, _ => by simp [mvV, onV]
  | .chan (some r), hv => by simp only [mvV, onV] at *; exact h r hv
  | .chan none, _ => by simp [mvV, onV]
  | .agg ⟨l⟩, hv => by simp only [mvV, onV] at *; exact onL_mv h l hv
  | .tuple ⟨l⟩, hv => by simp only [mvV, onV] at *; exact onL_mv h l hv
  | .func fn ⟨f⟩ ⟨c⟩, hv => by
    simp only [mvV, onV, Bool.and_eq_true] at *
    exact ⟨onL_mv h f hv.1, onL_mv h c hv.2⟩
  | .iface t v, hv => by simp only [mvV, onV] at *; exact on_mv h v hv
  | .int _ _, _ => by simp [mvV, onV]
  | .bool _, _ => by simp [mvV, onV]
  | .string _, _ => by simp [mvV, onV]
  | .float _ _, _ => by simp [mvV, onV]
  | .complex _ _ _, _ => by simp [mvV, onV]
  | .nilFunc, _ => by simp [mvV, onV]
  | .nilIface, _ => by simp [mvV, onV]
theorem onL_mv {p q : Nat → Bool} {s : Nat → Nat} (h : ∀ i, p i = true → q (s i) = true) : ∀ l, onL p l = true → onL q (mvL s l) = true
  | [], _ => by simp [mvL, onL]
  | v :: l, hv => by
    simp only [onL, Bool.and_eq_true] at hv
    simp only [mvL, onL, Bool.and_eq_true]
    exact ⟨on_mv h v hv.1, onL_mv h l hv.2⟩
theorem onA_mv {p q : Nat → Bool} {s : Nat → Nat} (h : ∀ i, p i = true → q (s i) = true) {a : Addr} (ha : onA p a = true) : onA q (mvA s a) = true := by
  have h1 := (onA_block ha).1
  have h2 := (onA_block ha).2
  obtain ⟨b, o, t⟩ := a
  cases t with
  | none => exact h b h1
  | some t =>
    have h3 : onQ q (mvQ s t) = true := onQ_mv h (h2 t rfl)
    simp only [mvA, onA]
    rw [h b h1, h3]
    rfl
end
theorem locHp_get {z : Nat → Bool} {u : Nat → Nat} {h : Hp R} : ∀ {l : List Nat} {i0 i : Nat}, (locHp z u h i0 l).length = l.length ∧ (i < l.length → (locHp z u h i0 l)[i]? = some (match at2 h (nth l i) with
    | some B => some (mvSB u (frzSB (z (i0 + i)) B))
    | none => none))
  | [], i0, i => ⟨rfl, fun h => by simp at h⟩
  | b :: l, i0, i => by
    obtain ⟨h1, h2⟩ := locHp_get (z := z) (u := u) (h := h) (l := l) (i0 := i0 + 1) (i := i - 1)
    refine ⟨by simp [locHp, h1], fun hl => ?_⟩
    cases i with
    | zero => simp only [locHp, List.getElem?_cons_zero, nth, Nat.add_zero]
    | succ i =>
      simp only [List.length_cons] at hl
      have := h2 (by omega)
      simp only [locHp, List.getElem?_cons_succ, nth]
      simp only [Nat.add_sub_cancel] at this
      rw [this, show i0 + 1 + i = i0 + (i + 1) by omega]
theorem selOk_get {s : List Nat} {h : Hp R} : ∀ {l : List Nat} {b : Nat}, selOk s h l = true → b ∈ l → b < h.length ∧ ∀ t cs, at2 h b = some (.inl (t, cs)) → onL (mem s) cs = true
  | [], b, _, hb => by cases hb
  | a :: l, b, hs, hb => by
    simp only [selOk, Bool.and_eq_true, Nat.blt_eq] at hs
    rcases List.mem_cons.1 hb with rfl | hb
    · refine ⟨hs.1.1, fun t cs e => ?_⟩
      have := hs.1.2
      rw [e] at this
      exact this
    · exact selOk_get hs.2 hb
theorem backHp_get {s : List Nat} {f : Nat → Nat} {hl hx : Hp R} : ∀ {h : Hp R} {b0 b : Nat}, (backHp s f hl hx b0 h).length = h.length ∧ (b < h.length → (backHp s f hl hx b0 h)[b]? = some (if mem s (b0 + b) && ownAt hl (pos s (b0 + b)) then mvO f (at2 hx (pos s (b0 + b))) else at2 h b))
  | [], b0, b => ⟨rfl, fun h => by simp at h⟩
  | x :: h, b0, b => by
    obtain ⟨h1, h2⟩ := backHp_get (s := s) (f := f) (hl := hl) (hx := hx) (h := h) (b0 := b0 + 1) (b := b - 1)
    refine ⟨by simp [backHp, h1], fun hlt => ?_⟩
    cases b with
    | zero => simp [backHp, at2]
    | succ b =>
      simp only [List.length_cons] at hlt
      have := h2 (by omega)
      simp only [backHp, List.getElem?_cons_succ]
      simp only [Nat.add_sub_cancel] at this
      rw [this, show b0 + 1 + b = b0 + (b + 1) by omega]
      simp [at2]
theorem newHp_get {f : Nat → Nat} : ∀ {l : Hp R} {i : Nat}, (newHp f l).length = l.length ∧ (newHp f l)[i]? = (l[i]?).map (mvO f)
  | [], i => ⟨rfl, by simp [newHp]⟩
  | x :: l, i => by
    obtain ⟨h1, h2⟩ := newHp_get (f := f) (l := l) (i := i - 1)
    refine ⟨by simp [newHp, h1], ?_⟩
    cases i with
    | zero => simp [newHp]
    | succ i => simp only [newHp, List.getElem?_cons_succ]; simpa using h2
end
end Go.Proofs.Ytloibbakklenbaa.Rx
