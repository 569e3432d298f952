/- YParts: G7Sums, G7Join, G7Nil, G7R, G7PtB, G7Pt2, G7Pt3, G7Pt4, G7Pt5, G7Pt6, G7Parts, G7PartsL -/
import Derived.Test.YtclagkjjgmeifaaYh
import Derived.Test.YtclagkjjgmeifaaYc
import Derived.Test.YtclagkjjgmeifaaYf
import Derived.Test.YtclagkjjgmeifaaYe
import Derived.Test.YtclagkjjgmeifaaYg
/- grove: the law GroveSums. -/
namespace Go.Proofs.Ytclagkjjgmeifaa.G7
open Go.Proofs.Ytclagkjjgmeifaa.Rx Go.Proofs.Ytclagkjjgmeifaa.D7
set_option linter.unusedVariables false
set_option linter.unusedSimpArgs false
set_option maxRecDepth 100000
set_option maxHeartbeats 16000000
/-- acts, by their cells -/
structure Acts where
  i : List Int
  k : List Int
  w : List Int
structure Acts.Ok (a : Acts) : Prop where
  k : a.k.length = a.i.length
  w : a.w.length = a.i.length
def actsRow (a : Acts) : Row := ⟨[.int .i64 0, .int .i64 0, .int .i64 0], a.i.length, [colI a.i, colI a.k, colI a.w]⟩
theorem small_of {x : List Int} {n : Nat} {m : Int} (hn : x.length = n) (h : (decide ((n : Int) ≤ m) && smallB x x.length) = true) (hm : m ≤ 1000) : (n : Int) ≤ m ∧ Mild x := by
  simp only [Bool.and_eq_true, decide_eq_true_eq] at h
  exact ⟨h.1, small_mild h.2 (by omega)⟩
end Go.Proofs.Ytclagkjjgmeifaa.G7


/- grove: a pool of nodes of keys and numbers: its calls: Join. -/
namespace Go.Proofs.Ytclagkjjgmeifaa.G7
open Go.Proofs.Ytclagkjjgmeifaa.Rx
set_option linter.unusedVariables false
set_option linter.unusedSimpArgs false
set_option maxRecDepth 100000
set_option maxHeartbeats 16000000
/-- two contracts side by side -/
def orP {R : Type} (p q : Prim R) : Prim R := fun args h => match p args h with
  | some x => some x
  | none => q args h
theorem orP_ok {R : Type} {D : Res R} {P : Program} {f : FuncId} {p q : Prim R} (hp : ConOk D P f (con1 p)) (hq : ConOk D P f (con1 q)) : ConOk D P f (con1 (orP p q)) := by
  have h1 := hp true
  have h2 := hq true
  refine con1_ok ⟨h1.known, fun args h x _ hx => ?_, fun args h x hx => ?_, fun args h x hx => ?_, fun args h x hx => ?_⟩
  all_goals
    unfold orP at hx
    split at hx
    · rename_i y hy
      injection hx with hx
      subst hx
      first | exact h1.run args h _ (.inl ⟨rfl, rfl⟩) hy | exact h1.len args h _ hy | exact h1.lit args h _ hy | exact h1.still args h _ hy
    · first | exact h2.run args h x (.inl ⟨rfl, rfl⟩) hx | exact h2.len args h x hx | exact h2.lit args h x hx | exact h2.still args h x hx
def TCmpP : Tab Rs := [(1000000000, rdP)]
theorem TCmpP_ok : TabOk D Try.prog TCmpP := ⟨rdP_ok, trivial⟩
def join0P : Prim Rs := fun args hh => match args, hh with
  | [.pointer (some ⟨0, 0, none⟩), .pointer none], [some (.inl (76, [.pointer (some ⟨1, 0, none⟩), .int .i64 ti, .int .i64 tg])), some (.inr (.inr (.inr (.pool m))))] => some ⟨True, .bool false, none, hh, [], []⟩
  | _, _ => none
theorem join0_ok : ConOk D Try.prog 32 (con1 join0P) := by
  refine con1_ok (prim_at (fn := Try.f32) (root := codeOf Try.f32) (by kernel_rfl) (by kernel_rfl) (by kernel_rfl) fun args hh x hx => ?_)
  unfold join0P at hx
  split at hx
  · rename_i ti tg m
    injection hx with hx
    subst hx
    refine ⟨by first | exact Nat.le_refl _ | exact Nat.zero_le _ | exact Nat.le_succ _, noLit rfl, (fun hw => by first | rfl | cases hw), fun _ hv => ?_⟩
    generalize hG : Rx.Ends (R := Rs) _ _ = G
    refine rx_okQ (T := TCmpP) TCmpP_ok mixed 200 (q := Post (G (Value.bool false) [some (Sum.inl (76, [Value.pointer (some (Addr.mk 1 0 none)), Value.int IntKind.i64 ti, Value.int IntKind.i64 tg])), some (Sum.inr (Sum.inr (Sum.inr (Rs.pool m))))])) ?_ (by kernel_rfl)
    subst hG
    repeat' (first | apply And.intro | apply Vc.mk | apply fits.mk | intro h | apply Post.mk)
    all_goals (try simp only [decide_eq_true_eq, decide_eq_false_iff_not, Nat.zero_add, ge_iff_le, Int.not_le, Int.not_lt, Int.toNat_natCast, beq_iff_eq, beq_eq_false_iff_ne, bne_iff_ne, bne_eq_false_iff_eq, Bool.not_eq_true', Bool.not_eq_false'] at *)
    all_goals first | contradiction | omega | (apply congrArg Value.bool; assumption) | exact congrArg Value.bool (decide_eq_true (by assumption)) | exact congrArg Value.bool (decide_eq_false (Int.not_lt.mpr (by assumption))) | exact ⟨rfl, by omega⟩ | exact rfl | (simp [*, -List.getD_eq_getElem?_getD]; done) | skip
    exact ⟨[0, 1], rfl, rfl, ⟨.inl rfl, rfl, trivial⟩, rfl, rfl, rfl, rfl⟩
  · cases hx
def join1P : Prim Rs := fun args hh => match args, hh with
  | [.pointer (some ⟨0, 0, none⟩), .pointer (some ⟨0, 0, none⟩)], [some (.inl (76, [.pointer (some ⟨1, 0, none⟩), .int .i64 ti, .int .i64 tg])), some (.inr (.inr (.inr (.pool m))))] => some ⟨True, .bool false, none, hh, [], []⟩
  | _, _ => none
theorem join1_ok : ConOk D Try.prog 32 (con1 join1P) := by
  refine con1_ok (prim_at (fn := Try.f32) (root := codeOf Try.f32) (by kernel_rfl) (by kernel_rfl) (by kernel_rfl) fun args hh x hx => ?_)
  unfold join1P at hx
  split at hx
  · rename_i ti tg m
    injection hx with hx
    subst hx
    refine ⟨by first | exact Nat.le_refl _ | exact Nat.zero_le _ | exact Nat.le_succ _, noLit rfl, (fun hw => by first | rfl | cases hw), fun _ hv => ?_⟩
    generalize hG : Rx.Ends (R := Rs) _ _ = G
    refine rx_okQ (T := TCmpP) TCmpP_ok mixed 200 (q := Post (G (Value.bool false) [some (Sum.inl (76, [Value.pointer (some (Addr.mk 1 0 none)), Value.int IntKind.i64 ti, Value.int IntKind.i64 tg])), some (Sum.inr (Sum.inr (Sum.inr (Rs.pool m))))])) ?_ (by kernel_rfl)
    subst hG
    repeat' (first | apply And.intro | apply Vc.mk | apply fits.mk | intro h | apply Post.mk)
    all_goals (try simp only [decide_eq_true_eq, decide_eq_false_iff_not, Nat.zero_add, ge_iff_le, Int.not_le, Int.not_lt, Int.toNat_natCast, beq_iff_eq, beq_eq_false_iff_ne, bne_iff_ne, bne_eq_false_iff_eq, Bool.not_eq_true', Bool.not_eq_false'] at *)
    all_goals first | contradiction | omega | (apply congrArg Value.bool; assumption) | exact congrArg Value.bool (decide_eq_true (by assumption)) | exact congrArg Value.bool (decide_eq_false (Int.not_lt.mpr (by assumption))) | exact ⟨rfl, by omega⟩ | exact rfl | (simp [*, -List.getD_eq_getElem?_getD]; done) | skip
    exact ⟨[0, 1], rfl, rfl, ⟨.inl rfl, rfl, trivial⟩, rfl, rfl, rfl, rfl⟩
  · cases hx
def join2P : Prim Rs := fun args hh => match args, hh with
  | [.pointer (some ⟨0, 0, none⟩), .pointer (some ⟨1, 0, none⟩)], [some (.inl (76, [.pointer (some ⟨2, 0, none⟩), .int .i64 ti, .int .i64 tg])), some (.inl (76, [.pointer (some ⟨3, 0, none⟩), .int .i64 oi, .int .i64 og])), some (.inr (.inr (.inr (.pool m)))), some (.inr (.inr (.inr (.pool m2))))] => some ⟨True, .bool false, none, hh, [], []⟩
  | _, _ => none
theorem join2_ok : ConOk D Try.prog 32 (con1 join2P) := by
  refine con1_ok (prim_at (fn := Try.f32) (root := codeOf Try.f32) (by kernel_rfl) (by kernel_rfl) (by kernel_rfl) fun args hh x hx => ?_)
  unfold join2P at hx
  split at hx
  · rename_i ti tg oi og m m2
    injection hx with hx
    subst hx
    refine ⟨by first | exact Nat.le_refl _ | exact Nat.zero_le _ | exact Nat.le_succ _, noLit rfl, (fun hw => by first | rfl | cases hw), fun _ hv => ?_⟩
    generalize hG : Rx.Ends (R := Rs) _ _ = G
    refine rx_okQ (T := TCmpP) TCmpP_ok mixed 200 (q := Post (G (Value.bool false) [some (Sum.inl (76, [Value.pointer (some (Addr.mk 2 0 none)), Value.int IntKind.i64 ti, Value.int IntKind.i64 tg])), some (Sum.inl (76, [Value.pointer (some (Addr.mk 3 0 none)), Value.int IntKind.i64 oi, Value.int IntKind.i64 og])), some (Sum.inr (Sum.inr (Sum.inr (Rs.pool m)))), some (Sum.inr (Sum.inr (Sum.inr (Rs.pool m2))))])) ?_ (by kernel_rfl)
    subst hG
    repeat' (first | apply And.intro | apply Vc.mk | apply fits.mk | intro h | apply Post.mk)
    all_goals (try simp only [decide_eq_true_eq, decide_eq_false_iff_not, Nat.zero_add, ge_iff_le, Int.not_le, Int.not_lt, Int.toNat_natCast, beq_iff_eq, beq_eq_false_iff_ne, bne_iff_ne, bne_eq_false_iff_eq, Bool.not_eq_true', Bool.not_eq_false'] at *)
    all_goals first | contradiction | omega | (apply congrArg Value.bool; assumption) | exact congrArg Value.bool (decide_eq_true (by assumption)) | exact congrArg Value.bool (decide_eq_false (Int.not_lt.mpr (by assumption))) | exact ⟨rfl, by omega⟩ | exact rfl | (simp [*, -List.getD_eq_getElem?_getD]; done) | skip
    exact ⟨[0, 1, 2, 3], rfl, rfl, ⟨.inl rfl, .inl rfl, rfl, rfl, trivial⟩, rfl, rfl, rfl, rfl⟩
  · cases hx
def join3P (K : Nat) : Prim Rs := fun args hh => match args, hh with
  | [.pointer (some ⟨0, 0, none⟩), .pointer (some ⟨1, 0, none⟩)], [some (.inl (76, [.pointer (some ⟨2, 0, none⟩), .int .i64 ti, .int .i64 tg])), some (.inl (76, [.pointer (some ⟨2, 0, none⟩), .int .i64 oi, .int .i64 og])), some (.inr (.inr (.inr (.pool m))))] => some ⟨PP m ∧ Gv.JoinD O7 K m (⟨ti, tg⟩ : Gv.Ref) (⟨oi, og⟩ : Gv.Ref), .bool (Gv.joinF O7 K m (⟨ti, tg⟩ : Gv.Ref) (⟨oi, og⟩ : Gv.Ref)).1, none, [some (.inl (76, [.pointer (some ⟨2, 0, none⟩), .int .i64 (Gv.joinF O7 K m (⟨ti, tg⟩ : Gv.Ref) (⟨oi, og⟩ : Gv.Ref)).2.1.i, .int .i64 (Gv.joinF O7 K m (⟨ti, tg⟩ : Gv.Ref) (⟨oi, og⟩ : Gv.Ref)).2.1.g])), some (.inl (76, [.pointer (some ⟨2, 0, none⟩), .int .i64 (Gv.joinF O7 K m (⟨ti, tg⟩ : Gv.Ref) (⟨oi, og⟩ : Gv.Ref)).2.2.1.i, .int .i64 (Gv.joinF O7 K m (⟨ti, tg⟩ : Gv.Ref) (⟨oi, og⟩ : Gv.Ref)).2.2.1.g])), some (.inr (.inr (.inr (.pool (Gv.joinF O7 K m (⟨ti, tg⟩ : Gv.Ref) (⟨oi, og⟩ : Gv.Ref)).2.2.2))))], [], [(0, 0)]⟩
  | _, _ => none
def TGJoin (K : Nat) : Tab Rs := [(1000000000, rdP), (33, liftC zN 2 (con1 lenP)), (20, liftC zN 2 (con1 (gatP K))), (82, liftC zN 2 (con1 cmpP)), (52, liftC zN 2 (con1 (glueP K)))]
theorem join3_ok (K : Nat) : ConOk D Try.prog 32 (con1 (join3P K)) := by
  refine con1_ok (prim_at (fn := Try.f32) (root := codeOf Try.f32) (by kernel_rfl) (by kernel_rfl) (by kernel_rfl) fun args hh x hx => ?_)
  unfold join3P at hx
  split at hx
  · rename_i ti tg oi og m
    injection hx with hx
    subst hx
    refine ⟨by first | exact Nat.le_refl _ | exact Nat.zero_le _ | exact Nat.le_succ _, noLit rfl, (fun hw => by first | rfl | cases hw), fun _ hv => ?_⟩
    obtain ⟨hp, hd⟩ := hv
    generalize hG : Rx.Ends (R := Rs) _ _ = G
    refine rx_okQ (T := (TGJoin K)) (show TabOk D Try.prog (TGJoin K) from ⟨rdP_ok, liftC_ok _ _ len_ok, liftC_ok _ _ (gat_ok K), liftC_ok _ _ cmp_ok, liftC_ok _ _ (glue_ok K), trivial⟩) mixed 200 (q := let zz7 := Value.pointer (some (Addr.mk 2 0 none)); let zz8 := Value.int IntKind.i64; let zz1 := (Gv.Ref.mk ti tg); let zz2 := (IntKind.wrap IntKind.i64 (Gv.Part.n (Gv.Node.all (Gv.lk O7 m zz1)) - (1 : Int))); let zz3 := (Prod.snd (Gv.atF O7 K (Gv.see m zz1) zz1 zz2)); let zz4 := (Prod.fst (Gv.atF O7 K (Gv.see m zz1) zz1 zz2)); let zz5 := (Prod.fst (Gv.atF O7 K zz3 (Gv.Ref.mk oi og) (0 : Int))); let zz6 := (Prod.snd (Gv.atF O7 K zz3 (Gv.Ref.mk oi og) (0 : Int))); Vc (PP m) ∧ Vc True ∧ Vc (PP (Gv.see m zz1) ∧ Gv.AtD O7 K (Gv.see m zz1) zz1 zz2) ∧ Vc (PP zz3 ∧ Gv.AtD O7 K zz3 (Gv.Ref.mk oi og) (0 : Int)) ∧ (Prod.snd zz4 = true → (Prod.snd zz5 = true → Vc True ∧ Vc True ∧ (decide (Gv.Ops.cmp O7 (Prod.fst zz4) (Prod.fst zz5) ≥ (0 : Int)) = true → Post (G (Value.bool false) [some (Sum.inl (76, [zz7, zz8 ti, zz8 tg])), some (Sum.inl (76, [zz7, zz8 oi, zz8 og])), some (Sum.inr (Sum.inr (Sum.inr (Rs.pool zz6)))), some (Sum.inl (28, [zz8 (El.k (Prod.fst zz4)), zz8 (El.w (Prod.fst zz4))])), some (Sum.inl (28, [zz8 (El.k (Prod.fst zz5)), zz8 (El.w (Prod.fst zz5))]))])) ∧ (decide (Gv.Ops.cmp O7 (Prod.fst zz4) (Prod.fst zz5) ≥ (0 : Int)) = false → Vc (PP zz6 ∧ Gv.GlueD O7 K zz6 zz1 (Gv.Ref.mk oi og)) ∧ Post (G (Value.bool true) [some (Sum.inl (76, [zz7, zz8 (Gv.Ref.i (Prod.fst (Gv.glue O7 K zz6 zz1 (Gv.Ref.mk oi og)))), zz8 (Gv.Ref.g (Prod.fst (Gv.glue O7 K zz6 zz1 (Gv.Ref.mk oi og))))])), some (Sum.inl (76, [zz7, zz8 0, zz8 0])), some (Sum.inr (Sum.inr (Sum.inr (Rs.pool (Prod.snd (Gv.glue O7 K zz6 zz1 (Gv.Ref.mk oi og))))))), some (Sum.inl (28, [zz8 (El.k (Prod.fst zz4)), zz8 (El.w (Prod.fst zz4))])), some (Sum.inl (28, [zz8 (El.k (Prod.fst zz5)), zz8 (El.w (Prod.fst zz5))]))]))) ∧ (Prod.snd zz5 = false → Vc (PP zz6 ∧ Gv.GlueD O7 K zz6 zz1 (Gv.Ref.mk oi og)) ∧ Post (G (Value.bool true) [some (Sum.inl (76, [zz7, zz8 (Gv.Ref.i (Prod.fst (Gv.glue O7 K zz6 zz1 (Gv.Ref.mk oi og)))), zz8 (Gv.Ref.g (Prod.fst (Gv.glue O7 K zz6 zz1 (Gv.Ref.mk oi og))))])), some (Sum.inl (76, [zz7, zz8 0, zz8 0])), some (Sum.inr (Sum.inr (Sum.inr (Rs.pool (Prod.snd (Gv.glue O7 K zz6 zz1 (Gv.Ref.mk oi og))))))), some (Sum.inl (28, [zz8 (El.k (Prod.fst zz4)), zz8 (El.w (Prod.fst zz4))])), some (Sum.inl (28, [zz8 (El.k (Prod.fst zz5)), zz8 (El.w (Prod.fst zz5))]))]))) ∧ (Prod.snd zz4 = false → Vc (PP zz6 ∧ Gv.GlueD O7 K zz6 zz1 (Gv.Ref.mk oi og)) ∧ Post (G (Value.bool true) [some (Sum.inl (76, [zz7, zz8 (Gv.Ref.i (Prod.fst (Gv.glue O7 K zz6 zz1 (Gv.Ref.mk oi og)))), zz8 (Gv.Ref.g (Prod.fst (Gv.glue O7 K zz6 zz1 (Gv.Ref.mk oi og))))])), some (Sum.inl (76, [zz7, zz8 0, zz8 0])), some (Sum.inr (Sum.inr (Sum.inr (Rs.pool (Prod.snd (Gv.glue O7 K zz6 zz1 (Gv.Ref.mk oi og))))))), some (Sum.inl (28, [zz8 (El.k (Prod.fst zz4)), zz8 (El.w (Prod.fst zz4))])), some (Sum.inl (28, [zz8 (El.k (Prod.fst zz5)), zz8 (El.w (Prod.fst zz5))]))]))) ?_ (by kernel_rfl)
    intro zz7 zz8 zz1 zz2 zz3 zz4 zz5 zz6; subst zz6 zz5 zz4 zz3 zz2 zz1 zz8 zz7
    obtain ⟨d1, d2, d3, d4, d5⟩ := hd
    have done : ∀ (b : Bool) (i g i2 g2 : Int) (m' : Pl) (rest : Hp Rs), Gv.joinF O7 K m (⟨ti, tg⟩ : Gv.Ref) (⟨oi, og⟩ : Gv.Ref) = (b, ⟨i, g⟩, ⟨i2, g2⟩, m') → G (.bool b) ([some (.inl (76, [.pointer (some ⟨2, 0, none⟩), .int .i64 i, .int .i64 g])), some (.inl (76, [.pointer (some ⟨2, 0, none⟩), .int .i64 i2, .int .i64 g2])), some (.inr (.inr (.inr (.pool m'))))] ++ rest) := by
      intro b i g i2 g2 m' rest e
      subst hG
      rw [e]
      exact ⟨[0, 1, 2], rfl, rfl, ⟨.inl rfl, .inl rfl, rfl, trivial⟩, rfl, rfl, rfl, rfl⟩
    clear hG
    unfold Gv.joinF Gv.endsF at done
    unfold Gv.endsF at d4 d5
    dsimp only [Gv.W] at d1 d2 d3 d4 d5 done
    generalize Gv.atF O7 K (Gv.see m (⟨ti, tg⟩ : Gv.Ref)) (⟨ti, tg⟩ : Gv.Ref) (IntKind.i64.wrap ((Gv.lk O7 m (⟨ti, tg⟩ : Gv.Ref)).all.n - 1)) = a at *
    generalize Gv.atF O7 K a.2 (⟨oi, og⟩ : Gv.Ref) 0 = b at *
    repeat' (first | apply And.intro | apply Vc.mk | apply fits.mk | intro h | apply Post.mk)
    all_goals (try simp only [decide_eq_true_eq, decide_eq_false_iff_not, Nat.zero_add, ge_iff_le, Int.not_le, Int.not_lt, Int.toNat_natCast, beq_iff_eq, beq_eq_false_iff_ne, bne_iff_ne, bne_eq_false_iff_eq, Bool.not_eq_true', Bool.not_eq_false'] at *)
    all_goals first | contradiction | omega | (apply congrArg Value.bool; assumption) | exact congrArg Value.bool (decide_eq_true (by assumption)) | exact congrArg Value.bool (decide_eq_false (Int.not_lt.mpr (by assumption))) | exact ⟨rfl, by omega⟩ | exact rfl | (simp [*, -List.getD_eq_getElem?_getD]; done) | skip
    all_goals first | assumption | exact Gv.see_ok.2 hp | exact d1 (by assumption) (by assumption) | exact d2 (by assumption) (by assumption) | exact d1 (by omega) (by omega) | exact d2 (by omega) (by omega) | exact d5 (fun h => by rcases h with ⟨x, y, z⟩; first | omega | exact absurd (x.symm.trans (by assumption : a.1.2 = false)) (by decide) | exact absurd (y.symm.trans (by assumption : b.1.2 = false)) (by decide)) | skip
    all_goals (refine done _ _ _ _ _ _ _ ?_; split)
    all_goals first | rfl | (rename_i h; rcases h with ⟨x, y, z⟩; exfalso; first | omega | exact absurd (x.symm.trans (by assumption : a.1.2 = false)) (by decide) | exact absurd (y.symm.trans (by assumption : b.1.2 = false)) (by decide)) | (rename_i h; exact absurd ⟨by assumption, by assumption, by omega⟩ h)
  · cases hx
end Go.Proofs.Ytclagkjjgmeifaa.G7


/- grove: the law's alike, of no list. -/
namespace Go.Proofs.Ytclagkjjgmeifaa.G7
open Go.Proofs.Ytclagkjjgmeifaa.Rx Go.Proofs.Ytclagkjjgmeifaa.D7
set_option linter.unusedVariables false
set_option linter.unusedSimpArgs false
set_option maxRecDepth 100000
set_option maxHeartbeats 16000000
def alike0P (K : Nat) : Prim Rs := fun args hh => match args, hh with
  | [.pointer (some ⟨0, 0, none⟩), .slice none 0 0], [some (.inl (76, [.pointer (some ⟨1, 0, none⟩), .int .i64 ti, .int .i64 tg])), some (.inr (.inr (.inr (.pool m))))] => some ⟨PP m ∧ AlikeD K m ⟨ti, tg⟩ ∧ (gaM K m ⟨ti, tg⟩).1 = [] ∧ (Gv.lk O7 (gaM K m ⟨ti, tg⟩).2 ⟨ti, tg⟩).all.n = 0, .bool true, none, [some (.inl (76, [.pointer (some ⟨1, 0, none⟩), .int .i64 ti, .int .i64 tg])), some (.inr (.inr (.inr (.pool (alikeM K m ⟨ti, tg⟩)))))], [], [(0, 0)]⟩
  | _, _ => none
def TAlike0 (K : Nat) : Tab Rs := [(37, liftC zN 2 (con1 (gallP K))), (33, liftC zN 2 (con1 lenP)), (47, liftV zY 2 (con1 D7.sameP))]
theorem alike0_ok (K : Nat) : ConOk D Try.prog 21 (con1 (alike0P K)) := by
  refine con1_ok (prim_at (fn := Try.f21) (root := codeOf Try.f21) (by kernel_rfl) (by kernel_rfl) (by kernel_rfl) fun args hh x hx => ?_)
  unfold alike0P at hx
  split at hx
  · rename_i ti tg m
    injection hx with hx
    subst hx
    refine ⟨by first | exact Nat.le_refl _ | exact Nat.zero_le _ | exact Nat.le_succ _, noLit rfl, (fun hw => by first | rfl | cases hw), fun _ hv => ?_⟩
    obtain ⟨hp, hd, he, hz⟩ := hv
    generalize hG : Rx.Ends (R := Rs) _ _ = G
    refine rx_ok (T := (TAlike0 K)) (show TabOk D Try.prog (TAlike0 K) from ⟨liftC_ok _ _ (gall_ok K), liftC_ok _ _ len_ok, liftV_ok _ _ D7.same_ok, trivial⟩) mixed 200 ?_
    refine as_text (q := let zz3 := Value.int IntKind.i64; let zz1 := (Gv.gather O7 K (Gv.see m (Gv.Ref.mk ti tg)) (Gv.Ref.mk ti tg)); let zz2 := (Value.slice (some (Addr.mk 3 0 (some 2000))) (List.length (Prod.fst zz1)) 0); Vc (PP m ∧ Gv.Deep O7 K m (Gv.Ref.mk ti tg) ∧ Gv.Part.n (Gv.Node.all (Gv.lk O7 m (Gv.Ref.mk ti tg))) = (↑(List.length (Prod.fst zz1)) : Int) ∧ List.length (Prod.fst zz1) < 900000) ∧ At D Try.prog (codeOf Try.f21) 2 (retK Try.prog (Array.toList (Func.results Try.f21)) G) [Sum.inl [1, 1, 1, 0, 1, 0], Sum.inr (Sum.inl 0), Sum.inl [1, 1, 1, 1]] (SS.mk [some (Value.pointer (some (Addr.mk 0 0 none))), some (Value.slice none 0 0), none, none, some (Value.bool false), some (Value.slice (some (Addr.mk 2 0 (some 2000))) 0 0), some zz2, some (zz3 0), some (Value.pointer (some (Addr.mk 0 0 none))), some zz2, none, none, none, none, none, none, none, none, none, none, none, none, none, none, none, none, none, none, none, none, none, none, none, none, none, none, none, none, none, none] [(4, false)] [some (Sum.inl (76, [Value.pointer (some (Addr.mk 1 0 none)), zz3 ti, zz3 tg])), some (Sum.inr (Sum.inr (Sum.inr (Rs.pool (Prod.snd zz1))))), some (Sum.inr (Sum.inl (38, Row.mk [zz3 0, zz3 0] 0 [Col.mk [] [] [], Col.mk [] [] []]))), some (Sum.inr (Sum.inl (28, Row.mk [zz3 0, zz3 0] (List.length (Prod.fst zz1)) [Col.mk (List.map (fun e => El.k e) (Prod.fst zz1)) [] [], Col.mk (List.map (fun e => El.w e) (Prod.fst zz1)) [] []])))])) ?_ (by kernel_rfl)
    intro zz3 zz1 zz2; subst zz2 zz1 zz3
    obtain ⟨mm, eL⟩ : ∃ mm, Gv.gather O7 K (Gv.see m ⟨ti, tg⟩) ⟨ti, tg⟩ = ([], mm) := ⟨_, Prod.ext he rfl⟩
    obtain ⟨hd1, hd2, hd3⟩ := hd
    have hmm : PP mm := by
      have : PP (Gv.gather O7 K (Gv.see m ⟨ti, tg⟩) ⟨ti, tg⟩).2 := by simp only [Gv.gather_ok, Gv.see_ok]; exact hp
      rw [eL] at this
      exact this
    have hM : alikeM K m ⟨ti, tg⟩ = Gv.see mm ⟨ti, tg⟩ := by unfold alikeM gaM; rw [eL]
    unfold gaM at hz
    rw [eL] at hz
    simp only at hz
    rw [hM] at hG
    refine ⟨⟨hp, hd1, hd2, hd3⟩, ?_⟩
    simp only [eL]
    refine loop_atM (by kernel_rfl) (ι := Nat) (fun i => i ≤ (gaM K m ⟨ti, tg⟩).1.length) [0, 1, 5, 6, 7] (fun i => [.pointer (some ⟨0, 0, none⟩), .slice none 0 0, .slice (some ⟨2, 0, some 2000⟩) 0 0, .slice (some ⟨3, 0, some 2000⟩) 0 0, .int .i64 i])
      (fun _ => [some (.inl (76, [.pointer (some ⟨1, 0, none⟩), .int .i64 ti, .int .i64 tg])), some (.inr (.inr (.inr (.pool mm)))),
        some (.inr (.inl (38, ⟨[.int .i64 0, .int .i64 0], 0, [⟨[], [], []⟩, ⟨[], [], []⟩]⟩))),
        some (.inr (.inl (28, ⟨[.int .i64 0, .int .i64 0], 0, [⟨[], [], []⟩, ⟨[], [], []⟩]⟩)))]) (fun _ => 0) 40 (fun i hi => ⟨rfl, rfl, by simp⟩)
      ⟨0, Nat.zero_le _, ⟨[0, 1, 2, 3], rfl, ⟨.inl rfl, rfl, ⟨_, rfl, .inl rfl⟩, ⟨_, rfl, .inl rfl⟩, trivial⟩, rfl, rfl, rfl, rfl⟩⟩ fun i hi => ?_
    rw [he] at hi
    obtain rfl : i = 0 := by simpa using hi
    refine rx_ok (T := TAlike0 K) (show TabOk D Try.prog (TAlike0 K) from ⟨liftC_ok _ _ (gall_ok K), liftC_ok _ _ len_ok, liftV_ok _ _ D7.same_ok, trivial⟩) mixed 200 ?_
    refine as_text (q := let zz2 := Value.pointer (some (Addr.mk 1 0 none)); let zz3 := Value.int IntKind.i64; let zz1 := (Gv.Part.n (Gv.Node.all (Gv.lk O7 mm (Gv.Ref.mk ti tg))) == (0 : Int)); (false = true → Vc ((0 : Int) ≤ (0 : Int) ∧ (0 : Int) < (0 : Int) ∧ 0 ≤ 0) ∧ Vc (0 < 0) ∧ Vc ((0 : Int) ≤ (0 : Int) ∧ (0 : Int) < (0 : Int) ∧ 0 ≤ 0) ∧ Vc (0 < 0) ∧ Vc (0 ≤ 0 ∧ 1 ≤ 1 ∧ 16 ≤ 140737488355328 ∧ 1 ≤ 140737488355328) ∧ Vc (fits (1 : Int)) ∧ Post (∃ j, j ≤ List.length (Prod.fst (gaM K m (Gv.Ref.mk ti tg))) ∧ 0 < 0 ∧ FitsM Rs 2 40 [0, 1, 5, 6, 7] [Value.pointer (some (Addr.mk 0 0 none)), Value.slice none 0 0, Value.slice (some (Addr.mk 2 0 (some 2000))) 0 0, Value.slice (some (Addr.mk 3 0 (some 2000))) 0 0, zz3 (↑j : Int)] [some (Sum.inl ((76 : TypeId), [zz2, zz3 ti, zz3 tg])), some (Sum.inr (Sum.inr (Sum.inr (Rs.pool mm)))), some (Sum.inr (Sum.inl ((38 : TypeId), Row.mk [zz3 0, zz3 0] 0 [Col.mk [] [] [], Col.mk [] [] []]))), some (Sum.inr (Sum.inl ((28 : TypeId), Row.mk [zz3 0, zz3 0] 0 [Col.mk [] [] [], Col.mk [] [] []])))] [some (Value.pointer (some (Addr.mk 0 0 none))), some (Value.slice none 0 0), some (Value.slice (some (Addr.mk 5 0 (some 2000))) 1 0), some (Value.slice (some (Addr.mk 3 0 (some 2000))) 0 0), some (zz3 1)] [some (Sum.inl (76, [zz2, zz3 ti, zz3 tg])), some (Sum.inr (Sum.inr (Sum.inr (Rs.pool mm)))), none, some (Sum.inr (Sum.inl (28, Row.mk [zz3 0, zz3 0] 0 [Col.mk [] [] [], Col.mk [] [] []]))), some (Sum.inr (Sum.inl (38, Row.mk [zz3 0, zz3 0] 1 [Col.mk [(0 : Int)] [] [], Col.mk [(0 : Int)] [] []]))), some (Sum.inr (Sum.inl (38, Row.mk [zz3 0, zz3 0] 1 [Col.mk [(0 : Int)] [] [], Col.mk [(0 : Int)] [] []])))] 40)) ∧ (false = false → Vc (PP mm) ∧ (zz1 = true → Vc ((0 ≤ 0 ∧ 0 ≤ 0 ∧ True) ∧ 0 = 0 ∧ 0 = 0 ∧ 0 = 0 ∧ 0 = 0 ∧ 0 = 0 ∧ 0 = 0 ∧ 0 ≤ 1000000) ∧ Post (G (Value.bool true) [some (Sum.inl (76, [zz2, zz3 ti, zz3 tg])), some (Sum.inr (Sum.inr (Sum.inr (Rs.pool (Gv.see mm (Gv.Ref.mk ti tg)))))), some (Sum.inr (Sum.inl (38, Row.mk [zz3 0, zz3 0] 0 [Col.mk [] [] [], Col.mk [] [] []]))), some (Sum.inr (Sum.inl (28, Row.mk [zz3 0, zz3 0] 0 [Col.mk [] [] [], Col.mk [] [] []]))), some (Sum.inr (Sum.inl (38, Row.mk [zz3 0, zz3 0] 0 [Col.mk [] [] [], Col.mk [] [] []]))), some (Sum.inr (Sum.inl (38, Row.mk [zz3 0, zz3 0] 0 [Col.mk [] [] [], Col.mk [] [] []])))])) ∧ (zz1 = false → Post (G (Value.bool false) [some (Sum.inl (76, [zz2, zz3 ti, zz3 tg])), some (Sum.inr (Sum.inr (Sum.inr (Rs.pool (Gv.see mm (Gv.Ref.mk ti tg)))))), some (Sum.inr (Sum.inl (38, Row.mk [zz3 0, zz3 0] 0 [Col.mk [] [] [], Col.mk [] [] []]))), some (Sum.inr (Sum.inl (28, Row.mk [zz3 0, zz3 0] 0 [Col.mk [] [] [], Col.mk [] [] []]))), some (Sum.inr (Sum.inl (38, Row.mk [zz3 0, zz3 0] 0 [Col.mk [] [] [], Col.mk [] [] []])))])))) ?_ (by kernel_rfl)
    intro zz2 zz3 zz1; subst zz1 zz3 zz2
    simp only [hz]
    refine ⟨(fun h => by cases h), fun _ => ⟨⟨hmm⟩, fun _ => ⟨⟨⟨by omega, by omega, trivial⟩, trivial, trivial, trivial, trivial, trivial, trivial, by omega⟩, ⟨?_⟩⟩, fun h => by cases h⟩⟩
    subst hG
    exact ⟨[0, 1], rfl, rfl, ⟨.inl rfl, rfl, trivial⟩, rfl, rfl, rfl, rfl⟩
  · cases hx
def alike1P (K : Nat) : Prim Rs := fun args hh => match args, hh with
  | [.pointer (some ⟨0, 0, none⟩), .slice (some ⟨1, 0, some 2000⟩) n c], [some (.inl (76, [.pointer (some ⟨2, 0, none⟩), .int .i64 ti, .int .i64 tg])), some (.inr (.inr (.inl ⟨[.int .i64 0, .int .i64 0], n', [⟨xk, [], []⟩, ⟨xw, [], []⟩]⟩))), some (.inr (.inr (.inr (.pool m))))] => some ⟨PP m ∧ AlikeD K m ⟨ti, tg⟩ ∧ n = xk.length ∧ n' = xk.length ∧ xw.length = xk.length, .bool (alikeB K m ⟨ti, tg⟩ xk xw), none, [some (.inl (76, [.pointer (some ⟨2, 0, none⟩), .int .i64 ti, .int .i64 tg])), some (.inr (.inr (.inl ⟨[.int .i64 0, .int .i64 0], n', [⟨xk, [], []⟩, ⟨xw, [], []⟩]⟩))), some (.inr (.inr (.inr (.pool (alikeM K m ⟨ti, tg⟩)))))], [], [(0, 0)]⟩
  | _, _ => none
def TAlike1 (K : Nat) : Tab Rs := [(37, liftC zN 2 (con1 (gallP K))), (33, liftC zN 2 (con1 lenP)), (47, liftV zY 2 (con1 D7.sameP))]
theorem alike1_ok (K : Nat) : ConOk D Try.prog 21 (con1 (alike1P K)) := by
  refine con1_ok (prim_at (fn := Try.f21) (root := codeOf Try.f21) (by kernel_rfl) (by kernel_rfl) (by kernel_rfl) fun args hh x hx => ?_)
  unfold alike1P at hx
  split at hx
  · rename_i n c ti tg n' xk xw m
    injection hx with hx
    subst hx
    refine ⟨by first | exact Nat.le_refl _ | exact Nat.zero_le _ | exact Nat.le_succ _, noLit rfl, (fun hw => by first | rfl | cases hw), fun _ hv => ?_⟩
    obtain ⟨hp, hd, rfl, rfl, hxw⟩ := hv
    generalize hG : Rx.Ends (R := Rs) _ _ = G
    refine rx_ok (T := (TAlike1 K)) (show TabOk D Try.prog (TAlike1 K) from ⟨liftC_ok _ _ (gall_ok K), liftC_ok _ _ len_ok, liftV_ok _ _ D7.same_ok, trivial⟩) mixed 200 ?_
    refine as_text (q := let zz3 := Value.int IntKind.i64; let zz1 := (Gv.gather O7 K (Gv.see m (Gv.Ref.mk ti tg)) (Gv.Ref.mk ti tg)); let zz2 := (Value.slice (some (Addr.mk 4 0 (some 2000))) (List.length (Prod.fst zz1)) 0); Vc (PP m ∧ Gv.Deep O7 K m (Gv.Ref.mk ti tg) ∧ Gv.Part.n (Gv.Node.all (Gv.lk O7 m (Gv.Ref.mk ti tg))) = (↑(List.length (Prod.fst zz1)) : Int) ∧ List.length (Prod.fst zz1) < 900000) ∧ At D Try.prog (codeOf Try.f21) 3 (retK Try.prog (Array.toList (Func.results Try.f21)) G) [Sum.inl [1, 1, 1, 0, 1, 0], Sum.inr (Sum.inl 0), Sum.inl [1, 1, 1, 1]] (SS.mk [some (Value.pointer (some (Addr.mk 0 0 none))), some (Value.slice (some (Addr.mk 1 0 (some 2000))) (List.length xk) c), none, none, some (Value.bool false), some (Value.slice (some (Addr.mk 3 0 (some 2000))) 0 0), some zz2, some (zz3 0), some (Value.pointer (some (Addr.mk 0 0 none))), some zz2, none, none, none, none, none, none, none, none, none, none, none, none, none, none, none, none, none, none, none, none, none, none, none, none, none, none, none, none, none, none] [(4, false)] [some (Sum.inl (76, [Value.pointer (some (Addr.mk 2 0 none)), zz3 ti, zz3 tg])), some (Sum.inr (Sum.inr (Sum.inl (Row.mk [zz3 0, zz3 0] (List.length xk) [Col.mk xk [] [], Col.mk xw [] []])))), some (Sum.inr (Sum.inr (Sum.inr (Rs.pool (Prod.snd zz1))))), some (Sum.inr (Sum.inl (38, Row.mk [zz3 0, zz3 0] 0 [Col.mk [] [] [], Col.mk [] [] []]))), some (Sum.inr (Sum.inl (28, Row.mk [zz3 0, zz3 0] (List.length (Prod.fst zz1)) [Col.mk (List.map (fun e => El.k e) (Prod.fst zz1)) [] [], Col.mk (List.map (fun e => El.w e) (Prod.fst zz1)) [] []])))])) ?_ (by kernel_rfl)
    intro zz3 zz1 zz2; subst zz2 zz1 zz3
    obtain ⟨L, mm, eL⟩ : ∃ L mm, Gv.gather O7 K (Gv.see m ⟨ti, tg⟩) ⟨ti, tg⟩ = (L, mm) := ⟨_, _, rfl⟩
    obtain ⟨hd1, hd2, hd3⟩ := hd
    have hd2' := hd2
    have hd3' := hd3
    unfold gaM at hd2' hd3'
    have hmm : PP mm := by
      have : PP (Gv.gather O7 K (Gv.see m ⟨ti, tg⟩) ⟨ti, tg⟩).2 := by simp only [Gv.gather_ok, Gv.see_ok]; exact hp
      rw [eL] at this
      exact this
    have hB : alikeB K m ⟨ti, tg⟩ xk xw = (decide ((Gv.lk O7 mm ⟨ti, tg⟩).all.n = (xk.length : Int)) && sameC (L.map El.k) (L.map El.w) xk xw) := by unfold alikeB gaM; rw [eL]
    have hM : alikeM K m ⟨ti, tg⟩ = Gv.see mm ⟨ti, tg⟩ := by unfold alikeM gaM; rw [eL]
    rw [hB, hM] at hG
    rw [eL] at hd2' hd3'
    simp only at hd2' hd3'
    refine ⟨⟨hp, hd1, hd2, hd3⟩, ?_⟩
    simp only [eL]
    refine loop_atM (by kernel_rfl) (ι := Nat) (fun i => i ≤ L.length) [0, 1, 5, 6, 7] (fun i => [.pointer (some ⟨0, 0, none⟩), .slice (some ⟨1, 0, some 2000⟩) xk.length c, .slice (some ⟨3, 0, some 2000⟩) i 0, .slice (some ⟨4, 0, some 2000⟩) L.length 0, .int .i64 i])
      (fun i => [some (.inl (76, [.pointer (some ⟨2, 0, none⟩), .int .i64 ti, .int .i64 tg])), vE xk xw, some (.inr (.inr (.inr (.pool mm)))),
        some (.inr (.inl (38, ⟨[.int .i64 0, .int .i64 0], i, [⟨(L.map El.k).take i, [], []⟩, ⟨(L.map El.w).take i, [], []⟩]⟩))),
        some (.inr (.inl (28, ⟨[.int .i64 0, .int .i64 0], L.length, [⟨L.map El.k, [], []⟩, ⟨L.map El.w, [], []⟩]⟩)))]) (fun i => L.length - i) 40 (fun i hi => ⟨rfl, rfl, by simp⟩)
      ⟨0, Nat.zero_le _, ⟨[0, 1, 2, 3, 4], rfl, ⟨.inl rfl, rfl, rfl, ⟨_, rfl, .inl rfl⟩, ⟨_, rfl, .inl rfl⟩, trivial⟩, rfl, rfl, rfl, rfl⟩⟩ fun i hi => ?_
    refine rx_ok (T := TAlike1 K) (show TabOk D Try.prog (TAlike1 K) from ⟨liftC_ok _ _ (gall_ok K), liftC_ok _ _ len_ok, liftV_ok _ _ D7.same_ok, trivial⟩) mixed 200 ?_
    refine as_text (q := let zz6 := Value.pointer (some (Addr.mk 2 0 none)); let zz7 := Value.int IntKind.i64; let zz1 := (List.length xk); let zz2 := (List.map El.k L); let zz3 := (List.map El.w L); let zz4 := (Gv.Part.n (Gv.Node.all (Gv.lk O7 mm (Gv.Ref.mk ti tg))) == (↑zz1 : Int)); let zz5 := (cut (List.take i zz2) 0 i); (decide ((↑i : Int) < (↑(List.length L) : Int)) = true → Vc ((0 : Int) ≤ (↑i : Int) ∧ (↑i : Int) < (↑(List.length L) : Int) ∧ 0 + List.length L ≤ List.length L) ∧ Vc (0 + Int.toNat (↑i : Int) < List.length L) ∧ Vc ((0 : Int) ≤ (↑i : Int) ∧ (↑i : Int) < (↑(List.length L) : Int) ∧ 0 + List.length L ≤ List.length L) ∧ Vc (0 + Int.toNat (↑i : Int) < List.length L) ∧ Vc (0 + i ≤ i ∧ 1 ≤ 1 ∧ (i + 1) * 16 ≤ 140737488355328 ∧ i + 1 ≤ 140737488355328) ∧ Vc (fits ((↑i : Int) + (1 : Int))) ∧ Post (∃ j, j ≤ List.length L ∧ List.length L - j < List.length L - i ∧ FitsM Rs 3 40 [0, 1, 5, 6, 7] [Value.pointer (some (Addr.mk 0 0 none)), Value.slice (some (Addr.mk 1 0 (some 2000))) zz1 c, Value.slice (some (Addr.mk 3 0 (some 2000))) j 0, Value.slice (some (Addr.mk 4 0 (some 2000))) (List.length L) 0, zz7 (↑j : Int)] [some (Sum.inl ((76 : TypeId), [zz6, zz7 ti, zz7 tg])), vE xk xw, some (Sum.inr (Sum.inr (Sum.inr (Rs.pool mm)))), some (Sum.inr (Sum.inl ((38 : TypeId), Row.mk [zz7 0, zz7 0] j [Col.mk (List.take j zz2) [] [], Col.mk (List.take j zz3) [] []]))), some (Sum.inr (Sum.inl ((28 : TypeId), Row.mk [zz7 0, zz7 0] (List.length L) [Col.mk zz2 [] [], Col.mk zz3 [] []])))] [some (Value.pointer (some (Addr.mk 0 0 none))), some (Value.slice (some (Addr.mk 1 0 (some 2000))) zz1 c), some (Value.slice (some (Addr.mk 6 0 (some 2000))) (i + 1) 0), some (Value.slice (some (Addr.mk 4 0 (some 2000))) (List.length L) 0), some (zz7 ((↑i : Int) + (1 : Int)))] [some (Sum.inl (76, [zz6, zz7 ti, zz7 tg])), some (Sum.inr (Sum.inr (Sum.inl (Row.mk [zz7 0, zz7 0] zz1 [Col.mk xk [] [], Col.mk xw [] []])))), some (Sum.inr (Sum.inr (Sum.inr (Rs.pool mm)))), none, some (Sum.inr (Sum.inl (28, Row.mk [zz7 0, zz7 0] (List.length L) [Col.mk zz2 [] [], Col.mk zz3 [] []]))), some (Sum.inr (Sum.inl (38, Row.mk [zz7 0, zz7 0] 1 [Col.mk [List.getD zz2 (0 + Int.toNat (↑i : Int)) (0 : Int)] [] [], Col.mk [List.getD zz3 (0 + Int.toNat (↑i : Int)) (0 : Int)] [] []]))), some (Sum.inr (Sum.inl (38, Row.mk [zz7 0, zz7 0] (i + 1) [Col.mk (cut (List.take i zz2) 0 i ++ cut [List.getD zz2 (0 + Int.toNat (↑i : Int)) (0 : Int)] 0 1) [] [], Col.mk (cut (List.take i zz3) 0 i ++ cut [List.getD zz3 (0 + Int.toNat (↑i : Int)) (0 : Int)] 0 1) [] []])))] 40)) ∧ (decide ((↑i : Int) < (↑(List.length L) : Int)) = false → Vc (PP mm) ∧ (zz4 = true → Vc ((0 + i ≤ i ∧ 0 + List.length xk ≤ List.length xk ∧ True) ∧ i = List.length zz5 ∧ i = List.length zz5 ∧ List.length (cut (List.take i zz3) 0 i) = List.length zz5 ∧ List.length xk = List.length (cut xk 0 zz1) ∧ List.length xk = List.length (cut xk 0 zz1) ∧ List.length (cut xw 0 zz1) = List.length (cut xk 0 zz1) ∧ List.length zz5 ≤ 1000000) ∧ Post (G (Value.bool (sameC zz5 (cut (List.take i zz3) 0 i) (cut xk 0 zz1) (cut xw 0 zz1))) [some (Sum.inl (76, [zz6, zz7 ti, zz7 tg])), some (Sum.inr (Sum.inr (Sum.inl (Row.mk [zz7 0, zz7 0] zz1 [Col.mk xk [] [], Col.mk xw [] []])))), some (Sum.inr (Sum.inr (Sum.inr (Rs.pool (Gv.see mm (Gv.Ref.mk ti tg)))))), some (Sum.inr (Sum.inl (38, Row.mk [zz7 0, zz7 0] i [Col.mk (List.take i zz2) [] [], Col.mk (List.take i zz3) [] []]))), some (Sum.inr (Sum.inl (28, Row.mk [zz7 0, zz7 0] (List.length L) [Col.mk zz2 [] [], Col.mk zz3 [] []])))])) ∧ (zz4 = false → Post (G (Value.bool false) [some (Sum.inl (76, [zz6, zz7 ti, zz7 tg])), some (Sum.inr (Sum.inr (Sum.inl (Row.mk [zz7 0, zz7 0] zz1 [Col.mk xk [] [], Col.mk xw [] []])))), some (Sum.inr (Sum.inr (Sum.inr (Rs.pool (Gv.see mm (Gv.Ref.mk ti tg)))))), some (Sum.inr (Sum.inl (38, Row.mk [zz7 0, zz7 0] i [Col.mk (List.take i zz2) [] [], Col.mk (List.take i zz3) [] []]))), some (Sum.inr (Sum.inl (28, Row.mk [zz7 0, zz7 0] (List.length L) [Col.mk zz2 [] [], Col.mk zz3 [] []])))])))) ?_ (by kernel_rfl)
    intro zz6 zz7 zz1 zz2 zz3 zz4 zz5; subst zz5 zz4 zz3 zz2 zz1 zz7 zz6
    have e0 : 0 + (i : Int).toNat = i := by omega
    have c0 : ∀ v : Int, cut [v] 0 1 = [v] := fun _ => rfl
    have c1 : cut ((L.map El.k).take i) 0 i = (L.map El.k).take i := cut_eq (by simp; omega)
    have c2 : cut ((L.map El.w).take i) 0 i = (L.map El.w).take i := cut_eq (by simp; omega)
    have c3 : cut xk 0 xk.length = xk := cut_all _
    have c4 : cut xw 0 xk.length = xw := cut_eq hxw
    simp only [e0, c0, c1, c2, c3, c4]
    refine ⟨fun h => ?_, fun h => ?_⟩
    · have hlt : i < L.length := by have := of_decide_eq_true h; omega
      have s1 : (L.map El.k).take i ++ [(L.map El.k).getD i 0] = (L.map El.k).take (i + 1) := (take_succ_getD 0 (by simpa using hlt)).symm
      have s2 : (L.map El.w).take i ++ [(L.map El.w).getD i 0] = (L.map El.w).take (i + 1) := (take_succ_getD 0 (by simpa using hlt)).symm
      simp only [s1, s2]
      clear h
      repeat' (first | apply And.intro | apply Vc.mk | apply fits.mk | intro h | apply Post.mk)
      all_goals (try simp only [decide_eq_true_eq, decide_eq_false_iff_not, Nat.zero_add, ge_iff_le, Int.not_le, Int.not_lt, Int.toNat_natCast, beq_iff_eq, beq_eq_false_iff_ne, bne_iff_ne, bne_eq_false_iff_eq, Bool.not_eq_true', Bool.not_eq_false'] at *)
      all_goals first | contradiction | omega | (apply congrArg Value.bool; assumption) | exact congrArg Value.bool (decide_eq_true (by assumption)) | exact congrArg Value.bool (decide_eq_false (Int.not_lt.mpr (by assumption))) | exact ⟨rfl, by omega⟩ | exact rfl | (simp [*, -List.getD_eq_getElem?_getD]; done) | skip
      exact ⟨i + 1, hlt, by omega, ⟨[0, 1, 2, 6, 4], rfl, ⟨.inl rfl, rfl, rfl, ⟨_, rfl, .inl rfl⟩, ⟨_, rfl, .inl rfl⟩, trivial⟩, rfl, rfl, rfl, rfl⟩⟩
    · obtain rfl : i = L.length := by have := of_decide_eq_false h; omega
      have t1 : (L.map El.k).take L.length = L.map El.k := List.take_of_length_le (by simp)
      have t2 : (L.map El.w).take L.length = L.map El.w := List.take_of_length_le (by simp)
      simp only [t1, t2]
      clear h
      have done : ∀ (b : Bool) (rest : Hp Rs), b = (decide ((Gv.lk O7 mm ⟨ti, tg⟩).all.n = (xk.length : Int)) && sameC (L.map El.k) (L.map El.w) xk xw) → G (.bool b) ([some (.inl (76, [.pointer (some ⟨2, 0, none⟩), .int .i64 ti, .int .i64 tg])), vE xk xw, some (.inr (.inr (.inr (.pool (Gv.see mm ⟨ti, tg⟩)))))] ++ rest) := by
        intro b rest hb
        subst hG
        rw [hb]
        exact ⟨[0, 1, 2], rfl, rfl, ⟨.inl rfl, rfl, rfl, trivial⟩, rfl, rfl, rfl, rfl⟩
      clear hG
      repeat' (first | apply And.intro | apply Vc.mk | apply fits.mk | intro h | apply Post.mk)
      all_goals (try simp only [decide_eq_true_eq, decide_eq_false_iff_not, Nat.zero_add, ge_iff_le, Int.not_le, Int.not_lt, Int.toNat_natCast, beq_iff_eq, beq_eq_false_iff_ne, bne_iff_ne, bne_eq_false_iff_eq, Bool.not_eq_true', Bool.not_eq_false'] at *)
      all_goals first | contradiction | omega | (apply congrArg Value.bool; assumption) | exact congrArg Value.bool (decide_eq_true (by assumption)) | exact congrArg Value.bool (decide_eq_false (Int.not_lt.mpr (by assumption))) | exact ⟨rfl, by omega⟩ | exact rfl | (simp [*, -List.getD_eq_getElem?_getD]; done) | skip
      · rw [List.length_map]; omega
      · exact done _ _ (by rw [decide_eq_true ‹_›, Bool.true_and])
      · exact done _ _ (by rw [decide_eq_false ‹_›, Bool.false_and])
  · cases hx
end Go.Proofs.Ytclagkjjgmeifaa.G7


/- grove: trees whose pool is shared, among things. -/
namespace Go.Proofs.Ytclagkjjgmeifaa.G7
open Go.Proofs.Ytclagkjjgmeifaa.Rx Go.Proofs.Ytclagkjjgmeifaa.D7
set_option linter.unusedVariables false
set_option linter.unusedSimpArgs false
set_option maxRecDepth 100000
/-- one of two contracts -/
def orC {R : Type} (c c' : Con R) : Con R := ⟨fun _ _ => none, fun a h => match c.yes a h with
  | some x => some x
  | none => c'.yes a h, fun _ _ => none⟩
theorem orC_ok {R : Type} {D : Res R} {P : Program} {f : FuncId} {c c' : Con R} (h : ConOkK D P f c) (h' : ConOkK D P f c') (w : ∀ a h, c.when a h = none) (w' : ∀ a h, c'.when a h = none) : ConOkK D P f (orC c c') := by
  refine ⟨fun b => ?_, fun b args hh x hx => ?_⟩
  · cases b with
    | true =>
      have h1 := h.ok true
      have h2 := h'.ok true
      refine ⟨h1.known, fun args hh x _ hx => ?_, fun args hh x hx => ?_, fun args hh x hx => ?_, fun args hh x hx => ?_⟩
      all_goals
        simp only [Con.go, orC] at hx
        split at hx
        · rename_i y hy
          injection hx with hx
          subst hx
          first | exact h1.run args hh _ (.inl ⟨w _ _, rfl⟩) hy | exact h1.len args hh _ hy | exact h1.lit args hh _ hy | exact h1.still args hh _ hy
        · first | exact h2.run args hh x (.inl ⟨w' _ _, rfl⟩) hx | exact h2.len args hh x hx | exact h2.lit args hh x hx | exact h2.still args hh x hx
    | false => exact ⟨(h.ok true).known, (fun _ _ _ _ hx => by cases hx), (fun _ _ _ hx => by cases hx), (fun _ _ _ hx => by cases hx), (fun _ _ _ hx => by cases hx)⟩
  · cases b with
    | true =>
      simp only [Con.go, orC] at hx
      split at hx
      · rename_i y hy
        injection hx with hx
        subst hx
        exact h.keep true args hh _ hy
      · exact h'.keep true args hh x hx
    | false => cases hx
theorem liftC_when {R : Type} (z : Nat → Bool) (d : Nat) (c : Con R) (h : ∀ a hh, c.when a hh = none) : ∀ a hh, (liftC z d c).when a hh = none := fun a hh => by
  show liftW z d c.when a hh = none
  unfold liftW
  rw [fNs_eq, fHp_eq, h]
def rputP : Prim Rt := fun args hh => match args, hh with
  | [.pointer (some ⟨0, 0, none⟩), .agg ⟨[.int .i64 k0, .int .i64 k1]⟩], [some (.inl (76, [.pointer (some ⟨1, 0, none⟩), .int .i64 ti, .int .i64 tg])), some (.inr (.inr (.inr (.pool m))))] => some ⟨PP m ∧ Gv.PutD O7 KK m (⟨ti, tg⟩ : Gv.Ref) (⟨k0, k1⟩ : El), .bool (Gv.putF O7 KK m (⟨ti, tg⟩ : Gv.Ref) (⟨k0, k1⟩ : El)).1, none, [some (.inl (76, [.pointer (some ⟨1, 0, none⟩), .int .i64 (Gv.putF O7 KK m (⟨ti, tg⟩ : Gv.Ref) (⟨k0, k1⟩ : El)).2.1.i, .int .i64 (Gv.putF O7 KK m (⟨ti, tg⟩ : Gv.Ref) (⟨k0, k1⟩ : El)).2.1.g])), some (.inr (.inr (.inr (.pool (Gv.putF O7 KK m (⟨ti, tg⟩ : Gv.Ref) (⟨k0, k1⟩ : El)).2.2))))], [], [(0, 0)]⟩
  | _, _ => none
theorem rput_ok : ConOk D2 Try.prog 13 (con1 rputP) := by
  refine res_up (c := con1 (gputP KK)) (gput_ok KK) fun args hh x hx => ?_
  unfold rputP at hx
  split at hx
  · rename_i k0 k1 ti tg m
    injection hx with hx
    subst hx
    refine ⟨Nat.le_refl _, noLit rfl, (fun hw => by cases hw), fun hv => ⟨⟨_, .inl ⟨rfl, rfl⟩, rfl, ?_, ?_, ?_⟩, rfl, rfl⟩⟩
    · exact hv
    · rfl
    · rfl
  · cases hx
def rbetP : Prim Rt := fun args hh => match args, hh with
  | [.pointer (some ⟨0, 0, none⟩), .int .i64 x_, .int .i64 y_], [some (.inl (76, [.pointer (some ⟨1, 0, none⟩), .int .i64 ti, .int .i64 tg])), some (.inr (.inr (.inr (.pool m))))] => some ⟨PP m ∧ Gv.BetE O7 KK (Gv.see m (⟨ti, tg⟩ : Gv.Ref)) (Gv.lk O7 m (⟨ti, tg⟩ : Gv.Ref)) x_ y_, .agg ⟨[.int .i64 (Gv.between O7 KK (Gv.see m (⟨ti, tg⟩ : Gv.Ref)) (Gv.lk O7 m (⟨ti, tg⟩ : Gv.Ref)) x_ y_).1.sum.n, .int .i64 (Gv.between O7 KK (Gv.see m (⟨ti, tg⟩ : Gv.Ref)) (Gv.lk O7 m (⟨ti, tg⟩ : Gv.Ref)) x_ y_).1.sum.s, .int .i64 (Gv.between O7 KK (Gv.see m (⟨ti, tg⟩ : Gv.Ref)) (Gv.lk O7 m (⟨ti, tg⟩ : Gv.Ref)) x_ y_).1.sum.l]⟩, none, [some (.inl (76, [.pointer (some ⟨1, 0, none⟩), .int .i64 ti, .int .i64 tg])), some (.inr (.inr (.inr (.pool (Gv.between O7 KK (Gv.see m (⟨ti, tg⟩ : Gv.Ref)) (Gv.lk O7 m (⟨ti, tg⟩ : Gv.Ref)) x_ y_).2))))], [], [(0, 0)]⟩
  | _, _ => none
theorem rbet_ok : ConOk D2 Try.prog 24 (con1 rbetP) := by
  refine res_up (c := con1 (gbetP KK)) (gbet_ok KK) fun args hh x hx => ?_
  unfold rbetP at hx
  split at hx
  · rename_i x_ y_ ti tg m
    injection hx with hx
    subst hx
    refine ⟨Nat.le_refl _, noLit rfl, (fun hw => by cases hw), fun hv => ⟨⟨_, .inl ⟨rfl, rfl⟩, rfl, ?_, ?_, ?_⟩, rfl, rfl⟩⟩
    · exact hv
    · rfl
    · rfl
  · cases hx
def ralikeP : Prim Rt := fun args hh => match args, hh with
  | [.pointer (some ⟨0, 0, none⟩), .slice (some ⟨1, 0, some 2000⟩) n c], [some (.inl (76, [.pointer (some ⟨2, 0, none⟩), .int .i64 ti, .int .i64 tg])), some (.inr (.inr (.inl ⟨[.int .i64 0, .int .i64 0], n', [⟨xk, [], []⟩, ⟨xw, [], []⟩]⟩))), some (.inr (.inr (.inr (.pool m))))] => some ⟨PP m ∧ AlikeD KK m (⟨ti, tg⟩ : Gv.Ref) ∧ n = xk.length ∧ n' = xk.length ∧ xw.length = xk.length, .bool (alikeB KK m (⟨ti, tg⟩ : Gv.Ref) xk xw), none, [some (.inl (76, [.pointer (some ⟨2, 0, none⟩), .int .i64 ti, .int .i64 tg])), some (.inr (.inr (.inl ⟨[.int .i64 0, .int .i64 0], n', [⟨xk, [], []⟩, ⟨xw, [], []⟩]⟩))), some (.inr (.inr (.inr (.pool (alikeM KK m (⟨ti, tg⟩ : Gv.Ref))))))], [], [(0, 0)]⟩
  | _, _ => none
theorem ralike_ok : ConOk D2 Try.prog 21 (con1 ralikeP) := by
  refine res_up (c := con1 (alike1P KK)) (alike1_ok KK) fun args hh x hx => ?_
  unfold ralikeP at hx
  split at hx
  · rename_i n c ti tg n' xk xw m
    injection hx with hx
    subst hx
    refine ⟨Nat.le_refl _, noLit rfl, (fun hw => by cases hw), fun hv => ⟨⟨_, .inl ⟨rfl, rfl⟩, rfl, ?_, ?_, ?_⟩, rfl, rfl⟩⟩
    · exact hv
    · rfl
    · rfl
  · cases hx
def ralike0P : Prim Rt := fun args hh => match args, hh with
  | [.pointer (some ⟨0, 0, none⟩), .slice none 0 0], [some (.inl (76, [.pointer (some ⟨1, 0, none⟩), .int .i64 ti, .int .i64 tg])), some (.inr (.inr (.inr (.pool m))))] => some ⟨PP m ∧ AlikeD KK m (⟨ti, tg⟩ : Gv.Ref) ∧ (gaM KK m (⟨ti, tg⟩ : Gv.Ref)).1 = [] ∧ (Gv.lk O7 (gaM KK m (⟨ti, tg⟩ : Gv.Ref)).2 (⟨ti, tg⟩ : Gv.Ref)).all.n = 0, .bool true, none, [some (.inl (76, [.pointer (some ⟨1, 0, none⟩), .int .i64 ti, .int .i64 tg])), some (.inr (.inr (.inr (.pool (alikeM KK m (⟨ti, tg⟩ : Gv.Ref))))))], [], [(0, 0)]⟩
  | _, _ => none
theorem ralike0_ok : ConOk D2 Try.prog 21 (con1 ralike0P) := by
  refine res_up (c := con1 (alike0P KK)) (alike0_ok KK) fun args hh x hx => ?_
  unfold ralike0P at hx
  split at hx
  · rename_i ti tg m
    injection hx with hx
    subst hx
    refine ⟨Nat.le_refl _, noLit rfl, (fun hw => by cases hw), fun hv => ⟨⟨_, .inl ⟨rfl, rfl⟩, rfl, ?_, ?_, ?_⟩, rfl, rfl⟩⟩
    · exact hv
    · rfl
    · rfl
  · cases hx
def tsplitP : Prim Rt := fun args hh => match args, hh with
  | [.pointer (some ⟨0, 0, none⟩), .agg ⟨[.int .i64 k0, .int .i64 k1]⟩], [some (.inr (.inr (.inr (.tree s))))] => some ⟨s.Few, .pointer (some ⟨2, 0, none⟩), none, [some (.inl (76, [.pointer (some ⟨1, 0, none⟩), .int .i64 (Gv.cutF O7 KK KK s.m s.r (⟨k0, k1⟩ : El)).1.i, .int .i64 (Gv.cutF O7 KK KK s.m s.r (⟨k0, k1⟩ : El)).1.g])), some (.inr (.inr (.inr (.pool (Gv.cutF O7 KK KK s.m s.r (⟨k0, k1⟩ : El)).2.2)))), some (.inl (76, [.pointer (some ⟨1, 0, none⟩), .int .i64 (Gv.cutF O7 KK KK s.m s.r (⟨k0, k1⟩ : El)).2.1.i, .int .i64 (Gv.cutF O7 KK KK s.m s.r (⟨k0, k1⟩ : El)).2.1.g]))], [], [(0, 0)]⟩
  | _, _ => none
theorem tsplit_ok : ConOk D2 Try.prog 31 (con1 tsplitP) := by
  refine res_up (c := con1 (gsplitP KK)) (gsplit_ok KK) fun args hh x hx => ?_
  unfold tsplitP at hx
  split at hx
  · rename_i k0 k1 s
    injection hx with hx
    subst hx
    refine ⟨Nat.le_add_left 1 2, noLit rfl, (fun hw => by cases hw), fun hv => ⟨⟨_, .inl ⟨rfl, rfl⟩, rfl, ?_, ?_, ?_⟩, rfl, rfl⟩⟩
    · exact ⟨s.pp hv, (s.ok.split (K := KK) (e := (⟨k0, k1⟩ : El)) s.kk).1⟩
    · rfl
    · rfl
  · cases hx
def rjoin0P : Prim Rt := fun args hh => match args, hh with
  | [.pointer (some ⟨0, 0, none⟩), .pointer none], [some (.inl (76, [.pointer (some ⟨1, 0, none⟩), .int .i64 ti, .int .i64 tg])), some (.inr (.inr (.inr (.pool m))))] => some ⟨True, .bool false, none, hh, [], []⟩
  | _, _ => none
theorem rjoin0_ok : ConOk D2 Try.prog 32 (con1 rjoin0P) := by
  refine res_up (c := con1 join0P) join0_ok fun args hh x hx => ?_
  unfold rjoin0P at hx
  split at hx
  · rename_i ti tg m
    injection hx with hx
    subst hx
    refine ⟨Nat.le_refl _, noLit rfl, (fun _ => rfl), fun hv => ⟨⟨_, .inl ⟨rfl, rfl⟩, rfl, ?_, ?_, ?_⟩, rfl, rfl⟩⟩
    · trivial
    · rfl
    · rfl
  · cases hx
def rjoin1P : Prim Rt := fun args hh => match args, hh with
  | [.pointer (some ⟨0, 0, none⟩), .pointer (some ⟨0, 0, none⟩)], [some (.inl (76, [.pointer (some ⟨1, 0, none⟩), .int .i64 ti, .int .i64 tg])), some (.inr (.inr (.inr (.pool m))))] => some ⟨True, .bool false, none, hh, [], []⟩
  | _, _ => none
theorem rjoin1_ok : ConOk D2 Try.prog 32 (con1 rjoin1P) := by
  refine res_up (c := con1 join1P) join1_ok fun args hh x hx => ?_
  unfold rjoin1P at hx
  split at hx
  · rename_i ti tg m
    injection hx with hx
    subst hx
    refine ⟨Nat.le_refl _, noLit rfl, (fun _ => rfl), fun hv => ⟨⟨_, .inl ⟨rfl, rfl⟩, rfl, ?_, ?_, ?_⟩, rfl, rfl⟩⟩
    · trivial
    · rfl
    · rfl
  · cases hx
def rjoin2P : Prim Rt := fun args hh => match args, hh with
  | [.pointer (some ⟨0, 0, none⟩), .pointer (some ⟨1, 0, none⟩)], [some (.inl (76, [.pointer (some ⟨2, 0, none⟩), .int .i64 ti, .int .i64 tg])), some (.inr (.inr (.inr (.tree s)))), some (.inr (.inr (.inr (.pool m))))] => some ⟨True, .bool false, none, hh, [], []⟩
  | _, _ => none
theorem rjoin2_ok : ConOk D2 Try.prog 32 (con1 rjoin2P) := by
  refine res_up (c := liftC zN 2 (con1 join2P)) (liftC_ok _ _ join2_ok).ok fun args hh x hx => ?_
  unfold rjoin2P at hx
  split at hx
  · rename_i ti tg s m
    injection hx with hx
    subst hx
    refine ⟨Nat.le_refl _, noLit rfl, (fun _ => rfl), fun hv => ⟨⟨_, .inl ⟨rfl, rfl⟩, rfl, ?_, ?_, ?_⟩, rfl, rfl⟩⟩
    · trivial
    · rfl
    · rfl
  · cases hx
def rjoin3P : Prim Rt := fun args hh => match args, hh with
  | [.pointer (some ⟨0, 0, none⟩), .pointer (some ⟨1, 0, none⟩)], [some (.inl (76, [.pointer (some ⟨2, 0, none⟩), .int .i64 ti, .int .i64 tg])), some (.inl (76, [.pointer (some ⟨2, 0, none⟩), .int .i64 oi, .int .i64 og])), some (.inr (.inr (.inr (.pool m))))] => some ⟨PP m ∧ Gv.JoinD O7 KK m (⟨ti, tg⟩ : Gv.Ref) (⟨oi, og⟩ : Gv.Ref), .bool (Gv.joinF O7 KK m (⟨ti, tg⟩ : Gv.Ref) (⟨oi, og⟩ : Gv.Ref)).1, none, [some (.inl (76, [.pointer (some ⟨2, 0, none⟩), .int .i64 (Gv.joinF O7 KK m (⟨ti, tg⟩ : Gv.Ref) (⟨oi, og⟩ : Gv.Ref)).2.1.i, .int .i64 (Gv.joinF O7 KK m (⟨ti, tg⟩ : Gv.Ref) (⟨oi, og⟩ : Gv.Ref)).2.1.g])), some (.inl (76, [.pointer (some ⟨2, 0, none⟩), .int .i64 (Gv.joinF O7 KK m (⟨ti, tg⟩ : Gv.Ref) (⟨oi, og⟩ : Gv.Ref)).2.2.1.i, .int .i64 (Gv.joinF O7 KK m (⟨ti, tg⟩ : Gv.Ref) (⟨oi, og⟩ : Gv.Ref)).2.2.1.g])), some (.inr (.inr (.inr (.pool (Gv.joinF O7 KK m (⟨ti, tg⟩ : Gv.Ref) (⟨oi, og⟩ : Gv.Ref)).2.2.2))))], [], [(0, 0)]⟩
  | _, _ => none
theorem rjoin3_ok : ConOk D2 Try.prog 32 (con1 rjoin3P) := by
  refine res_up (c := con1 (join3P KK)) (join3_ok KK) fun args hh x hx => ?_
  unfold rjoin3P at hx
  split at hx
  · rename_i ti tg oi og m
    injection hx with hx
    subst hx
    refine ⟨Nat.le_refl _, noLit rfl, (fun hw => by cases hw), fun hv => ⟨⟨_, .inl ⟨rfl, rfl⟩, rfl, ?_, ?_, ?_⟩, rfl, rfl⟩⟩
    · exact hv
    · rfl
    · rfl
  · cases hx
def rjoinP : Prim Rt := orP rjoin3P (orP rjoin2P (orP rjoin1P rjoin0P))
theorem rjoin_ok : ConOk D2 Try.prog 32 (con1 rjoinP) := orP_ok rjoin3_ok (orP_ok rjoin2_ok (orP_ok rjoin1_ok rjoin0_ok))
end Go.Proofs.Ytclagkjjgmeifaa.G7


/- grove: the law GroveParts: what it calls. -/
namespace Go.Proofs.Ytclagkjjgmeifaa.G7
open Go.Proofs.Ytclagkjjgmeifaa.Rx Go.Proofs.Ytclagkjjgmeifaa.D7
set_option linter.unusedVariables false
set_option linter.unusedSimpArgs false
set_option maxRecDepth 100000
set_option maxHeartbeats 16000000
theorem viewC_when {R : Type} (ro : Nat → Bool) (c : Con R) (h : ∀ a hh, c.when a hh = none) : ∀ a hh, (viewC ro c).when a hh = none := fun a hh => by
  show viewW ro c.when a hh = none
  unfold viewW
  split <;> simp [h]
def alikesC : Con Rt := orC (liftV zY2 2 (con1 ralikeP)) (liftC zN 2 (con1 ralike0P))
theorem alikes_ok : ConOkK D2 Try.prog 21 alikesC :=
  orC_ok (liftV_ok _ _ ralike_ok) (liftC_ok _ _ ralike0_ok) (liftC_when _ _ _ (viewC_when _ _ (liftC_when _ _ _ fun _ _ => rfl))) (liftC_when _ _ _ fun _ _ => rfl)
def TP7 : Tab Rt := [(9, liftC zN 2 (con1 awakeP)), (10, liftV Ti.z0 2 (con1 smallP)), (22, liftV Ti.z0 2 (con1 madeP)), (19, liftV Ti.z0 2 (con1 D7.rankP)),
  (31, liftC zN 2 (con1 tsplitP)), (21, alikesC), (32, liftC zN 2 (con1 rjoinP)),
  (11, liftC zN 2 (con1 tnewP)), (13, liftC zN 2 (con1 rputP)), (14, liftV Ti.z0 2 (con1 D7.putVP)),
  (24, liftC zN 2 (con1 rbetP)), (23, liftV Ti.z0 2 (con1 D7.wsP)), (25, liftV Ti.z0 2 (con1 D7.sumP))]
theorem TP7_ok : TabOk D2 Try.prog TP7 := ⟨liftC_ok _ _ awake_ok, liftV_ok _ _ small_ok, liftV_ok _ _ made_run_ok, liftV_ok _ _ D7.rank_ok, liftC_ok _ _ tsplit_ok, alikes_ok, liftC_ok _ _ rjoin_ok, liftC_ok _ _ tnew_ok, liftC_ok _ _ rput_ok, liftV_ok _ _ D7.putV_ok,
  liftC_ok _ _ rbet_ok, liftV_ok _ _ D7.ws_ok, liftV_ok _ _ D7.sum_ok, trivial⟩
abbrev cT {R : Type} (p : Nat) (x : Gv.Ref) : Option (SB R) := some (.inl (76, [.pointer (some ⟨p, 0, none⟩), .int .i64 x.i, .int .i64 x.g]))
abbrev pT (m : Pl) : Option (SB Rt) := some (.inr (.inr (.inr (.pool m))))
abbrev GP (G : Value → Hp Rt → Prop) := retK Try.prog Try.f6.results.toList G
end Go.Proofs.Ytclagkjjgmeifaa.G7


/- grove: the law GroveParts: parted, and what is asked of both. -/
namespace Go.Proofs.Ytclagkjjgmeifaa.G7
open Go.Proofs.Ytclagkjjgmeifaa.Rx Go.Proofs.Ytclagkjjgmeifaa.D7
set_option linter.unusedVariables false
set_option linter.unusedSimpArgs false
set_option maxRecDepth 100000
set_option maxHeartbeats 16000000
theorem parts2 {G : Value → Hp Rt → Prop} {a b : Acts} {key : Int} {L : List El} {k n : Nat} {m : Pl} {x y : Gv.Ref} (hk : k = rk L key) (hs : Gv.SrtE O7 L) (hl : L.length ≤ 50) (hn : n ≤ 60) (hp : P7 n m x y (L.take k) (L.drop k) 200)
    (next : ∀ m', P7 n m' x y (L.take k) (L.drop k) 200 → At D2 Try.prog (codeOf Try.f6) 2 (GP G) [.inl [1, 1, 1, 1, 1, 1, 1, 1]] ⟨frame [1, 2, 7, 8, 10, 11] [.int .i64 key, .slice (some ⟨1, 0, some 3000⟩) b.i.length 0, .pointer (some ⟨2, 0, none⟩), .slice (some ⟨3, 0, some 2000⟩) L.length 0, .int .i64 k, .pointer (some ⟨5, 0, none⟩)] 0 186, [], [some (.inr (.inr (.inl (actsRow a)))), some (.inr (.inr (.inl (actsRow b)))), cT 4 x, rE (ks L) (wsL L), pT m', cT 4 y]⟩) :
    At D2 Try.prog (codeOf Try.f6) 2 (GP G) [.inl [1, 1, 1, 1, 1, 1]] ⟨frame [1, 2, 7, 8, 10, 11] [.int .i64 key, .slice (some ⟨1, 0, some 3000⟩) b.i.length 0, .pointer (some ⟨2, 0, none⟩), .slice (some ⟨3, 0, some 2000⟩) L.length 0, .int .i64 k, .pointer (some ⟨5, 0, none⟩)] 0 186, [], [some (.inr (.inr (.inl (actsRow a)))), some (.inr (.inr (.inl (actsRow b)))), cT 4 x, rE (ks L) (wsL L), pT m, cT 4 y]⟩ := by
  have hkl : k ≤ L.length := by rw [hk]; have := rkC_le (ks L) key; rwa [List.length_map] at this
  have kl : (ks L).length = L.length := List.length_map _
  have wl : (wsL L).length = L.length := List.length_map _
  have n1 : ((k : Nat) : Int).toNat = k := Int.toNat_natCast k
  have n2 : ((L.length : Int) - (k : Int)).toNat = L.length - k := by omega
  have q1 : cut (ks L) 0 k = ks (L.take k) := by unfold cut ks; simp [List.map_take]
  have q2 : cut (wsL L) 0 k = wsL (L.take k) := by unfold cut wsL; simp [List.map_take]
  have q3 : cut (ks L) k (L.length - k) = ks (L.drop k) := by rw [cut_drop (by rw [kl]; omega)]; exact (List.map_drop).symm
  have q4 : cut (wsL L) k (L.length - k) = wsL (L.drop k) := by rw [cut_drop (by rw [wl]; omega)]; exact (List.map_drop).symm
  have l1 : (ks (L.take k)).length = k := by unfold ks; rw [List.length_map, List.length_take]; omega
  have l2 : (wsL (L.take k)).length = k := by unfold wsL; rw [List.length_map, List.length_take]; omega
  have l3 : (ks (L.drop k)).length = L.length - k := by unfold ks; rw [List.length_map, List.length_drop]
  have l4 : (wsL (L.drop k)).length = L.length - k := by unfold wsL; rw [List.length_map, List.length_drop]
  have t1 : (L.take k).length = k := by rw [List.length_take]; omega
  have t2 : (L.drop k).length = L.length - k := List.length_drop
  obtain ⟨u1, u2, u3⟩ := hp.alike (K := 5000) (by omega) (L.take k)
  obtain ⟨v1, v2, v3⟩ := u3.swap.alike (K := 5000) (by omega) (L.drop k)
  have w3 := v3.swap
  rw [decide_eq_true rfl] at u2 v2
  refine rxS_ok (T := TP7) [[1, 1, 1, 1, 1, 1, 1]] TP7_ok mixed 200 ?_
  refine as_text (q := let zz12 := Value.pointer (some (Addr.mk 4 0 none)); let zz13 := Value.int IntKind.i64; let zz1 := (↑k : Int); let zz2 := (↑(List.length L) : Int); let zz3 := (cut (ks L) 0 (Int.toNat zz1)); let zz4 := (cut (wsL L) 0 (Int.toNat zz1)); let zz5 := (alikeM 5000 m x); let zz6 := (cut (ks L) (0 + Int.toNat zz1) (Int.toNat (zz2 - zz1))); let zz7 := (cut (wsL L) (0 + Int.toNat zz1) (Int.toNat (zz2 - zz1))); let zz8 := (Value.bool false); let zz9 := (Value.pointer (some (Addr.mk 2 0 none))); let zz10 := (Value.slice (some (Addr.mk 3 0 (some 2000))) (List.length L) 0); let zz11 := (Value.pointer (some (Addr.mk 5 0 none))); Vc ((0 : Int) ≤ zz1 ∧ zz1 ≤ zz2 ∧ 0 + List.length L ≤ List.length (ks L)) ∧ Vc ((0 + Int.toNat zz1 ≤ List.length (ks L) ∧ True) ∧ PP m ∧ AlikeD 5000 m x ∧ Int.toNat zz1 = List.length zz3 ∧ Int.toNat zz1 = List.length zz3 ∧ List.length zz4 = List.length zz3) ∧ ((!alikeB 5000 m x zz3 zz4) = false → Vc (0 = 0 ∧ (0 : Int) ≤ zz1 ∧ zz1 ≤ zz2 ∧ zz2 ≤ zz2 ∧ 0 + List.length L ≤ List.length (ks L)) ∧ Vc ((0 + Int.toNat zz1 + Int.toNat (zz2 - zz1) ≤ List.length (ks L) ∧ True) ∧ PP zz5 ∧ AlikeD 5000 zz5 y ∧ Int.toNat (zz2 - zz1) = List.length zz6 ∧ Int.toNat (zz2 - zz1) = List.length zz6 ∧ List.length zz7 = List.length zz6) ∧ ((!alikeB 5000 zz5 y zz6 zz7) = false → Vc True ∧ (false = false → Vc True ∧ (false = false → Vc True ∧ Vc True ∧ (false = true → Post (G zz8 [some (Sum.inr (Sum.inr (Sum.inl (Row.mk [zz13 0, zz13 0, zz13 0] (List.length (Acts.i a)) [Col.mk (Acts.i a) [] [], Col.mk (Acts.k a) [] [], Col.mk (Acts.w a) [] []])))), some (Sum.inr (Sum.inr (Sum.inl (Row.mk [zz13 0, zz13 0, zz13 0] (List.length (Acts.i b)) [Col.mk (Acts.i b) [] [], Col.mk (Acts.k b) [] [], Col.mk (Acts.w b) [] []])))), some (Sum.inl (76, [zz12, zz13 (Gv.Ref.i x), zz13 (Gv.Ref.g x)])), some (Sum.inr (Sum.inl (38, Row.mk [zz13 0, zz13 0] (List.length (ks L)) [Col.mk (ks L) [] [], Col.mk (wsL L) [] []]))), some (Sum.inr (Sum.inr (Sum.inr (Rt.pool (alikeM 5000 zz5 y))))), some (Sum.inl (76, [zz12, zz13 (Gv.Ref.i y), zz13 (Gv.Ref.g y)])), none, none, some (Sum.inr (Sum.inr (Sum.inr (Rt.tree (TS.new (9 : Int))))))])) ∧ (false = false → At D2 Try.prog (codeOf Try.f6) 2 (GP G) [Sum.inl [1, 1, 1, 1, 1, 1, 1]] (SS.mk [none, some (zz13 key), some (Value.slice (some (Addr.mk 1 0 (some 3000))) (List.length (Acts.i b)) 0), none, none, none, none, some zz9, some zz10, none, some (zz13 zz1), some zz11, none, none, none, none, none, none, none, none, none, none, none, none, none, none, none, none, none, none, none, none, none, none, none, none, none, none, none, none, none, none, none, none, none, some zz11, some zz8, some zz8, some zz9, some zz10, some (zz13 zz1), some (Value.slice (some (Addr.mk 3 0 (some 2000))) (Int.toNat zz1) 0), some (Value.bool (alikeB 5000 m x zz3 zz4)), some (Value.bool !alikeB 5000 m x zz3 zz4), some (Value.bool !alikeB 5000 m x zz3 zz4), some zz8, some zz11, some zz10, some (zz13 zz1), some (Value.slice (some (Addr.mk 3 (0 + Int.toNat zz1) (some 4002000))) (Int.toNat (zz2 - zz1)) 0), some (Value.bool (alikeB 5000 zz5 y zz6 zz7)), some (Value.bool !alikeB 5000 zz5 y zz6 zz7), some (Value.bool !alikeB 5000 zz5 y zz6 zz7), some zz8, some zz9, some zz9, some zz8, some zz8, some zz8, some zz9, some zz8, some zz8, some zz8, some zz9, some (Value.pointer (some (Addr.mk 8 0 none))), some zz8, some zz8, none, none, none, none, none, none, none, none, none, none, none, none, none, none, none, none, none, none, none, none, none, none, none, none, none, none, none, none, none, none, none, none, none, none, none, none, none, none, none, none, none, none, none, none, none, none, none, none, none, none, none, none, none, none, none, none, none, none, none, none, none, none, none, none, none, none, none, none, none, none, none, none, none, none, none, none, none, none, none, none, none, none, none, none, none, none, none, none, none, none, none, none, none, none, none, none, none, none, none, none, none, none, none, none, none, none, none, none, none] [(76, false), (72, false), (68, false), (63, false), (55, false), (47, false), (46, false)] [some (Sum.inr (Sum.inr (Sum.inl (Row.mk [zz13 0, zz13 0, zz13 0] (List.length (Acts.i a)) [Col.mk (Acts.i a) [] [], Col.mk (Acts.k a) [] [], Col.mk (Acts.w a) [] []])))), some (Sum.inr (Sum.inr (Sum.inl (Row.mk [zz13 0, zz13 0, zz13 0] (List.length (Acts.i b)) [Col.mk (Acts.i b) [] [], Col.mk (Acts.k b) [] [], Col.mk (Acts.w b) [] []])))), some (Sum.inl (76, [zz12, zz13 (Gv.Ref.i x), zz13 (Gv.Ref.g x)])), some (Sum.inr (Sum.inl (38, Row.mk [zz13 0, zz13 0] (List.length (ks L)) [Col.mk (ks L) [] [], Col.mk (wsL L) [] []]))), some (Sum.inr (Sum.inr (Sum.inr (Rt.pool (alikeM 5000 zz5 y))))), some (Sum.inl (76, [zz12, zz13 (Gv.Ref.i y), zz13 (Gv.Ref.g y)])), none, none, some (Sum.inr (Sum.inr (Sum.inr (Rt.tree (TS.new (9 : Int))))))]))) ∧ (false = true → Post (G zz8 [some (Sum.inr (Sum.inr (Sum.inl (Row.mk [zz13 0, zz13 0, zz13 0] (List.length (Acts.i a)) [Col.mk (Acts.i a) [] [], Col.mk (Acts.k a) [] [], Col.mk (Acts.w a) [] []])))), some (Sum.inr (Sum.inr (Sum.inl (Row.mk [zz13 0, zz13 0, zz13 0] (List.length (Acts.i b)) [Col.mk (Acts.i b) [] [], Col.mk (Acts.k b) [] [], Col.mk (Acts.w b) [] []])))), some (Sum.inl (76, [zz12, zz13 (Gv.Ref.i x), zz13 (Gv.Ref.g x)])), some (Sum.inr (Sum.inl (38, Row.mk [zz13 0, zz13 0] (List.length (ks L)) [Col.mk (ks L) [] [], Col.mk (wsL L) [] []]))), some (Sum.inr (Sum.inr (Sum.inr (Rt.pool (alikeM 5000 zz5 y))))), some (Sum.inl (76, [zz12, zz13 (Gv.Ref.i y), zz13 (Gv.Ref.g y)])), none, none]))) ∧ (false = true → Post (G zz8 [some (Sum.inr (Sum.inr (Sum.inl (Row.mk [zz13 0, zz13 0, zz13 0] (List.length (Acts.i a)) [Col.mk (Acts.i a) [] [], Col.mk (Acts.k a) [] [], Col.mk (Acts.w a) [] []])))), some (Sum.inr (Sum.inr (Sum.inl (Row.mk [zz13 0, zz13 0, zz13 0] (List.length (Acts.i b)) [Col.mk (Acts.i b) [] [], Col.mk (Acts.k b) [] [], Col.mk (Acts.w b) [] []])))), some (Sum.inl (76, [zz12, zz13 (Gv.Ref.i x), zz13 (Gv.Ref.g x)])), some (Sum.inr (Sum.inl (38, Row.mk [zz13 0, zz13 0] (List.length (ks L)) [Col.mk (ks L) [] [], Col.mk (wsL L) [] []]))), some (Sum.inr (Sum.inr (Sum.inr (Rt.pool (alikeM 5000 zz5 y))))), some (Sum.inl (76, [zz12, zz13 (Gv.Ref.i y), zz13 (Gv.Ref.g y)])), none, none]))) ∧ ((!alikeB 5000 zz5 y zz6 zz7) = true → Post (G zz8 [some (Sum.inr (Sum.inr (Sum.inl (Row.mk [zz13 0, zz13 0, zz13 0] (List.length (Acts.i a)) [Col.mk (Acts.i a) [] [], Col.mk (Acts.k a) [] [], Col.mk (Acts.w a) [] []])))), some (Sum.inr (Sum.inr (Sum.inl (Row.mk [zz13 0, zz13 0, zz13 0] (List.length (Acts.i b)) [Col.mk (Acts.i b) [] [], Col.mk (Acts.k b) [] [], Col.mk (Acts.w b) [] []])))), some (Sum.inl (76, [zz12, zz13 (Gv.Ref.i x), zz13 (Gv.Ref.g x)])), some (Sum.inr (Sum.inl (38, Row.mk [zz13 0, zz13 0] (List.length (ks L)) [Col.mk (ks L) [] [], Col.mk (wsL L) [] []]))), some (Sum.inr (Sum.inr (Sum.inr (Rt.pool (alikeM 5000 zz5 y))))), some (Sum.inl (76, [zz12, zz13 (Gv.Ref.i y), zz13 (Gv.Ref.g y)])), none, none]))) ∧ ((!alikeB 5000 m x zz3 zz4) = true → Post (G zz8 [some (Sum.inr (Sum.inr (Sum.inl (Row.mk [zz13 0, zz13 0, zz13 0] (List.length (Acts.i a)) [Col.mk (Acts.i a) [] [], Col.mk (Acts.k a) [] [], Col.mk (Acts.w a) [] []])))), some (Sum.inr (Sum.inr (Sum.inl (Row.mk [zz13 0, zz13 0, zz13 0] (List.length (Acts.i b)) [Col.mk (Acts.i b) [] [], Col.mk (Acts.k b) [] [], Col.mk (Acts.w b) [] []])))), some (Sum.inl (76, [zz12, zz13 (Gv.Ref.i x), zz13 (Gv.Ref.g x)])), some (Sum.inr (Sum.inl (38, Row.mk [zz13 0, zz13 0] (List.length (ks L)) [Col.mk (ks L) [] [], Col.mk (wsL L) [] []]))), some (Sum.inr (Sum.inr (Sum.inr (Rt.pool zz5)))), some (Sum.inl (76, [zz12, zz13 (Gv.Ref.i y), zz13 (Gv.Ref.g y)])), none]))) ?_ (by kernel_rfl)
  intro zz12 zz13 zz1 zz2 zz3 zz4 zz5 zz6 zz7 zz8 zz9 zz10 zz11; subst zz11 zz10 zz9 zz8 zz7 zz6 zz5 zz4 zz3 zz2 zz1 zz13 zz12
  simp only [n1, n2, Nat.zero_add, q1, q2, q3, q4, l1, l2, l3, l4, u2, v2]
  refine ⟨⟨by omega, by omega, by omega⟩, ⟨⟨⟨by omega, trivial⟩, hp.ok (by omega), u1, trivial, trivial, trivial⟩, ⟨fun _ => ⟨⟨trivial, by omega, by omega, Int.le_refl _, by omega⟩, ⟨⟨⟨by omega, trivial⟩, u3.ok (by omega), v1, trivial, trivial, trivial⟩, ⟨fun _ => ⟨⟨trivial⟩, ⟨fun _ => ⟨⟨trivial⟩, ⟨fun _ => ⟨⟨trivial⟩, ⟨⟨trivial⟩, ⟨fun h => (by cases h), fun _ => ?_⟩⟩⟩, fun h => (by cases h)⟩⟩, fun h => (by cases h)⟩⟩, fun h => (by cases h)⟩⟩⟩, fun h => (by cases h)⟩⟩⟩
  refine At.fit [1, 2, 7, 8, 10, 11] [.int .i64 key, .slice (some ⟨1, 0, some 3000⟩) b.i.length 0, .pointer (some ⟨2, 0, none⟩), .slice (some ⟨3, 0, some 2000⟩) L.length 0, .int .i64 k, .pointer (some ⟨5, 0, none⟩)] [some (.inr (.inr (.inl (actsRow a)))), some (.inr (.inr (.inl (actsRow b)))), cT 4 x, rE (ks L) (wsL L), pT (alikeM 5000 (alikeM 5000 m x) y), cT 4 y] 186 ⟨rfl, rfl, Nat.le_add_left 2 4⟩ ⟨[0, 1, 2, 3, 4, 5], rfl, ?_, rfl, rfl, rfl, rfl⟩ ?_
  · exact ⟨rfl, rfl, .inl rfl, ⟨_, rfl, .inl rfl⟩, rfl, .inl rfl, trivial⟩
  clear u1 u2 v1 v2
  generalize alikeM 5000 (alikeM 5000 m x) y = m2 at w3 ⊢
  clear hp u3 v3
  refine rxS_ok (T := TP7) [[1, 1, 1, 1, 1, 1, 1, 1]] TP7_ok mixed 200 ?_
  refine as_text (q := let zz11 := Value.pointer (some (Addr.mk 4 0 none)); let zz12 := Value.int IntKind.i64; let zz1 := (Gv.joinF O7 5000 m2 y x); let zz2 := (Value.bool false); let zz3 := (Value.slice (some (Addr.mk 1 0 (some 3000))) (List.length (Acts.i b)) 0); let zz4 := (Value.pointer (some (Addr.mk 2 0 none))); let zz5 := (Value.slice (some (Addr.mk 3 0 (some 2000))) (List.length L) 0); let zz6 := (zz12 (↑k : Int)); let zz7 := (Value.pointer (some (Addr.mk 5 0 none))); let zz8 := (Value.bool (decide ((↑k : Int) > (0 : Int)))); let zz9 := (Value.bool (decide ((↑k : Int) < (↑(List.length L) : Int)))); let zz10 := (Value.tuple (Array.mk [])); (decide ((↑k : Int) > (0 : Int)) = true → (decide ((↑k : Int) < (↑(List.length L) : Int)) = true → Vc (PP m2 ∧ Gv.JoinD O7 5000 m2 y x) ∧ (Prod.fst zz1 = true → Post (G zz2 [some (Sum.inr (Sum.inr (Sum.inl (Row.mk [zz12 0, zz12 0, zz12 0] (List.length (Acts.i a)) [Col.mk (Acts.i a) [] [], Col.mk (Acts.k a) [] [], Col.mk (Acts.w a) [] []])))), some (Sum.inr (Sum.inr (Sum.inl (Row.mk [zz12 0, zz12 0, zz12 0] (List.length (Acts.i b)) [Col.mk (Acts.i b) [] [], Col.mk (Acts.k b) [] [], Col.mk (Acts.w b) [] []])))), some (Sum.inl (76, [zz11, zz12 (Gv.Ref.i (Prod.fst (Prod.snd (Prod.snd zz1)))), zz12 (Gv.Ref.g (Prod.fst (Prod.snd (Prod.snd zz1))))])), some (Sum.inr (Sum.inl (38, Row.mk [zz12 0, zz12 0] (List.length (ks L)) [Col.mk (ks L) [] [], Col.mk (wsL L) [] []]))), some (Sum.inr (Sum.inr (Sum.inr (Rt.pool (Prod.snd (Prod.snd (Prod.snd zz1))))))), some (Sum.inl (76, [zz11, zz12 (Gv.Ref.i (Prod.fst (Prod.snd zz1))), zz12 (Gv.Ref.g (Prod.fst (Prod.snd zz1)))]))])) ∧ (Prod.fst zz1 = false → At D2 Try.prog (codeOf Try.f6) 2 (GP G) [Sum.inl [1, 1, 1, 1, 1, 1, 1, 1]] (SS.mk [none, some (zz12 key), some zz3, none, none, none, none, some zz4, some zz5, none, some zz6, some zz7, none, none, none, none, none, none, none, none, none, none, none, none, none, none, none, none, none, none, none, none, none, none, none, none, none, none, none, none, none, none, none, none, none, none, none, none, none, none, none, none, none, none, none, none, none, none, none, none, none, none, none, none, none, none, none, none, none, none, none, none, none, none, none, none, none, some zz6, some zz8, some (Value.bool true), some zz6, some zz5, some (zz12 (↑(List.length L) : Int)), some zz9, some zz9, some (Value.bool true), some zz7, some zz4, some (Value.bool (Prod.fst zz1)), some zz2, none, none, none, none, none, none, none, none, none, none, none, none, none, none, none, none, none, none, none, none, none, none, none, none, none, none, none, none, none, none, none, none, none, none, none, none, none, none, none, none, none, none, none, none, none, none, none, none, none, none, none, none, none, none, none, none, none, none, none, none, none, none, none, none, none, none, none, none, none, none, none, none, none, none, none, none, none, none, none, none, none, none, none, none, none, none, none, none, none, none, none, none, none, none, none, none] [(89, false), (85, true), (79, true)] [some (Sum.inr (Sum.inr (Sum.inl (Row.mk [zz12 0, zz12 0, zz12 0] (List.length (Acts.i a)) [Col.mk (Acts.i a) [] [], Col.mk (Acts.k a) [] [], Col.mk (Acts.w a) [] []])))), some (Sum.inr (Sum.inr (Sum.inl (Row.mk [zz12 0, zz12 0, zz12 0] (List.length (Acts.i b)) [Col.mk (Acts.i b) [] [], Col.mk (Acts.k b) [] [], Col.mk (Acts.w b) [] []])))), some (Sum.inl (76, [zz11, zz12 (Gv.Ref.i (Prod.fst (Prod.snd (Prod.snd zz1)))), zz12 (Gv.Ref.g (Prod.fst (Prod.snd (Prod.snd zz1))))])), some (Sum.inr (Sum.inl (38, Row.mk [zz12 0, zz12 0] (List.length (ks L)) [Col.mk (ks L) [] [], Col.mk (wsL L) [] []]))), some (Sum.inr (Sum.inr (Sum.inr (Rt.pool (Prod.snd (Prod.snd (Prod.snd zz1))))))), some (Sum.inl (76, [zz11, zz12 (Gv.Ref.i (Prod.fst (Prod.snd zz1))), zz12 (Gv.Ref.g (Prod.fst (Prod.snd zz1)))]))]))) ∧ (decide ((↑k : Int) < (↑(List.length L) : Int)) = false → At D2 Try.prog (codeOf Try.f6) 2 (GP G) [Sum.inl [1, 1, 1, 1, 1, 1, 1, 1]] (SS.mk [none, some (zz12 key), some zz3, none, none, none, none, some zz4, some zz5, none, some zz6, some zz7, none, none, none, none, none, none, none, none, none, none, none, none, none, none, none, none, none, none, none, none, none, none, none, none, none, none, none, none, none, none, none, none, none, none, none, none, none, none, none, none, none, none, none, none, none, none, none, none, none, none, none, none, none, none, none, none, none, none, none, none, none, none, none, none, none, some zz6, some zz8, some (Value.bool true), some zz6, some zz5, some (zz12 (↑(List.length L) : Int)), some zz9, some zz9, some zz2, some zz10, some zz10, some zz10, some zz2, none, none, none, none, none, none, none, none, none, none, none, none, none, none, none, none, none, none, none, none, none, none, none, none, none, none, none, none, none, none, none, none, none, none, none, none, none, none, none, none, none, none, none, none, none, none, none, none, none, none, none, none, none, none, none, none, none, none, none, none, none, none, none, none, none, none, none, none, none, none, none, none, none, none, none, none, none, none, none, none, none, none, none, none, none, none, none, none, none, none, none, none, none, none, none, none] [(89, false), (85, false), (79, true)] [some (Sum.inr (Sum.inr (Sum.inl (Row.mk [zz12 0, zz12 0, zz12 0] (List.length (Acts.i a)) [Col.mk (Acts.i a) [] [], Col.mk (Acts.k a) [] [], Col.mk (Acts.w a) [] []])))), some (Sum.inr (Sum.inr (Sum.inl (Row.mk [zz12 0, zz12 0, zz12 0] (List.length (Acts.i b)) [Col.mk (Acts.i b) [] [], Col.mk (Acts.k b) [] [], Col.mk (Acts.w b) [] []])))), some (Sum.inl (76, [zz11, zz12 (Gv.Ref.i x), zz12 (Gv.Ref.g x)])), some (Sum.inr (Sum.inl (38, Row.mk [zz12 0, zz12 0] (List.length (ks L)) [Col.mk (ks L) [] [], Col.mk (wsL L) [] []]))), some (Sum.inr (Sum.inr (Sum.inr (Rt.pool m2)))), some (Sum.inl (76, [zz11, zz12 (Gv.Ref.i y), zz12 (Gv.Ref.g y)]))]))) ∧ (decide ((↑k : Int) > (0 : Int)) = false → At D2 Try.prog (codeOf Try.f6) 2 (GP G) [Sum.inl [1, 1, 1, 1, 1, 1, 1, 1]] (SS.mk [none, some (zz12 key), some zz3, none, none, none, none, some zz4, some zz5, none, some zz6, some zz7, none, none, none, none, none, none, none, none, none, none, none, none, none, none, none, none, none, none, none, none, none, none, none, none, none, none, none, none, none, none, none, none, none, none, none, none, none, none, none, none, none, none, none, none, none, none, none, none, none, none, none, none, none, none, none, none, none, none, none, none, none, none, none, none, none, some zz6, some zz8, some zz2, some zz10, some zz10, some zz10, some zz10, some zz2, some zz2, some zz10, some zz10, some zz10, some zz2, none, none, none, none, none, none, none, none, none, none, none, none, none, none, none, none, none, none, none, none, none, none, none, none, none, none, none, none, none, none, none, none, none, none, none, none, none, none, none, none, none, none, none, none, none, none, none, none, none, none, none, none, none, none, none, none, none, none, none, none, none, none, none, none, none, none, none, none, none, none, none, none, none, none, none, none, none, none, none, none, none, none, none, none, none, none, none, none, none, none, none, none, none, none, none, none] [(89, false), (85, false), (84, false), (79, false)] [some (Sum.inr (Sum.inr (Sum.inl (Row.mk [zz12 0, zz12 0, zz12 0] (List.length (Acts.i a)) [Col.mk (Acts.i a) [] [], Col.mk (Acts.k a) [] [], Col.mk (Acts.w a) [] []])))), some (Sum.inr (Sum.inr (Sum.inl (Row.mk [zz12 0, zz12 0, zz12 0] (List.length (Acts.i b)) [Col.mk (Acts.i b) [] [], Col.mk (Acts.k b) [] [], Col.mk (Acts.w b) [] []])))), some (Sum.inl (76, [zz11, zz12 (Gv.Ref.i x), zz12 (Gv.Ref.g x)])), some (Sum.inr (Sum.inl (38, Row.mk [zz12 0, zz12 0] (List.length (ks L)) [Col.mk (ks L) [] [], Col.mk (wsL L) [] []]))), some (Sum.inr (Sum.inr (Sum.inr (Rt.pool m2)))), some (Sum.inl (76, [zz11, zz12 (Gv.Ref.i y), zz12 (Gv.Ref.g y)]))]))) ?_ (by kernel_rfl)
  intro zz11 zz12 zz1 zz2 zz3 zz4 zz5 zz6 zz7 zz8 zz9 zz10; subst zz10 zz9 zz8 zz7 zz6 zz5 zz4 zz3 zz2 zz1 zz12 zz11
  have hgd : good7 (L.drop k ++ L.take k) := ⟨by rw [List.length_map, List.length_append, t1, t2]; omega, fun v hv => by
    rw [List.map_append] at hv
    rcases List.mem_append.1 hv with hv | hv
    · exact w3.swap.good.2 v hv
    · exact w3.good.2 v hv⟩
  have ah : 0 < k → k < L.length → Gv.aheadE O7 (L.drop k) (L.take k) = false := fun h1 h2 => by
    unfold Gv.aheadE
    refine decide_eq_false ?_
    rintro (h | h | h)
    · rw [h] at t2; simp at t2; omega
    · rw [h] at t1; simp at t1; omega
    · have h3 := (cmp_neg _ _).1 ((List.pairwise_iff_getElem.1 hs) 0 (L.length - 1) (by omega) (by omega) (by omega))
      have h4 := (cmp_neg _ _).1 h
      have e1 : (L.drop k).getD ((L.drop k).length - 1) O7.e0 = L[L.length - 1] := by
        rw [t2, List.getD_eq_getElem?_getD, List.getElem?_drop, show k + (L.length - k - 1) = L.length - 1 by omega, List.getElem?_eq_getElem (by omega)]; rfl
      have e2 : (L.take k).getD 0 O7.e0 = L[0] := by
        rw [List.getD_eq_getElem?_getD, List.getElem?_take, if_pos h1, List.getElem?_eq_getElem (by omega)]; rfl
      rw [e1, e2] at h4
      omega
  refine ⟨fun h1 => ⟨fun h2 => ?_, fun _ => ?_⟩, fun _ => ?_⟩
  · have h1 := of_decide_eq_true h1
    have h2 := of_decide_eq_true h2
    obtain ⟨j1, _, j3⟩ := w3.swap.join (K := 5000) (by omega) hgd (by omega)
    obtain ⟨m', j4, j5⟩ := j3 (ah (by omega) (by omega))
    rw [j4]
    refine ⟨⟨w3.ok (by omega), j1⟩, ⟨(fun h => by cases h), fun _ => ?_⟩⟩
    refine At.fit [1, 2, 7, 8, 10, 11] [.int .i64 key, .slice (some ⟨1, 0, some 3000⟩) b.i.length 0, .pointer (some ⟨2, 0, none⟩), .slice (some ⟨3, 0, some 2000⟩) L.length 0, .int .i64 k, .pointer (some ⟨5, 0, none⟩)] [some (.inr (.inr (.inl (actsRow a)))), some (.inr (.inr (.inl (actsRow b)))), cT 4 x, rE (ks L) (wsL L), pT m', cT 4 y] 186 ⟨rfl, rfl, Nat.le_add_left 2 4⟩ ⟨[0, 1, 2, 3, 4, 5], rfl, ⟨rfl, rfl, .inl rfl, ⟨_, rfl, .inl rfl⟩, rfl, .inl rfl, trivial⟩, rfl, rfl, rfl, rfl⟩ (next m' j5.swap)
  all_goals exact At.fit [1, 2, 7, 8, 10, 11] [.int .i64 key, .slice (some ⟨1, 0, some 3000⟩) b.i.length 0, .pointer (some ⟨2, 0, none⟩), .slice (some ⟨3, 0, some 2000⟩) L.length 0, .int .i64 k, .pointer (some ⟨5, 0, none⟩)] [some (.inr (.inr (.inl (actsRow a)))), some (.inr (.inr (.inl (actsRow b)))), cT 4 x, rE (ks L) (wsL L), pT m2, cT 4 y] 186 ⟨rfl, rfl, Nat.le_add_left 2 4⟩ ⟨[0, 1, 2, 3, 4, 5], rfl, ⟨rfl, rfl, .inl rfl, ⟨_, rfl, .inl rfl⟩, rfl, .inl rfl, trivial⟩, rfl, rfl, rfl, rfl⟩ (next m2 w3)
end Go.Proofs.Ytclagkjjgmeifaa.G7


/- grove: the law GroveParts: its loop. -/
namespace Go.Proofs.Ytclagkjjgmeifaa.G7
open Go.Proofs.Ytclagkjjgmeifaa.Rx Go.Proofs.Ytclagkjjgmeifaa.D7
set_option linter.unusedVariables false
set_option linter.unusedSimpArgs false
set_option maxRecDepth 100000
set_option maxHeartbeats 16000000
abbrev rN (l : List El) : Option (SB Rt) := some (.inr (.inl (38, ⟨[.int .i64 0, .int .i64 0], l.length, [⟨ks l, [], []⟩, ⟨wsL l, [], []⟩]⟩)))
/-- what the law's loop holds -/
structure W7 where
  i : Nat
  A : List El
  B : List El
  x : Gv.Ref
  y : Gv.Ref
  m : Pl
  oa : Bool
  ob : Bool
def W7.sa (s : W7) (k : Nat) : Value := match s.oa with
  | false => .slice (some ⟨3, 0, some 2000⟩) k 0
  | true => .slice (some ⟨6, 0, some 2000⟩) s.A.length 0
def W7.sb (s : W7) (k n : Nat) : Value := match s.ob with
  | false => .slice (some ⟨3, k, some 4002000⟩) (n - k) 0
  | true => .slice (some ⟨7, 0, some 2000⟩) s.B.length 0
def W7.ra (s : W7) : Option (SB Rt) := match s.oa with
  | false => none
  | true => rN s.A
def W7.rb (s : W7) : Option (SB Rt) := match s.ob with
  | false => none
  | true => rN s.B
structure W7.Ok (s : W7) (b : Acts) (key : Int) (L : List El) (k n : Nat) : Prop where
  i : s.i ≤ b.i.length
  p : P7 (n + s.i) s.m s.x s.y s.A s.B 200
  la : s.A.length + s.B.length ≤ 50 + s.i
  a : ∀ e ∈ s.A, e.k < key
  b : ∀ e ∈ s.B, key ≤ e.k
  na : s.oa = false → s.A = L.take k
  nb : s.ob = false → s.B = L.drop k
theorem split_keys {key : Int} : ∀ {L : List El}, Gv.SrtE O7 L → (∀ e ∈ L.take (rk L key), e.k < key) ∧ (∀ e ∈ L.drop (rk L key), key ≤ e.k)
  | [], _ => ⟨fun e he => by simp at he, fun e he => by simp at he⟩
  | x :: l, hs => by
    obtain ⟨h1, h2⟩ := List.pairwise_cons.1 hs
    have ih := split_keys (key := key) h2
    have e : rk (x :: l) key = if x.k < key then rk l key + 1 else 0 := by unfold rk ks; rw [List.map_cons, rkC_cons]
    rw [e]
    split
    · rename_i hx
      rw [List.take_succ_cons, List.drop_succ_cons]
      refine ⟨fun e he => ?_, ih.2⟩
      rcases List.mem_cons.1 he with rfl | he
      · exact hx
      · exact ih.1 e he
    · rename_i hx
      refine ⟨fun e he => by simp at he, fun e he => ?_⟩
      rw [List.drop_zero] at he
      rcases List.mem_cons.1 he with rfl | he
      · omega
      · have := (cmp_neg _ _).1 (h1 e he); omega
theorem putE_mem {e x : El} {l : List El} (h : x ∈ Gv.putE O7 e l) : x = e ∨ x ∈ l := by
  rw [putE7] at h
  rcases List.mem_append.1 h with h | h
  · exact .inr (List.mem_of_mem_take h)
  · rcases List.mem_cons.1 h with h | h
    · exact .inl h
    · exact .inr (List.mem_of_mem_drop h)
theorem putE_len (e : El) (l : List El) : (Gv.putE O7 e l).length ≤ l.length + 1 := by
  rw [putE7, List.length_append, List.length_cons, List.length_take, List.length_drop]
  have h : rk l e.k ≤ l.length := by have := rkC_le (ks l) e.k; rwa [List.length_map] at this
  split <;> omega
section
variable {s : W7} {b : Acts} {key : Int} {L : List El} {k n : Nat} {e : El}
theorem W7.Ok.putA (h : s.Ok b key L k n) (hi : s.i < b.i.length) (hbl : b.i.length ≤ 20) (hn : n ≤ 60) (hw : -1000000 ≤ e.w ∧ e.w ≤ 1000000) (he : e.k < key) :
    PP s.m ∧ Gv.PutD O7 5000 s.m s.x e ∧ ∃ f r' m', Gv.putF O7 5000 s.m s.x e = (f, r', m') ∧ W7.Ok ⟨s.i + 1, Gv.putE O7 e s.A, s.B, r', s.y, m', true, s.ob⟩ b key L k n := by
  have hla := h.la
  obtain ⟨d, r', m', e1, e2, _⟩ := h.p.put (K := 5000) (e := e) (by omega) (by omega) hw (by omega)
  have hc : decide (((s.A.length + s.B.length : Nat) : Int) ≠ 200) = true := decide_eq_true (by omega)
  rw [hc, Bool.or_true, if_pos rfl] at e2
  have hl := putE_len e s.A
  refine ⟨h.p.ok (by omega), d, _, r', m', e1, hi, e2, by simp only; omega, fun x hx => ?_, h.b, (fun h => by cases h), h.nb⟩
  rcases putE_mem hx with rfl | hx
  · exact he
  · exact h.a x hx
theorem W7.Ok.putB (h : s.Ok b key L k n) (hi : s.i < b.i.length) (hbl : b.i.length ≤ 20) (hn : n ≤ 60) (hw : -1000000 ≤ e.w ∧ e.w ≤ 1000000) (he : key ≤ e.k) :
    PP s.m ∧ Gv.PutD O7 5000 s.m s.y e ∧ ∃ f r' m', Gv.putF O7 5000 s.m s.y e = (f, r', m') ∧ W7.Ok ⟨s.i + 1, s.A, Gv.putE O7 e s.B, s.x, r', m', s.oa, true⟩ b key L k n := by
  have hla := h.la
  obtain ⟨d, r', m', e1, e2, _⟩ := h.p.swap.put (K := 5000) (e := e) (by omega) (by omega) hw (by omega)
  have hc : decide (((s.B.length + s.A.length : Nat) : Int) ≠ 200) = true := decide_eq_true (by omega)
  rw [hc, Bool.or_true, if_pos rfl] at e2
  have hl := putE_len e s.B
  refine ⟨h.p.ok (by omega), d, _, r', m', e1, hi, e2.swap, by simp only; omega, h.a, fun x hx => ?_, h.na, (fun h => by cases h)⟩
  rcases putE_mem hx with rfl | hx
  · exact he
  · exact h.b x hx
end
theorem parts3 {G : Value → Hp Rt → Prop} {a b : Acts} {key : Int} {L : List El} {k n : Nat} {m : Pl} {x y : Gv.Ref} (hb : b.Ok) (hm : Mild b.w) (hbl : b.i.length ≤ 20) (hk : k = rk L key) (hs : Gv.SrtE O7 L) (hl : L.length ≤ 50) (hn : n ≤ 60) (hp : P7 n m x y (L.take k) (L.drop k) 200)
    (next : ∀ s : W7, s.Ok b key L k n → At D2 Try.prog (codeOf Try.f6) 2 (GP G) [.inl [1, 1, 1, 1, 1, 1, 1, 1, 1, 1]] ⟨frame [7, 11, 12, 13] [.pointer (some ⟨2, 0, none⟩), .pointer (some ⟨5, 0, none⟩), s.sa k, s.sb k L.length] 0 186, [], [some (.inr (.inr (.inl (actsRow a)))), some (.inr (.inr (.inl (actsRow b)))), cT 4 s.x, rE (ks L) (wsL L), pT s.m, cT 4 s.y, s.ra, s.rb]⟩) :
    At D2 Try.prog (codeOf Try.f6) 2 (GP G) [.inl [1, 1, 1, 1, 1, 1, 1, 1]] ⟨frame [1, 2, 7, 8, 10, 11] [.int .i64 key, .slice (some ⟨1, 0, some 3000⟩) b.i.length 0, .pointer (some ⟨2, 0, none⟩), .slice (some ⟨3, 0, some 2000⟩) L.length 0, .int .i64 k, .pointer (some ⟨5, 0, none⟩)] 0 186, [], [some (.inr (.inr (.inl (actsRow a)))), some (.inr (.inr (.inl (actsRow b)))), cT 4 x, rE (ks L) (wsL L), pT m, cT 4 y]⟩ := by
  have hkl : k ≤ L.length := by rw [hk]; have := rkC_le (ks L) key; rwa [List.length_map] at this
  have kl : (ks L).length = L.length := List.length_map _
  have n1 : ((k : Nat) : Int).toNat = k := Int.toNat_natCast k
  have n2 : ((L.length : Int) - (k : Int)).toNat = L.length - k := by omega
  have t1 : (L.take k).length = k := by rw [List.length_take]; omega
  have t2 : (L.drop k).length = L.length - k := List.length_drop
  refine rxS_ok (T := TP7) [[1, 1, 1, 1, 1, 1, 1, 1, 1, 0, 1, 0], [1, 1, 1, 1, 1, 1, 1, 1, 1, 1]] TP7_ok mixed 200 ?_
  refine as_text (q := let zz6 := Value.int IntKind.i64; let zz1 := (↑(List.length L) : Int); let zz2 := (Value.slice (some (Addr.mk 3 0 (some 2000))) (List.length L) 0); let zz3 := (zz6 (↑k : Int)); let zz4 := (Value.slice (some (Addr.mk 3 0 (some 2000))) (Int.toNat (↑k : Int)) 0); let zz5 := (Value.slice (some (Addr.mk 3 (0 + Int.toNat (↑k : Int)) (some 4002000))) (Int.toNat (zz1 - (↑k : Int))) 0); Vc ((0 : Int) ≤ (↑k : Int) ∧ (↑k : Int) ≤ zz1 ∧ 0 + List.length L ≤ List.length (ks L)) ∧ Vc (0 = 0 ∧ (0 : Int) ≤ (↑k : Int) ∧ (↑k : Int) ≤ zz1 ∧ zz1 ≤ zz1 ∧ 0 + List.length L ≤ List.length (ks L)) ∧ At D2 Try.prog (codeOf Try.f6) 2 (GP G) [Sum.inl [1, 1, 1, 1, 1, 1, 1, 1, 1, 0, 1, 0], Sum.inr (Sum.inl 0), Sum.inl [1, 1, 1, 1, 1, 1, 1, 1, 1, 1]] (SS.mk [none, some (zz6 key), some (Value.slice (some (Addr.mk 1 0 (some 3000))) (List.length (Acts.i b)) 0), none, none, none, none, some (Value.pointer (some (Addr.mk 2 0 none))), some zz2, none, some zz3, some (Value.pointer (some (Addr.mk 5 0 none))), some zz4, some zz5, some (zz6 0), none, none, none, none, none, none, none, none, none, none, none, none, none, none, none, none, none, none, none, none, none, none, none, none, none, none, none, none, none, none, none, none, none, none, none, none, none, none, none, none, none, none, none, none, none, none, none, none, none, none, none, none, none, none, none, none, none, none, none, none, none, none, none, none, none, none, none, none, none, none, none, none, none, none, none, some zz2, some zz3, some zz4, some zz2, some zz3, some zz5, none, none, none, none, none, none, none, none, none, none, none, none, none, none, none, none, none, none, none, none, none, none, none, none, none, none, none, none, none, none, none, none, none, none, none, none, none, none, none, none, none, none, none, none, none, none, none, none, none, none, none, none, none, none, none, none, none, none, none, none, none, none, none, none, none, none, none, none, none, none, none, none, none, none, none, none, none, none, none, none, none, none, none, none, none, none, none, none, none, none] [] [some (Sum.inr (Sum.inr (Sum.inl (Row.mk [zz6 0, zz6 0, zz6 0] (List.length (Acts.i a)) [Col.mk (Acts.i a) [] [], Col.mk (Acts.k a) [] [], Col.mk (Acts.w a) [] []])))), some (Sum.inr (Sum.inr (Sum.inl (Row.mk [zz6 0, zz6 0, zz6 0] (List.length (Acts.i b)) [Col.mk (Acts.i b) [] [], Col.mk (Acts.k b) [] [], Col.mk (Acts.w b) [] []])))), some (Sum.inl (76, [Value.pointer (some (Addr.mk 4 0 none)), zz6 (Gv.Ref.i x), zz6 (Gv.Ref.g x)])), some (Sum.inr (Sum.inl (38, Row.mk [zz6 0, zz6 0] (List.length (ks L)) [Col.mk (ks L) [] [], Col.mk (wsL L) [] []]))), some (Sum.inr (Sum.inr (Sum.inr (Rt.pool m)))), some (Sum.inl (76, [Value.pointer (some (Addr.mk 4 0 none)), zz6 (Gv.Ref.i y), zz6 (Gv.Ref.g y)]))])) ?_ (by kernel_rfl)
  intro zz6 zz1 zz2 zz3 zz4 zz5; subst zz5 zz4 zz3 zz2 zz1 zz6
  simp only [n1, n2, Nat.zero_add]
  refine ⟨⟨by omega, by omega, by omega⟩, ⟨⟨trivial, by omega, by omega, Int.le_refl _, by omega⟩, ?_⟩⟩
  refine loop_atM (by kernel_rfl) (ι := W7) (fun s => s.Ok b key L k n) [1, 2, 7, 11, 12, 13, 14] (fun s => [.int .i64 key, .slice (some ⟨1, 0, some 3000⟩) b.i.length 0, .pointer (some ⟨2, 0, none⟩), .pointer (some ⟨5, 0, none⟩), s.sa k, s.sb k L.length, .int .i64 s.i])
    (fun s => [some (.inr (.inr (.inl (actsRow a)))), some (.inr (.inr (.inl (actsRow b)))), cT 4 s.x, rE (ks L) (wsL L), pT s.m, cT 4 s.y, s.ra, s.rb]) (fun s => b.i.length - s.i) 186 (fun s _ => ?_)
    ⟨⟨0, L.take k, L.drop k, x, y, m, false, false⟩, ?_, ⟨[0, 1, 2, 3, 4, 5, 6, 7], rfl, ⟨rfl, rfl, .inl rfl, ⟨_, rfl, .inl rfl⟩, rfl, .inl rfl, trivial⟩, rfl, rfl, rfl, rfl⟩⟩ fun s hs' => ?_
  · obtain ⟨i, A, B, x', y', m', oa, ob⟩ := s
    cases oa <;> cases ob <;> exact ⟨rfl, rfl, Nat.le_add_left 2 6⟩
  · have hh := split_keys (key := key) hs
    rw [← hk] at hh
    exact ⟨Nat.zero_le _, hp, by simp only [t1, t2]; omega, hh.1, hh.2, fun _ => rfl, fun _ => rfl⟩
  have wl : (wsL L).length = L.length := List.length_map _
  obtain ⟨i, A, B, x', y', m', oa, ob⟩ := s
  cases oa
  · cases ob
    · dsimp only [W7.sa, W7.sb, W7.ra, W7.rb]
      obtain rfl : A = L.take k := hs'.na rfl
      obtain rfl : B = L.drop k := hs'.nb rfl
      refine rxS_ok (T := TP7) [[1, 1, 1, 1, 1, 1, 1, 1, 1, 1]] TP7_ok mixed 200 ?_
      refine as_text (q := let zz14 := Value.pointer (some (Addr.mk 4 0 none)); let zz15 := Value.pointer (some (Addr.mk 5 0 none)); let zz16 := Value.pointer (some (Addr.mk 2 0 none)); let zz17 := Value.int IntKind.i64; let zz1 := (List.length (Acts.i b)); let zz2 := (List.getD (Acts.k b) (0 + Int.toNat (↑i : Int)) (0 : Int) < key); let zz3 := (List.getD (Acts.k b) (0 + Int.toNat (↑i : Int)) (0 : Int)); let zz4 := (List.getD (Acts.w b) (0 + Int.toNat (↑i : Int)) (0 : Int)); let zz5 := (cut (ks L) 0 k); let zz6 := (List.length L - k); let zz7 := (Value.slice (some (Addr.mk 1 0 (some 3000))) zz1 0); let zz8 := (zz16); let zz9 := (zz15); let zz10 := (Prod.fst (Prod.snd (Gv.putF O7 5000 m' x' (El.mk zz3 zz4)))); let zz11 := (cut (ks L) k zz6); let zz12 := (List.length (putC zz11 (rkC zz11 zz3) (hitC zz11 zz3) zz3)); let zz13 := (Prod.fst (Prod.snd (Gv.putF O7 5000 m' y' (El.mk zz3 zz4)))); (decide ((↑i : Int) < (↑zz1 : Int)) = true → Vc ((0 : Int) ≤ (↑i : Int) ∧ (↑i : Int) < (↑zz1 : Int) ∧ 0 + List.length (Acts.i b) ≤ List.length (Acts.i b)) ∧ Vc (0 + Int.toNat (↑i : Int) < List.length (Acts.i b)) ∧ Vc ((0 : Int) ≤ (↑i : Int) ∧ (↑i : Int) < (↑zz1 : Int) ∧ 0 + List.length (Acts.i b) ≤ List.length (Acts.i b)) ∧ Vc (0 + Int.toNat (↑i : Int) < List.length (Acts.i b)) ∧ (decide zz2 = true → Vc (PP m' ∧ Gv.PutD O7 5000 m' x' (El.mk zz3 zz4)) ∧ Vc ((0 + k ≤ List.length (ks L) ∧ True) ∧ k = List.length zz5 ∧ k = List.length zz5 ∧ List.length (cut (wsL L) 0 k) = List.length zz5 ∧ List.length zz5 ≤ 100000 ∧ (hitC zz5 zz3 = true ∨ (↑(List.length zz5) : Int) < (1000 : Int))) ∧ Vc (fits ((↑i : Int) + (1 : Int))) ∧ Post (∃ j, W7.Ok j b key L k n ∧ List.length (Acts.i b) - W7.i j < List.length (Acts.i b) - i ∧ FitsM Rt 2 186 [1, 2, 7, 11, 12, 13, 14] [zz17 key, Value.slice (some (Addr.mk 1 0 (some 3000))) zz1 0, zz16, zz15, match W7.oa j with | false => Value.slice (some (Addr.mk 3 0 (some 2000))) k 0 | true => Value.slice (some (Addr.mk 6 0 (some 2000))) (List.length (W7.A j)) 0, match W7.ob j with | false => Value.slice (some (Addr.mk 3 k (some 4002000))) zz6 0 | true => Value.slice (some (Addr.mk 7 0 (some 2000))) (List.length (W7.B j)) 0, zz17 (↑(W7.i j) : Int)] [some (Sum.inr (Sum.inr (Sum.inl (actsRow a)))), some (Sum.inr (Sum.inr (Sum.inl (actsRow b)))), cT 4 (W7.x j), rE (ks L) (wsL L), pT (W7.m j), cT 4 (W7.y j), match W7.oa j with | false => none | true => rN (W7.A j), match W7.ob j with | false => none | true => rN (W7.B j)] [some (zz17 key), some zz7, some zz8, some zz9, some (Value.slice (some (Addr.mk 10 0 (some 2000))) (List.length (putC zz5 (rkC zz5 zz3) (hitC zz5 zz3) zz3)) 0), some (Value.slice (some (Addr.mk 3 k (some 4002000))) zz6 0), some (zz17 ((↑i : Int) + (1 : Int)))] [some (Sum.inr (Sum.inr (Sum.inl (Row.mk [zz17 0, zz17 0, zz17 0] (List.length (Acts.i a)) [Col.mk (Acts.i a) [] [], Col.mk (Acts.k a) [] [], Col.mk (Acts.w a) [] []])))), some (Sum.inr (Sum.inr (Sum.inl (Row.mk [zz17 0, zz17 0, zz17 0] zz1 [Col.mk (Acts.i b) [] [], Col.mk (Acts.k b) [] [], Col.mk (Acts.w b) [] []])))), some (Sum.inl (76, [zz14, zz17 (Gv.Ref.i zz10), zz17 (Gv.Ref.g zz10)])), some (Sum.inr (Sum.inl (38, Row.mk [zz17 0, zz17 0] (List.length (ks L)) [Col.mk (ks L) [] [], Col.mk (wsL L) [] []]))), some (Sum.inr (Sum.inr (Sum.inr (Rt.pool (Prod.snd (Prod.snd (Gv.putF O7 5000 m' x' (El.mk zz3 zz4)))))))), some (Sum.inl (76, [zz14, zz17 (Gv.Ref.i y'), zz17 (Gv.Ref.g y')])), none, none, some (Sum.inl (38, [zz17 zz3, zz17 zz4])), none, some (Sum.inr (Sum.inl (38, Row.mk [zz17 0, zz17 0] (List.length (putC zz5 (rkC zz5 zz3) (hitC zz5 zz3) zz3)) [Col.mk (putC zz5 (rkC zz5 zz3) (hitC zz5 zz3) zz3) [] [], Col.mk (putC (cut (wsL L) 0 k) (rkC zz5 zz3) (hitC zz5 zz3) zz4) [] []])))] 186)) ∧ (decide zz2 = false → Vc (PP m' ∧ Gv.PutD O7 5000 m' y' (El.mk zz3 zz4)) ∧ Vc ((k + zz6 ≤ List.length (ks L) ∧ True) ∧ List.length L - k = List.length zz11 ∧ List.length L - k = List.length zz11 ∧ List.length (cut (wsL L) k zz6) = List.length zz11 ∧ List.length zz11 ≤ 100000 ∧ (hitC zz11 zz3 = true ∨ (↑(List.length zz11) : Int) < (1000 : Int))) ∧ Vc (fits ((↑i : Int) + (1 : Int))) ∧ Post (∃ j, W7.Ok j b key L k n ∧ List.length (Acts.i b) - W7.i j < List.length (Acts.i b) - i ∧ FitsM Rt 2 186 [1, 2, 7, 11, 12, 13, 14] [zz17 key, Value.slice (some (Addr.mk 1 0 (some 3000))) zz1 0, zz16, zz15, match W7.oa j with | false => Value.slice (some (Addr.mk 3 0 (some 2000))) k 0 | true => Value.slice (some (Addr.mk 6 0 (some 2000))) (List.length (W7.A j)) 0, match W7.ob j with | false => Value.slice (some (Addr.mk 3 k (some 4002000))) zz6 0 | true => Value.slice (some (Addr.mk 7 0 (some 2000))) (List.length (W7.B j)) 0, zz17 (↑(W7.i j) : Int)] [some (Sum.inr (Sum.inr (Sum.inl (actsRow a)))), some (Sum.inr (Sum.inr (Sum.inl (actsRow b)))), cT 4 (W7.x j), rE (ks L) (wsL L), pT (W7.m j), cT 4 (W7.y j), match W7.oa j with | false => none | true => rN (W7.A j), match W7.ob j with | false => none | true => rN (W7.B j)] [some (zz17 key), some zz7, some zz8, some zz9, some (Value.slice (some (Addr.mk 3 0 (some 2000))) k 0), some (Value.slice (some (Addr.mk 10 0 (some 2000))) zz12 0), some (zz17 ((↑i : Int) + (1 : Int)))] [some (Sum.inr (Sum.inr (Sum.inl (Row.mk [zz17 0, zz17 0, zz17 0] (List.length (Acts.i a)) [Col.mk (Acts.i a) [] [], Col.mk (Acts.k a) [] [], Col.mk (Acts.w a) [] []])))), some (Sum.inr (Sum.inr (Sum.inl (Row.mk [zz17 0, zz17 0, zz17 0] zz1 [Col.mk (Acts.i b) [] [], Col.mk (Acts.k b) [] [], Col.mk (Acts.w b) [] []])))), some (Sum.inl (76, [zz14, zz17 (Gv.Ref.i x'), zz17 (Gv.Ref.g x')])), some (Sum.inr (Sum.inl (38, Row.mk [zz17 0, zz17 0] (List.length (ks L)) [Col.mk (ks L) [] [], Col.mk (wsL L) [] []]))), some (Sum.inr (Sum.inr (Sum.inr (Rt.pool (Prod.snd (Prod.snd (Gv.putF O7 5000 m' y' (El.mk zz3 zz4)))))))), some (Sum.inl (76, [zz14, zz17 (Gv.Ref.i zz13), zz17 (Gv.Ref.g zz13)])), none, none, some (Sum.inl (38, [zz17 zz3, zz17 zz4])), none, some (Sum.inr (Sum.inl (38, Row.mk [zz17 0, zz17 0] zz12 [Col.mk (putC zz11 (rkC zz11 zz3) (hitC zz11 zz3) zz3) [] [], Col.mk (putC (cut (wsL L) k zz6) (rkC zz11 zz3) (hitC zz11 zz3) zz4) [] []])))] 186))) ∧ (decide ((↑i : Int) < (↑zz1 : Int)) = false → At D2 Try.prog (codeOf Try.f6) 2 (GP G) [Sum.inl [1, 1, 1, 1, 1, 1, 1, 1, 1, 1]] (SS.mk [none, some (zz17 key), some zz7, none, none, none, none, some zz8, none, none, none, some zz9, some (Value.slice (some (Addr.mk 3 0 (some 2000))) k 0), some (Value.slice (some (Addr.mk 3 k (some 4002000))) zz6 0), some (zz17 (↑i : Int)), none, none, none, none, none, none, none, none, none, none, none, none, none, none, none, none, none, none, none, none, none, none, none, none, none, none, none, none, none, none, none, none, none, none, none, none, none, none, none, none, none, none, none, none, none, none, none, none, none, none, none, none, none, none, none, none, none, none, none, none, none, none, none, none, none, none, none, none, none, none, none, none, none, none, none, none, none, none, none, none, none, some (zz17 (↑i : Int)), some zz7, some (zz17 (↑zz1 : Int)), some (Value.bool false), none, none, none, none, none, none, none, none, none, none, none, none, none, none, none, none, none, none, none, none, none, none, none, none, none, none, none, none, none, none, none, none, none, none, none, none, none, none, none, none, none, none, none, none, none, none, none, none, none, none, none, none, none, none, none, none, none, none, none, none, none, none, none, none, none, none, none, none, none, none, none, none, none, none, none, none, none, none, none, none, none, none, none, none, none, none] [(99, false)] [some (Sum.inr (Sum.inr (Sum.inl (Row.mk [zz17 0, zz17 0, zz17 0] (List.length (Acts.i a)) [Col.mk (Acts.i a) [] [], Col.mk (Acts.k a) [] [], Col.mk (Acts.w a) [] []])))), some (Sum.inr (Sum.inr (Sum.inl (Row.mk [zz17 0, zz17 0, zz17 0] zz1 [Col.mk (Acts.i b) [] [], Col.mk (Acts.k b) [] [], Col.mk (Acts.w b) [] []])))), some (Sum.inl (76, [zz14, zz17 (Gv.Ref.i x'), zz17 (Gv.Ref.g x')])), some (Sum.inr (Sum.inl (38, Row.mk [zz17 0, zz17 0] (List.length (ks L)) [Col.mk (ks L) [] [], Col.mk (wsL L) [] []]))), some (Sum.inr (Sum.inr (Sum.inr (Rt.pool m')))), some (Sum.inl (76, [zz14, zz17 (Gv.Ref.i y'), zz17 (Gv.Ref.g y')])), none, none]))) ?_ (by kernel_rfl)
      intro zz14 zz15 zz16 zz17 zz1 zz2 zz3 zz4 zz5 zz6 zz7 zz8 zz9 zz10 zz11 zz12 zz13; subst zz13 zz12 zz11 zz10 zz9 zz8 zz7 zz6 zz5 zz4 zz3 zz2 zz1 zz17 zz16 zz15 zz14
      have e0 : 0 + (i : Int).toNat = i := by omega
      have q1 : cut (ks L) 0 k = ks (L.take k) := by unfold cut ks; simp [List.map_take]
      have q2 : cut (wsL L) 0 k = wsL (L.take k) := by unfold cut wsL; simp [List.map_take]
      have q3 : cut (ks L) k (L.length - k) = ks (L.drop k) := by rw [cut_drop (by rw [kl]; omega)]; exact (List.map_drop).symm
      have q4 : cut (wsL L) k (L.length - k) = wsL (L.drop k) := by rw [cut_drop (by rw [wl]; omega)]; exact (List.map_drop).symm
      simp only [e0, q1, q2, q3, q4]
      have la : (ks (L.take k)).length = (L.take k).length := List.length_map _
      have lb : (ks (L.drop k)).length = (L.drop k).length := List.length_map _
      have wa : (wsL (L.take k)).length = (L.take k).length := List.length_map _
      have wb : (wsL (L.drop k)).length = (L.drop k).length := List.length_map _
      have hla := hs'.la
      simp only at hla
      refine ⟨fun h => ?_, fun h => ?_⟩
      · have hlt : i < b.i.length := by have := of_decide_eq_true h; omega
        have hw := hm.2 _ (getD_mem (d := 0) (show i < b.w.length by rw [hb.w]; exact hlt))
        refine ⟨⟨by omega, by omega, by omega⟩, ⟨⟨hlt⟩, ⟨⟨by omega, by omega, by omega⟩, ⟨⟨hlt⟩, ⟨fun h2 => ?_, fun h2 => ?_⟩⟩⟩⟩⟩
        · have h2 := of_decide_eq_true h2
          obtain ⟨u1, u2, f, r', m2, u3, u4⟩ := hs'.putA hlt hbl hn (e := ⟨b.k.getD i 0, b.w.getD i 0⟩) hw (h2)
          simp only at u1 u2 u3 u4
          have p1 : putC (ks (L.take k)) (rkC (ks (L.take k)) (b.k.getD i 0)) (hitC (ks (L.take k)) (b.k.getD i 0)) (b.k.getD i 0) = ks (Gv.putE O7 ⟨b.k.getD i 0, b.w.getD i 0⟩ (L.take k)) := (putE_ks ⟨b.k.getD i 0, b.w.getD i 0⟩ (L.take k)).symm
          have p2 : putC (wsL (L.take k)) (rkC (ks (L.take k)) (b.k.getD i 0)) (hitC (ks (L.take k)) (b.k.getD i 0)) (b.w.getD i 0) = wsL (Gv.putE O7 ⟨b.k.getD i 0, b.w.getD i 0⟩ (L.take k)) := (putE_ws ⟨b.k.getD i 0, b.w.getD i 0⟩ (L.take k)).symm
          have p3 : (ks (Gv.putE O7 ⟨b.k.getD i 0, b.w.getD i 0⟩ (L.take k))).length = (Gv.putE O7 ⟨b.k.getD i 0, b.w.getD i 0⟩ (L.take k)).length := List.length_map _
          simp only [u3, p1, p2, p3]
          refine ⟨⟨u1, u2⟩, ⟨⟨⟨by omega, trivial⟩, by omega, by omega, by omega, by omega, .inr (by omega)⟩, ⟨⟨by omega, by omega⟩, ⟨⟨_, u4, by simp only; omega, ⟨[0, 1, 2, 3, 4, 5, 10, 7], rfl, ⟨rfl, rfl, .inl rfl, ⟨_, rfl, .inl rfl⟩, rfl, .inl rfl, ⟨_, rfl, .inl rfl⟩, trivial⟩, rfl, rfl, rfl, rfl⟩⟩⟩⟩⟩⟩
        · have h2 := of_decide_eq_false h2
          obtain ⟨u1, u2, f, r', m2, u3, u4⟩ := hs'.putB hlt hbl hn (e := ⟨b.k.getD i 0, b.w.getD i 0⟩) hw (Int.not_lt.1 h2)
          simp only at u1 u2 u3 u4
          have p1 : putC (ks (L.drop k)) (rkC (ks (L.drop k)) (b.k.getD i 0)) (hitC (ks (L.drop k)) (b.k.getD i 0)) (b.k.getD i 0) = ks (Gv.putE O7 ⟨b.k.getD i 0, b.w.getD i 0⟩ (L.drop k)) := (putE_ks ⟨b.k.getD i 0, b.w.getD i 0⟩ (L.drop k)).symm
          have p2 : putC (wsL (L.drop k)) (rkC (ks (L.drop k)) (b.k.getD i 0)) (hitC (ks (L.drop k)) (b.k.getD i 0)) (b.w.getD i 0) = wsL (Gv.putE O7 ⟨b.k.getD i 0, b.w.getD i 0⟩ (L.drop k)) := (putE_ws ⟨b.k.getD i 0, b.w.getD i 0⟩ (L.drop k)).symm
          have p3 : (ks (Gv.putE O7 ⟨b.k.getD i 0, b.w.getD i 0⟩ (L.drop k))).length = (Gv.putE O7 ⟨b.k.getD i 0, b.w.getD i 0⟩ (L.drop k)).length := List.length_map _
          simp only [u3, p1, p2, p3]
          refine ⟨⟨u1, u2⟩, ⟨⟨⟨by omega, trivial⟩, by omega, by omega, by omega, by omega, .inr (by omega)⟩, ⟨⟨by omega, by omega⟩, ⟨⟨_, u4, by simp only; omega, ⟨[0, 1, 2, 3, 4, 5, 6, 10], rfl, ⟨rfl, rfl, .inl rfl, ⟨_, rfl, .inl rfl⟩, rfl, .inl rfl, ⟨_, rfl, .inl rfl⟩, trivial⟩, rfl, rfl, rfl, rfl⟩⟩⟩⟩⟩⟩
      · refine At.fit [7, 11, 12, 13] [.pointer (some ⟨2, 0, none⟩), .pointer (some ⟨5, 0, none⟩), .slice (some ⟨3, 0, some 2000⟩) k 0, .slice (some ⟨3, k, some 4002000⟩) (L.length - k) 0] [some (.inr (.inr (.inl (actsRow a)))), some (.inr (.inr (.inl (actsRow b)))), cT 4 x', rE (ks L) (wsL L), pT m', cT 4 y', none, none] 186 ⟨rfl, rfl, Nat.le_add_left 2 6⟩ ⟨[0, 1, 2, 3, 4, 5, 6, 7], rfl, ⟨rfl, rfl, .inl rfl, ⟨_, rfl, .inl rfl⟩, rfl, .inl rfl, trivial⟩, rfl, rfl, rfl, rfl⟩ (next ⟨i, L.take k, L.drop k, x', y', m', false, false⟩ hs')
    · dsimp only [W7.sa, W7.sb, W7.ra, W7.rb]
      obtain rfl : A = L.take k := hs'.na rfl
      refine rxS_ok (T := TP7) [[1, 1, 1, 1, 1, 1, 1, 1, 1, 1]] TP7_ok mixed 200 ?_
      refine as_text (q := let zz14 := Value.pointer (some (Addr.mk 4 0 none)); let zz15 := Value.pointer (some (Addr.mk 5 0 none)); let zz16 := Value.pointer (some (Addr.mk 2 0 none)); let zz17 := Value.int IntKind.i64; let zz1 := (List.length (Acts.i b)); let zz2 := (List.getD (Acts.k b) (0 + Int.toNat (↑i : Int)) (0 : Int) < key); let zz3 := (List.getD (Acts.k b) (0 + Int.toNat (↑i : Int)) (0 : Int)); let zz4 := (List.getD (Acts.w b) (0 + Int.toNat (↑i : Int)) (0 : Int)); let zz5 := (cut (ks L) 0 k); let zz6 := (Value.slice (some (Addr.mk 1 0 (some 3000))) zz1 0); let zz7 := (zz16); let zz8 := (zz15); let zz9 := (Value.slice (some (Addr.mk 7 0 (some 2000))) (List.length B) 0); let zz10 := (Prod.fst (Prod.snd (Gv.putF O7 5000 m' x' (El.mk zz3 zz4)))); let zz11 := (cut (ks B) 0 (List.length B)); let zz12 := (List.length (putC zz11 (rkC zz11 zz3) (hitC zz11 zz3) zz3)); let zz13 := (Prod.fst (Prod.snd (Gv.putF O7 5000 m' y' (El.mk zz3 zz4)))); (decide ((↑i : Int) < (↑zz1 : Int)) = true → Vc ((0 : Int) ≤ (↑i : Int) ∧ (↑i : Int) < (↑zz1 : Int) ∧ 0 + List.length (Acts.i b) ≤ List.length (Acts.i b)) ∧ Vc (0 + Int.toNat (↑i : Int) < List.length (Acts.i b)) ∧ Vc ((0 : Int) ≤ (↑i : Int) ∧ (↑i : Int) < (↑zz1 : Int) ∧ 0 + List.length (Acts.i b) ≤ List.length (Acts.i b)) ∧ Vc (0 + Int.toNat (↑i : Int) < List.length (Acts.i b)) ∧ (decide zz2 = true → Vc (PP m' ∧ Gv.PutD O7 5000 m' x' (El.mk zz3 zz4)) ∧ Vc ((0 + k ≤ List.length (ks L) ∧ True) ∧ k = List.length zz5 ∧ k = List.length zz5 ∧ List.length (cut (wsL L) 0 k) = List.length zz5 ∧ List.length zz5 ≤ 100000 ∧ (hitC zz5 zz3 = true ∨ (↑(List.length zz5) : Int) < (1000 : Int))) ∧ Vc (fits ((↑i : Int) + (1 : Int))) ∧ Post (∃ j, W7.Ok j b key L k n ∧ List.length (Acts.i b) - W7.i j < List.length (Acts.i b) - i ∧ FitsM Rt 2 186 [1, 2, 7, 11, 12, 13, 14] [zz17 key, Value.slice (some (Addr.mk 1 0 (some 3000))) zz1 0, zz16, zz15, match W7.oa j with | false => Value.slice (some (Addr.mk 3 0 (some 2000))) k 0 | true => Value.slice (some (Addr.mk 6 0 (some 2000))) (List.length (W7.A j)) 0, match W7.ob j with | false => Value.slice (some (Addr.mk 3 k (some 4002000))) (List.length L - k) 0 | true => Value.slice (some (Addr.mk 7 0 (some 2000))) (List.length (W7.B j)) 0, zz17 (↑(W7.i j) : Int)] [some (Sum.inr (Sum.inr (Sum.inl (actsRow a)))), some (Sum.inr (Sum.inr (Sum.inl (actsRow b)))), cT 4 (W7.x j), rE (ks L) (wsL L), pT (W7.m j), cT 4 (W7.y j), match W7.oa j with | false => none | true => rN (W7.A j), match W7.ob j with | false => none | true => rN (W7.B j)] [some (zz17 key), some zz6, some zz7, some zz8, some (Value.slice (some (Addr.mk 10 0 (some 2000))) (List.length (putC zz5 (rkC zz5 zz3) (hitC zz5 zz3) zz3)) 0), some zz9, some (zz17 ((↑i : Int) + (1 : Int)))] [some (Sum.inr (Sum.inr (Sum.inl (Row.mk [zz17 0, zz17 0, zz17 0] (List.length (Acts.i a)) [Col.mk (Acts.i a) [] [], Col.mk (Acts.k a) [] [], Col.mk (Acts.w a) [] []])))), some (Sum.inr (Sum.inr (Sum.inl (Row.mk [zz17 0, zz17 0, zz17 0] zz1 [Col.mk (Acts.i b) [] [], Col.mk (Acts.k b) [] [], Col.mk (Acts.w b) [] []])))), some (Sum.inl (76, [zz14, zz17 (Gv.Ref.i zz10), zz17 (Gv.Ref.g zz10)])), some (Sum.inr (Sum.inl (38, Row.mk [zz17 0, zz17 0] (List.length (ks L)) [Col.mk (ks L) [] [], Col.mk (wsL L) [] []]))), some (Sum.inr (Sum.inr (Sum.inr (Rt.pool (Prod.snd (Prod.snd (Gv.putF O7 5000 m' x' (El.mk zz3 zz4)))))))), some (Sum.inl (76, [zz14, zz17 (Gv.Ref.i y'), zz17 (Gv.Ref.g y')])), none, some (Sum.inr (Sum.inl (38, Row.mk [zz17 0, zz17 0] (List.length B) [Col.mk (ks B) [] [], Col.mk (wsL B) [] []]))), some (Sum.inl (38, [zz17 zz3, zz17 zz4])), none, some (Sum.inr (Sum.inl (38, Row.mk [zz17 0, zz17 0] (List.length (putC zz5 (rkC zz5 zz3) (hitC zz5 zz3) zz3)) [Col.mk (putC zz5 (rkC zz5 zz3) (hitC zz5 zz3) zz3) [] [], Col.mk (putC (cut (wsL L) 0 k) (rkC zz5 zz3) (hitC zz5 zz3) zz4) [] []])))] 186)) ∧ (decide zz2 = false → Vc (PP m' ∧ Gv.PutD O7 5000 m' y' (El.mk zz3 zz4)) ∧ Vc ((0 + List.length B ≤ List.length B ∧ True) ∧ List.length B = List.length zz11 ∧ List.length B = List.length zz11 ∧ List.length (cut (wsL B) 0 (List.length B)) = List.length zz11 ∧ List.length zz11 ≤ 100000 ∧ (hitC zz11 zz3 = true ∨ (↑(List.length zz11) : Int) < (1000 : Int))) ∧ Vc (fits ((↑i : Int) + (1 : Int))) ∧ Post (∃ j, W7.Ok j b key L k n ∧ List.length (Acts.i b) - W7.i j < List.length (Acts.i b) - i ∧ FitsM Rt 2 186 [1, 2, 7, 11, 12, 13, 14] [zz17 key, Value.slice (some (Addr.mk 1 0 (some 3000))) zz1 0, zz16, zz15, match W7.oa j with | false => Value.slice (some (Addr.mk 3 0 (some 2000))) k 0 | true => Value.slice (some (Addr.mk 6 0 (some 2000))) (List.length (W7.A j)) 0, match W7.ob j with | false => Value.slice (some (Addr.mk 3 k (some 4002000))) (List.length L - k) 0 | true => Value.slice (some (Addr.mk 7 0 (some 2000))) (List.length (W7.B j)) 0, zz17 (↑(W7.i j) : Int)] [some (Sum.inr (Sum.inr (Sum.inl (actsRow a)))), some (Sum.inr (Sum.inr (Sum.inl (actsRow b)))), cT 4 (W7.x j), rE (ks L) (wsL L), pT (W7.m j), cT 4 (W7.y j), match W7.oa j with | false => none | true => rN (W7.A j), match W7.ob j with | false => none | true => rN (W7.B j)] [some (zz17 key), some zz6, some zz7, some zz8, some (Value.slice (some (Addr.mk 3 0 (some 2000))) k 0), some (Value.slice (some (Addr.mk 10 0 (some 2000))) zz12 0), some (zz17 ((↑i : Int) + (1 : Int)))] [some (Sum.inr (Sum.inr (Sum.inl (Row.mk [zz17 0, zz17 0, zz17 0] (List.length (Acts.i a)) [Col.mk (Acts.i a) [] [], Col.mk (Acts.k a) [] [], Col.mk (Acts.w a) [] []])))), some (Sum.inr (Sum.inr (Sum.inl (Row.mk [zz17 0, zz17 0, zz17 0] zz1 [Col.mk (Acts.i b) [] [], Col.mk (Acts.k b) [] [], Col.mk (Acts.w b) [] []])))), some (Sum.inl (76, [zz14, zz17 (Gv.Ref.i x'), zz17 (Gv.Ref.g x')])), some (Sum.inr (Sum.inl (38, Row.mk [zz17 0, zz17 0] (List.length (ks L)) [Col.mk (ks L) [] [], Col.mk (wsL L) [] []]))), some (Sum.inr (Sum.inr (Sum.inr (Rt.pool (Prod.snd (Prod.snd (Gv.putF O7 5000 m' y' (El.mk zz3 zz4)))))))), some (Sum.inl (76, [zz14, zz17 (Gv.Ref.i zz13), zz17 (Gv.Ref.g zz13)])), none, some (Sum.inr (Sum.inl (38, Row.mk [zz17 0, zz17 0] (List.length B) [Col.mk (ks B) [] [], Col.mk (wsL B) [] []]))), some (Sum.inl (38, [zz17 zz3, zz17 zz4])), none, some (Sum.inr (Sum.inl (38, Row.mk [zz17 0, zz17 0] zz12 [Col.mk (putC zz11 (rkC zz11 zz3) (hitC zz11 zz3) zz3) [] [], Col.mk (putC (cut (wsL B) 0 (List.length B)) (rkC zz11 zz3) (hitC zz11 zz3) zz4) [] []])))] 186))) ∧ (decide ((↑i : Int) < (↑zz1 : Int)) = false → At D2 Try.prog (codeOf Try.f6) 2 (GP G) [Sum.inl [1, 1, 1, 1, 1, 1, 1, 1, 1, 1]] (SS.mk [none, some (zz17 key), some zz6, none, none, none, none, some zz7, none, none, none, some zz8, some (Value.slice (some (Addr.mk 3 0 (some 2000))) k 0), some zz9, some (zz17 (↑i : Int)), none, none, none, none, none, none, none, none, none, none, none, none, none, none, none, none, none, none, none, none, none, none, none, none, none, none, none, none, none, none, none, none, none, none, none, none, none, none, none, none, none, none, none, none, none, none, none, none, none, none, none, none, none, none, none, none, none, none, none, none, none, none, none, none, none, none, none, none, none, none, none, none, none, none, none, none, none, none, none, none, none, some (zz17 (↑i : Int)), some zz6, some (zz17 (↑zz1 : Int)), some (Value.bool false), none, none, none, none, none, none, none, none, none, none, none, none, none, none, none, none, none, none, none, none, none, none, none, none, none, none, none, none, none, none, none, none, none, none, none, none, none, none, none, none, none, none, none, none, none, none, none, none, none, none, none, none, none, none, none, none, none, none, none, none, none, none, none, none, none, none, none, none, none, none, none, none, none, none, none, none, none, none, none, none, none, none, none, none, none, none] [(99, false)] [some (Sum.inr (Sum.inr (Sum.inl (Row.mk [zz17 0, zz17 0, zz17 0] (List.length (Acts.i a)) [Col.mk (Acts.i a) [] [], Col.mk (Acts.k a) [] [], Col.mk (Acts.w a) [] []])))), some (Sum.inr (Sum.inr (Sum.inl (Row.mk [zz17 0, zz17 0, zz17 0] zz1 [Col.mk (Acts.i b) [] [], Col.mk (Acts.k b) [] [], Col.mk (Acts.w b) [] []])))), some (Sum.inl (76, [zz14, zz17 (Gv.Ref.i x'), zz17 (Gv.Ref.g x')])), some (Sum.inr (Sum.inl (38, Row.mk [zz17 0, zz17 0] (List.length (ks L)) [Col.mk (ks L) [] [], Col.mk (wsL L) [] []]))), some (Sum.inr (Sum.inr (Sum.inr (Rt.pool m')))), some (Sum.inl (76, [zz14, zz17 (Gv.Ref.i y'), zz17 (Gv.Ref.g y')])), none, some (Sum.inr (Sum.inl (38, Row.mk [zz17 0, zz17 0] (List.length B) [Col.mk (ks B) [] [], Col.mk (wsL B) [] []])))]))) ?_ (by kernel_rfl)
      intro zz14 zz15 zz16 zz17 zz1 zz2 zz3 zz4 zz5 zz6 zz7 zz8 zz9 zz10 zz11 zz12 zz13; subst zz13 zz12 zz11 zz10 zz9 zz8 zz7 zz6 zz5 zz4 zz3 zz2 zz1 zz17 zz16 zz15 zz14
      have e0 : 0 + (i : Int).toNat = i := by omega
      have q1 : cut (ks L) 0 k = ks (L.take k) := by unfold cut ks; simp [List.map_take]
      have q2 : cut (wsL L) 0 k = wsL (L.take k) := by unfold cut wsL; simp [List.map_take]
      have q3 : cut (ks B) 0 B.length = ks B := cut_eq (by simp)
      have q4 : cut (wsL B) 0 B.length = wsL B := cut_eq (by simp)
      simp only [e0, q1, q2, q3, q4]
      have la : (ks (L.take k)).length = (L.take k).length := List.length_map _
      have lb : (ks B).length = B.length := List.length_map _
      have wa : (wsL (L.take k)).length = (L.take k).length := List.length_map _
      have wb : (wsL B).length = B.length := List.length_map _
      have hla := hs'.la
      simp only at hla
      refine ⟨fun h => ?_, fun h => ?_⟩
      · have hlt : i < b.i.length := by have := of_decide_eq_true h; omega
        have hw := hm.2 _ (getD_mem (d := 0) (show i < b.w.length by rw [hb.w]; exact hlt))
        refine ⟨⟨by omega, by omega, by omega⟩, ⟨⟨hlt⟩, ⟨⟨by omega, by omega, by omega⟩, ⟨⟨hlt⟩, ⟨fun h2 => ?_, fun h2 => ?_⟩⟩⟩⟩⟩
        · have h2 := of_decide_eq_true h2
          obtain ⟨u1, u2, f, r', m2, u3, u4⟩ := hs'.putA hlt hbl hn (e := ⟨b.k.getD i 0, b.w.getD i 0⟩) hw (h2)
          simp only at u1 u2 u3 u4
          have p1 : putC (ks (L.take k)) (rkC (ks (L.take k)) (b.k.getD i 0)) (hitC (ks (L.take k)) (b.k.getD i 0)) (b.k.getD i 0) = ks (Gv.putE O7 ⟨b.k.getD i 0, b.w.getD i 0⟩ (L.take k)) := (putE_ks ⟨b.k.getD i 0, b.w.getD i 0⟩ (L.take k)).symm
          have p2 : putC (wsL (L.take k)) (rkC (ks (L.take k)) (b.k.getD i 0)) (hitC (ks (L.take k)) (b.k.getD i 0)) (b.w.getD i 0) = wsL (Gv.putE O7 ⟨b.k.getD i 0, b.w.getD i 0⟩ (L.take k)) := (putE_ws ⟨b.k.getD i 0, b.w.getD i 0⟩ (L.take k)).symm
          have p3 : (ks (Gv.putE O7 ⟨b.k.getD i 0, b.w.getD i 0⟩ (L.take k))).length = (Gv.putE O7 ⟨b.k.getD i 0, b.w.getD i 0⟩ (L.take k)).length := List.length_map _
          simp only [u3, p1, p2, p3]
          refine ⟨⟨u1, u2⟩, ⟨⟨⟨by omega, trivial⟩, by omega, by omega, by omega, by omega, .inr (by omega)⟩, ⟨⟨by omega, by omega⟩, ⟨⟨_, u4, by simp only; omega, ⟨[0, 1, 2, 3, 4, 5, 10, 7], rfl, ⟨rfl, rfl, .inl rfl, ⟨_, rfl, .inl rfl⟩, rfl, .inl rfl, ⟨_, rfl, .inl rfl⟩, ⟨_, rfl, .inl rfl⟩, trivial⟩, rfl, rfl, rfl, rfl⟩⟩⟩⟩⟩⟩
        · have h2 := of_decide_eq_false h2
          obtain ⟨u1, u2, f, r', m2, u3, u4⟩ := hs'.putB hlt hbl hn (e := ⟨b.k.getD i 0, b.w.getD i 0⟩) hw (Int.not_lt.1 h2)
          simp only at u1 u2 u3 u4
          have p1 : putC (ks B) (rkC (ks B) (b.k.getD i 0)) (hitC (ks B) (b.k.getD i 0)) (b.k.getD i 0) = ks (Gv.putE O7 ⟨b.k.getD i 0, b.w.getD i 0⟩ B) := (putE_ks ⟨b.k.getD i 0, b.w.getD i 0⟩ B).symm
          have p2 : putC (wsL B) (rkC (ks B) (b.k.getD i 0)) (hitC (ks B) (b.k.getD i 0)) (b.w.getD i 0) = wsL (Gv.putE O7 ⟨b.k.getD i 0, b.w.getD i 0⟩ B) := (putE_ws ⟨b.k.getD i 0, b.w.getD i 0⟩ B).symm
          have p3 : (ks (Gv.putE O7 ⟨b.k.getD i 0, b.w.getD i 0⟩ B)).length = (Gv.putE O7 ⟨b.k.getD i 0, b.w.getD i 0⟩ B).length := List.length_map _
          simp only [u3, p1, p2, p3]
          refine ⟨⟨u1, u2⟩, ⟨⟨⟨by omega, trivial⟩, by omega, by omega, by omega, by omega, .inr (by omega)⟩, ⟨⟨by omega, by omega⟩, ⟨⟨_, u4, by simp only; omega, ⟨[0, 1, 2, 3, 4, 5, 6, 10], rfl, ⟨rfl, rfl, .inl rfl, ⟨_, rfl, .inl rfl⟩, rfl, .inl rfl, ⟨_, rfl, .inl rfl⟩, trivial⟩, rfl, rfl, rfl, rfl⟩⟩⟩⟩⟩⟩
      · refine At.fit [7, 11, 12, 13] [.pointer (some ⟨2, 0, none⟩), .pointer (some ⟨5, 0, none⟩), .slice (some ⟨3, 0, some 2000⟩) k 0, .slice (some ⟨7, 0, some 2000⟩) B.length 0] [some (.inr (.inr (.inl (actsRow a)))), some (.inr (.inr (.inl (actsRow b)))), cT 4 x', rE (ks L) (wsL L), pT m', cT 4 y', none, rN B] 186 ⟨rfl, rfl, Nat.le_add_left 2 6⟩ ⟨[0, 1, 2, 3, 4, 5, 6, 7], rfl, ⟨rfl, rfl, .inl rfl, ⟨_, rfl, .inl rfl⟩, rfl, .inl rfl, ⟨_, rfl, .inl rfl⟩, trivial⟩, rfl, rfl, rfl, rfl⟩ (next ⟨i, L.take k, B, x', y', m', false, true⟩ hs')
  · cases ob
    · dsimp only [W7.sa, W7.sb, W7.ra, W7.rb]
      obtain rfl : B = L.drop k := hs'.nb rfl
      refine rxS_ok (T := TP7) [[1, 1, 1, 1, 1, 1, 1, 1, 1, 1]] TP7_ok mixed 200 ?_
      refine as_text (q := let zz15 := Value.pointer (some (Addr.mk 4 0 none)); let zz16 := Value.pointer (some (Addr.mk 5 0 none)); let zz17 := Value.pointer (some (Addr.mk 2 0 none)); let zz18 := Value.int IntKind.i64; let zz1 := (List.length (Acts.i b)); let zz2 := (List.getD (Acts.k b) (0 + Int.toNat (↑i : Int)) (0 : Int) < key); let zz3 := (List.getD (Acts.k b) (0 + Int.toNat (↑i : Int)) (0 : Int)); let zz4 := (List.getD (Acts.w b) (0 + Int.toNat (↑i : Int)) (0 : Int)); let zz5 := (cut (ks A) 0 (List.length A)); let zz6 := (List.length L - k); let zz7 := (Value.slice (some (Addr.mk 1 0 (some 3000))) zz1 0); let zz8 := (zz17); let zz9 := (zz16); let zz10 := (Prod.fst (Prod.snd (Gv.putF O7 5000 m' x' (El.mk zz3 zz4)))); let zz11 := (cut (ks L) k zz6); let zz12 := (Value.slice (some (Addr.mk 6 0 (some 2000))) (List.length A) 0); let zz13 := (List.length (putC zz11 (rkC zz11 zz3) (hitC zz11 zz3) zz3)); let zz14 := (Prod.fst (Prod.snd (Gv.putF O7 5000 m' y' (El.mk zz3 zz4)))); (decide ((↑i : Int) < (↑zz1 : Int)) = true → Vc ((0 : Int) ≤ (↑i : Int) ∧ (↑i : Int) < (↑zz1 : Int) ∧ 0 + List.length (Acts.i b) ≤ List.length (Acts.i b)) ∧ Vc (0 + Int.toNat (↑i : Int) < List.length (Acts.i b)) ∧ Vc ((0 : Int) ≤ (↑i : Int) ∧ (↑i : Int) < (↑zz1 : Int) ∧ 0 + List.length (Acts.i b) ≤ List.length (Acts.i b)) ∧ Vc (0 + Int.toNat (↑i : Int) < List.length (Acts.i b)) ∧ (decide zz2 = true → Vc (PP m' ∧ Gv.PutD O7 5000 m' x' (El.mk zz3 zz4)) ∧ Vc ((0 + List.length A ≤ List.length A ∧ True) ∧ List.length A = List.length zz5 ∧ List.length A = List.length zz5 ∧ List.length (cut (wsL A) 0 (List.length A)) = List.length zz5 ∧ List.length zz5 ≤ 100000 ∧ (hitC zz5 zz3 = true ∨ (↑(List.length zz5) : Int) < (1000 : Int))) ∧ Vc (fits ((↑i : Int) + (1 : Int))) ∧ Post (∃ j, W7.Ok j b key L k n ∧ List.length (Acts.i b) - W7.i j < List.length (Acts.i b) - i ∧ FitsM Rt 2 186 [1, 2, 7, 11, 12, 13, 14] [zz18 key, Value.slice (some (Addr.mk 1 0 (some 3000))) zz1 0, zz17, zz16, match W7.oa j with | false => Value.slice (some (Addr.mk 3 0 (some 2000))) k 0 | true => Value.slice (some (Addr.mk 6 0 (some 2000))) (List.length (W7.A j)) 0, match W7.ob j with | false => Value.slice (some (Addr.mk 3 k (some 4002000))) zz6 0 | true => Value.slice (some (Addr.mk 7 0 (some 2000))) (List.length (W7.B j)) 0, zz18 (↑(W7.i j) : Int)] [some (Sum.inr (Sum.inr (Sum.inl (actsRow a)))), some (Sum.inr (Sum.inr (Sum.inl (actsRow b)))), cT 4 (W7.x j), rE (ks L) (wsL L), pT (W7.m j), cT 4 (W7.y j), match W7.oa j with | false => none | true => rN (W7.A j), match W7.ob j with | false => none | true => rN (W7.B j)] [some (zz18 key), some zz7, some zz8, some zz9, some (Value.slice (some (Addr.mk 10 0 (some 2000))) (List.length (putC zz5 (rkC zz5 zz3) (hitC zz5 zz3) zz3)) 0), some (Value.slice (some (Addr.mk 3 k (some 4002000))) zz6 0), some (zz18 ((↑i : Int) + (1 : Int)))] [some (Sum.inr (Sum.inr (Sum.inl (Row.mk [zz18 0, zz18 0, zz18 0] (List.length (Acts.i a)) [Col.mk (Acts.i a) [] [], Col.mk (Acts.k a) [] [], Col.mk (Acts.w a) [] []])))), some (Sum.inr (Sum.inr (Sum.inl (Row.mk [zz18 0, zz18 0, zz18 0] zz1 [Col.mk (Acts.i b) [] [], Col.mk (Acts.k b) [] [], Col.mk (Acts.w b) [] []])))), some (Sum.inl (76, [zz15, zz18 (Gv.Ref.i zz10), zz18 (Gv.Ref.g zz10)])), some (Sum.inr (Sum.inl (38, Row.mk [zz18 0, zz18 0] (List.length (ks L)) [Col.mk (ks L) [] [], Col.mk (wsL L) [] []]))), some (Sum.inr (Sum.inr (Sum.inr (Rt.pool (Prod.snd (Prod.snd (Gv.putF O7 5000 m' x' (El.mk zz3 zz4)))))))), some (Sum.inl (76, [zz15, zz18 (Gv.Ref.i y'), zz18 (Gv.Ref.g y')])), some (Sum.inr (Sum.inl (38, Row.mk [zz18 0, zz18 0] (List.length A) [Col.mk (ks A) [] [], Col.mk (wsL A) [] []]))), none, some (Sum.inl (38, [zz18 zz3, zz18 zz4])), none, some (Sum.inr (Sum.inl (38, Row.mk [zz18 0, zz18 0] (List.length (putC zz5 (rkC zz5 zz3) (hitC zz5 zz3) zz3)) [Col.mk (putC zz5 (rkC zz5 zz3) (hitC zz5 zz3) zz3) [] [], Col.mk (putC (cut (wsL A) 0 (List.length A)) (rkC zz5 zz3) (hitC zz5 zz3) zz4) [] []])))] 186)) ∧ (decide zz2 = false → Vc (PP m' ∧ Gv.PutD O7 5000 m' y' (El.mk zz3 zz4)) ∧ Vc ((k + zz6 ≤ List.length (ks L) ∧ True) ∧ List.length L - k = List.length zz11 ∧ List.length L - k = List.length zz11 ∧ List.length (cut (wsL L) k zz6) = List.length zz11 ∧ List.length zz11 ≤ 100000 ∧ (hitC zz11 zz3 = true ∨ (↑(List.length zz11) : Int) < (1000 : Int))) ∧ Vc (fits ((↑i : Int) + (1 : Int))) ∧ Post (∃ j, W7.Ok j b key L k n ∧ List.length (Acts.i b) - W7.i j < List.length (Acts.i b) - i ∧ FitsM Rt 2 186 [1, 2, 7, 11, 12, 13, 14] [zz18 key, Value.slice (some (Addr.mk 1 0 (some 3000))) zz1 0, zz17, zz16, match W7.oa j with | false => Value.slice (some (Addr.mk 3 0 (some 2000))) k 0 | true => Value.slice (some (Addr.mk 6 0 (some 2000))) (List.length (W7.A j)) 0, match W7.ob j with | false => Value.slice (some (Addr.mk 3 k (some 4002000))) zz6 0 | true => Value.slice (some (Addr.mk 7 0 (some 2000))) (List.length (W7.B j)) 0, zz18 (↑(W7.i j) : Int)] [some (Sum.inr (Sum.inr (Sum.inl (actsRow a)))), some (Sum.inr (Sum.inr (Sum.inl (actsRow b)))), cT 4 (W7.x j), rE (ks L) (wsL L), pT (W7.m j), cT 4 (W7.y j), match W7.oa j with | false => none | true => rN (W7.A j), match W7.ob j with | false => none | true => rN (W7.B j)] [some (zz18 key), some zz7, some zz8, some zz9, some zz12, some (Value.slice (some (Addr.mk 10 0 (some 2000))) zz13 0), some (zz18 ((↑i : Int) + (1 : Int)))] [some (Sum.inr (Sum.inr (Sum.inl (Row.mk [zz18 0, zz18 0, zz18 0] (List.length (Acts.i a)) [Col.mk (Acts.i a) [] [], Col.mk (Acts.k a) [] [], Col.mk (Acts.w a) [] []])))), some (Sum.inr (Sum.inr (Sum.inl (Row.mk [zz18 0, zz18 0, zz18 0] zz1 [Col.mk (Acts.i b) [] [], Col.mk (Acts.k b) [] [], Col.mk (Acts.w b) [] []])))), some (Sum.inl (76, [zz15, zz18 (Gv.Ref.i x'), zz18 (Gv.Ref.g x')])), some (Sum.inr (Sum.inl (38, Row.mk [zz18 0, zz18 0] (List.length (ks L)) [Col.mk (ks L) [] [], Col.mk (wsL L) [] []]))), some (Sum.inr (Sum.inr (Sum.inr (Rt.pool (Prod.snd (Prod.snd (Gv.putF O7 5000 m' y' (El.mk zz3 zz4)))))))), some (Sum.inl (76, [zz15, zz18 (Gv.Ref.i zz14), zz18 (Gv.Ref.g zz14)])), some (Sum.inr (Sum.inl (38, Row.mk [zz18 0, zz18 0] (List.length A) [Col.mk (ks A) [] [], Col.mk (wsL A) [] []]))), none, some (Sum.inl (38, [zz18 zz3, zz18 zz4])), none, some (Sum.inr (Sum.inl (38, Row.mk [zz18 0, zz18 0] zz13 [Col.mk (putC zz11 (rkC zz11 zz3) (hitC zz11 zz3) zz3) [] [], Col.mk (putC (cut (wsL L) k zz6) (rkC zz11 zz3) (hitC zz11 zz3) zz4) [] []])))] 186))) ∧ (decide ((↑i : Int) < (↑zz1 : Int)) = false → At D2 Try.prog (codeOf Try.f6) 2 (GP G) [Sum.inl [1, 1, 1, 1, 1, 1, 1, 1, 1, 1]] (SS.mk [none, some (zz18 key), some zz7, none, none, none, none, some zz8, none, none, none, some zz9, some zz12, some (Value.slice (some (Addr.mk 3 k (some 4002000))) zz6 0), some (zz18 (↑i : Int)), none, none, none, none, none, none, none, none, none, none, none, none, none, none, none, none, none, none, none, none, none, none, none, none, none, none, none, none, none, none, none, none, none, none, none, none, none, none, none, none, none, none, none, none, none, none, none, none, none, none, none, none, none, none, none, none, none, none, none, none, none, none, none, none, none, none, none, none, none, none, none, none, none, none, none, none, none, none, none, none, none, some (zz18 (↑i : Int)), some zz7, some (zz18 (↑zz1 : Int)), some (Value.bool false), none, none, none, none, none, none, none, none, none, none, none, none, none, none, none, none, none, none, none, none, none, none, none, none, none, none, none, none, none, none, none, none, none, none, none, none, none, none, none, none, none, none, none, none, none, none, none, none, none, none, none, none, none, none, none, none, none, none, none, none, none, none, none, none, none, none, none, none, none, none, none, none, none, none, none, none, none, none, none, none, none, none, none, none, none, none] [(99, false)] [some (Sum.inr (Sum.inr (Sum.inl (Row.mk [zz18 0, zz18 0, zz18 0] (List.length (Acts.i a)) [Col.mk (Acts.i a) [] [], Col.mk (Acts.k a) [] [], Col.mk (Acts.w a) [] []])))), some (Sum.inr (Sum.inr (Sum.inl (Row.mk [zz18 0, zz18 0, zz18 0] zz1 [Col.mk (Acts.i b) [] [], Col.mk (Acts.k b) [] [], Col.mk (Acts.w b) [] []])))), some (Sum.inl (76, [zz15, zz18 (Gv.Ref.i x'), zz18 (Gv.Ref.g x')])), some (Sum.inr (Sum.inl (38, Row.mk [zz18 0, zz18 0] (List.length (ks L)) [Col.mk (ks L) [] [], Col.mk (wsL L) [] []]))), some (Sum.inr (Sum.inr (Sum.inr (Rt.pool m')))), some (Sum.inl (76, [zz15, zz18 (Gv.Ref.i y'), zz18 (Gv.Ref.g y')])), some (Sum.inr (Sum.inl (38, Row.mk [zz18 0, zz18 0] (List.length A) [Col.mk (ks A) [] [], Col.mk (wsL A) [] []]))), none]))) ?_ (by kernel_rfl)
      intro zz15 zz16 zz17 zz18 zz1 zz2 zz3 zz4 zz5 zz6 zz7 zz8 zz9 zz10 zz11 zz12 zz13 zz14; subst zz14 zz13 zz12 zz11 zz10 zz9 zz8 zz7 zz6 zz5 zz4 zz3 zz2 zz1 zz18 zz17 zz16 zz15
      have e0 : 0 + (i : Int).toNat = i := by omega
      have q1 : cut (ks A) 0 A.length = ks A := cut_eq (by simp)
      have q2 : cut (wsL A) 0 A.length = wsL A := cut_eq (by simp)
      have q3 : cut (ks L) k (L.length - k) = ks (L.drop k) := by rw [cut_drop (by rw [kl]; omega)]; exact (List.map_drop).symm
      have q4 : cut (wsL L) k (L.length - k) = wsL (L.drop k) := by rw [cut_drop (by rw [wl]; omega)]; exact (List.map_drop).symm
      simp only [e0, q1, q2, q3, q4]
      have la : (ks A).length = A.length := List.length_map _
      have lb : (ks (L.drop k)).length = (L.drop k).length := List.length_map _
      have wa : (wsL A).length = A.length := List.length_map _
      have wb : (wsL (L.drop k)).length = (L.drop k).length := List.length_map _
      have hla := hs'.la
      simp only at hla
      refine ⟨fun h => ?_, fun h => ?_⟩
      · have hlt : i < b.i.length := by have := of_decide_eq_true h; omega
        have hw := hm.2 _ (getD_mem (d := 0) (show i < b.w.length by rw [hb.w]; exact hlt))
        refine ⟨⟨by omega, by omega, by omega⟩, ⟨⟨hlt⟩, ⟨⟨by omega, by omega, by omega⟩, ⟨⟨hlt⟩, ⟨fun h2 => ?_, fun h2 => ?_⟩⟩⟩⟩⟩
        · have h2 := of_decide_eq_true h2
          obtain ⟨u1, u2, f, r', m2, u3, u4⟩ := hs'.putA hlt hbl hn (e := ⟨b.k.getD i 0, b.w.getD i 0⟩) hw (h2)
          simp only at u1 u2 u3 u4
          have p1 : putC (ks A) (rkC (ks A) (b.k.getD i 0)) (hitC (ks A) (b.k.getD i 0)) (b.k.getD i 0) = ks (Gv.putE O7 ⟨b.k.getD i 0, b.w.getD i 0⟩ A) := (putE_ks ⟨b.k.getD i 0, b.w.getD i 0⟩ A).symm
          have p2 : putC (wsL A) (rkC (ks A) (b.k.getD i 0)) (hitC (ks A) (b.k.getD i 0)) (b.w.getD i 0) = wsL (Gv.putE O7 ⟨b.k.getD i 0, b.w.getD i 0⟩ A) := (putE_ws ⟨b.k.getD i 0, b.w.getD i 0⟩ A).symm
          have p3 : (ks (Gv.putE O7 ⟨b.k.getD i 0, b.w.getD i 0⟩ A)).length = (Gv.putE O7 ⟨b.k.getD i 0, b.w.getD i 0⟩ A).length := List.length_map _
          simp only [u3, p1, p2, p3]
          refine ⟨⟨u1, u2⟩, ⟨⟨⟨by omega, trivial⟩, by omega, by omega, by omega, by omega, .inr (by omega)⟩, ⟨⟨by omega, by omega⟩, ⟨⟨_, u4, by simp only; omega, ⟨[0, 1, 2, 3, 4, 5, 10, 7], rfl, ⟨rfl, rfl, .inl rfl, ⟨_, rfl, .inl rfl⟩, rfl, .inl rfl, ⟨_, rfl, .inl rfl⟩, trivial⟩, rfl, rfl, rfl, rfl⟩⟩⟩⟩⟩⟩
        · have h2 := of_decide_eq_false h2
          obtain ⟨u1, u2, f, r', m2, u3, u4⟩ := hs'.putB hlt hbl hn (e := ⟨b.k.getD i 0, b.w.getD i 0⟩) hw (Int.not_lt.1 h2)
          simp only at u1 u2 u3 u4
          have p1 : putC (ks (L.drop k)) (rkC (ks (L.drop k)) (b.k.getD i 0)) (hitC (ks (L.drop k)) (b.k.getD i 0)) (b.k.getD i 0) = ks (Gv.putE O7 ⟨b.k.getD i 0, b.w.getD i 0⟩ (L.drop k)) := (putE_ks ⟨b.k.getD i 0, b.w.getD i 0⟩ (L.drop k)).symm
          have p2 : putC (wsL (L.drop k)) (rkC (ks (L.drop k)) (b.k.getD i 0)) (hitC (ks (L.drop k)) (b.k.getD i 0)) (b.w.getD i 0) = wsL (Gv.putE O7 ⟨b.k.getD i 0, b.w.getD i 0⟩ (L.drop k)) := (putE_ws ⟨b.k.getD i 0, b.w.getD i 0⟩ (L.drop k)).symm
          have p3 : (ks (Gv.putE O7 ⟨b.k.getD i 0, b.w.getD i 0⟩ (L.drop k))).length = (Gv.putE O7 ⟨b.k.getD i 0, b.w.getD i 0⟩ (L.drop k)).length := List.length_map _
          simp only [u3, p1, p2, p3]
          refine ⟨⟨u1, u2⟩, ⟨⟨⟨by omega, trivial⟩, by omega, by omega, by omega, by omega, .inr (by omega)⟩, ⟨⟨by omega, by omega⟩, ⟨⟨_, u4, by simp only; omega, ⟨[0, 1, 2, 3, 4, 5, 6, 10], rfl, ⟨rfl, rfl, .inl rfl, ⟨_, rfl, .inl rfl⟩, rfl, .inl rfl, ⟨_, rfl, .inl rfl⟩, ⟨_, rfl, .inl rfl⟩, trivial⟩, rfl, rfl, rfl, rfl⟩⟩⟩⟩⟩⟩
      · refine At.fit [7, 11, 12, 13] [.pointer (some ⟨2, 0, none⟩), .pointer (some ⟨5, 0, none⟩), .slice (some ⟨6, 0, some 2000⟩) A.length 0, .slice (some ⟨3, k, some 4002000⟩) (L.length - k) 0] [some (.inr (.inr (.inl (actsRow a)))), some (.inr (.inr (.inl (actsRow b)))), cT 4 x', rE (ks L) (wsL L), pT m', cT 4 y', rN A, none] 186 ⟨rfl, rfl, Nat.le_add_left 2 6⟩ ⟨[0, 1, 2, 3, 4, 5, 6, 7], rfl, ⟨rfl, rfl, .inl rfl, ⟨_, rfl, .inl rfl⟩, rfl, .inl rfl, ⟨_, rfl, .inl rfl⟩, trivial⟩, rfl, rfl, rfl, rfl⟩ (next ⟨i, A, L.drop k, x', y', m', true, false⟩ hs')
    · dsimp only [W7.sa, W7.sb, W7.ra, W7.rb]
      refine rxS_ok (T := TP7) [[1, 1, 1, 1, 1, 1, 1, 1, 1, 1]] TP7_ok mixed 200 ?_
      refine as_text (q := let zz15 := Value.pointer (some (Addr.mk 4 0 none)); let zz16 := Value.pointer (some (Addr.mk 5 0 none)); let zz17 := Value.pointer (some (Addr.mk 2 0 none)); let zz18 := Value.int IntKind.i64; let zz1 := (List.length (Acts.i b)); let zz2 := (List.getD (Acts.k b) (0 + Int.toNat (↑i : Int)) (0 : Int) < key); let zz3 := (List.getD (Acts.k b) (0 + Int.toNat (↑i : Int)) (0 : Int)); let zz4 := (List.getD (Acts.w b) (0 + Int.toNat (↑i : Int)) (0 : Int)); let zz5 := (cut (ks A) 0 (List.length A)); let zz6 := (Value.slice (some (Addr.mk 1 0 (some 3000))) zz1 0); let zz7 := (zz17); let zz8 := (zz16); let zz9 := (Value.slice (some (Addr.mk 7 0 (some 2000))) (List.length B) 0); let zz10 := (Prod.fst (Prod.snd (Gv.putF O7 5000 m' x' (El.mk zz3 zz4)))); let zz11 := (cut (ks B) 0 (List.length B)); let zz12 := (Value.slice (some (Addr.mk 6 0 (some 2000))) (List.length A) 0); let zz13 := (List.length (putC zz11 (rkC zz11 zz3) (hitC zz11 zz3) zz3)); let zz14 := (Prod.fst (Prod.snd (Gv.putF O7 5000 m' y' (El.mk zz3 zz4)))); (decide ((↑i : Int) < (↑zz1 : Int)) = true → Vc ((0 : Int) ≤ (↑i : Int) ∧ (↑i : Int) < (↑zz1 : Int) ∧ 0 + List.length (Acts.i b) ≤ List.length (Acts.i b)) ∧ Vc (0 + Int.toNat (↑i : Int) < List.length (Acts.i b)) ∧ Vc ((0 : Int) ≤ (↑i : Int) ∧ (↑i : Int) < (↑zz1 : Int) ∧ 0 + List.length (Acts.i b) ≤ List.length (Acts.i b)) ∧ Vc (0 + Int.toNat (↑i : Int) < List.length (Acts.i b)) ∧ (decide zz2 = true → Vc (PP m' ∧ Gv.PutD O7 5000 m' x' (El.mk zz3 zz4)) ∧ Vc ((0 + List.length A ≤ List.length A ∧ True) ∧ List.length A = List.length zz5 ∧ List.length A = List.length zz5 ∧ List.length (cut (wsL A) 0 (List.length A)) = List.length zz5 ∧ List.length zz5 ≤ 100000 ∧ (hitC zz5 zz3 = true ∨ (↑(List.length zz5) : Int) < (1000 : Int))) ∧ Vc (fits ((↑i : Int) + (1 : Int))) ∧ Post (∃ j, W7.Ok j b key L k n ∧ List.length (Acts.i b) - W7.i j < List.length (Acts.i b) - i ∧ FitsM Rt 2 186 [1, 2, 7, 11, 12, 13, 14] [zz18 key, Value.slice (some (Addr.mk 1 0 (some 3000))) zz1 0, zz17, zz16, match W7.oa j with | false => Value.slice (some (Addr.mk 3 0 (some 2000))) k 0 | true => Value.slice (some (Addr.mk 6 0 (some 2000))) (List.length (W7.A j)) 0, match W7.ob j with | false => Value.slice (some (Addr.mk 3 k (some 4002000))) (List.length L - k) 0 | true => Value.slice (some (Addr.mk 7 0 (some 2000))) (List.length (W7.B j)) 0, zz18 (↑(W7.i j) : Int)] [some (Sum.inr (Sum.inr (Sum.inl (actsRow a)))), some (Sum.inr (Sum.inr (Sum.inl (actsRow b)))), cT 4 (W7.x j), rE (ks L) (wsL L), pT (W7.m j), cT 4 (W7.y j), match W7.oa j with | false => none | true => rN (W7.A j), match W7.ob j with | false => none | true => rN (W7.B j)] [some (zz18 key), some zz6, some zz7, some zz8, some (Value.slice (some (Addr.mk 10 0 (some 2000))) (List.length (putC zz5 (rkC zz5 zz3) (hitC zz5 zz3) zz3)) 0), some zz9, some (zz18 ((↑i : Int) + (1 : Int)))] [some (Sum.inr (Sum.inr (Sum.inl (Row.mk [zz18 0, zz18 0, zz18 0] (List.length (Acts.i a)) [Col.mk (Acts.i a) [] [], Col.mk (Acts.k a) [] [], Col.mk (Acts.w a) [] []])))), some (Sum.inr (Sum.inr (Sum.inl (Row.mk [zz18 0, zz18 0, zz18 0] zz1 [Col.mk (Acts.i b) [] [], Col.mk (Acts.k b) [] [], Col.mk (Acts.w b) [] []])))), some (Sum.inl (76, [zz15, zz18 (Gv.Ref.i zz10), zz18 (Gv.Ref.g zz10)])), some (Sum.inr (Sum.inl (38, Row.mk [zz18 0, zz18 0] (List.length (ks L)) [Col.mk (ks L) [] [], Col.mk (wsL L) [] []]))), some (Sum.inr (Sum.inr (Sum.inr (Rt.pool (Prod.snd (Prod.snd (Gv.putF O7 5000 m' x' (El.mk zz3 zz4)))))))), some (Sum.inl (76, [zz15, zz18 (Gv.Ref.i y'), zz18 (Gv.Ref.g y')])), some (Sum.inr (Sum.inl (38, Row.mk [zz18 0, zz18 0] (List.length A) [Col.mk (ks A) [] [], Col.mk (wsL A) [] []]))), some (Sum.inr (Sum.inl (38, Row.mk [zz18 0, zz18 0] (List.length B) [Col.mk (ks B) [] [], Col.mk (wsL B) [] []]))), some (Sum.inl (38, [zz18 zz3, zz18 zz4])), none, some (Sum.inr (Sum.inl (38, Row.mk [zz18 0, zz18 0] (List.length (putC zz5 (rkC zz5 zz3) (hitC zz5 zz3) zz3)) [Col.mk (putC zz5 (rkC zz5 zz3) (hitC zz5 zz3) zz3) [] [], Col.mk (putC (cut (wsL A) 0 (List.length A)) (rkC zz5 zz3) (hitC zz5 zz3) zz4) [] []])))] 186)) ∧ (decide zz2 = false → Vc (PP m' ∧ Gv.PutD O7 5000 m' y' (El.mk zz3 zz4)) ∧ Vc ((0 + List.length B ≤ List.length B ∧ True) ∧ List.length B = List.length zz11 ∧ List.length B = List.length zz11 ∧ List.length (cut (wsL B) 0 (List.length B)) = List.length zz11 ∧ List.length zz11 ≤ 100000 ∧ (hitC zz11 zz3 = true ∨ (↑(List.length zz11) : Int) < (1000 : Int))) ∧ Vc (fits ((↑i : Int) + (1 : Int))) ∧ Post (∃ j, W7.Ok j b key L k n ∧ List.length (Acts.i b) - W7.i j < List.length (Acts.i b) - i ∧ FitsM Rt 2 186 [1, 2, 7, 11, 12, 13, 14] [zz18 key, Value.slice (some (Addr.mk 1 0 (some 3000))) zz1 0, zz17, zz16, match W7.oa j with | false => Value.slice (some (Addr.mk 3 0 (some 2000))) k 0 | true => Value.slice (some (Addr.mk 6 0 (some 2000))) (List.length (W7.A j)) 0, match W7.ob j with | false => Value.slice (some (Addr.mk 3 k (some 4002000))) (List.length L - k) 0 | true => Value.slice (some (Addr.mk 7 0 (some 2000))) (List.length (W7.B j)) 0, zz18 (↑(W7.i j) : Int)] [some (Sum.inr (Sum.inr (Sum.inl (actsRow a)))), some (Sum.inr (Sum.inr (Sum.inl (actsRow b)))), cT 4 (W7.x j), rE (ks L) (wsL L), pT (W7.m j), cT 4 (W7.y j), match W7.oa j with | false => none | true => rN (W7.A j), match W7.ob j with | false => none | true => rN (W7.B j)] [some (zz18 key), some zz6, some zz7, some zz8, some zz12, some (Value.slice (some (Addr.mk 10 0 (some 2000))) zz13 0), some (zz18 ((↑i : Int) + (1 : Int)))] [some (Sum.inr (Sum.inr (Sum.inl (Row.mk [zz18 0, zz18 0, zz18 0] (List.length (Acts.i a)) [Col.mk (Acts.i a) [] [], Col.mk (Acts.k a) [] [], Col.mk (Acts.w a) [] []])))), some (Sum.inr (Sum.inr (Sum.inl (Row.mk [zz18 0, zz18 0, zz18 0] zz1 [Col.mk (Acts.i b) [] [], Col.mk (Acts.k b) [] [], Col.mk (Acts.w b) [] []])))), some (Sum.inl (76, [zz15, zz18 (Gv.Ref.i x'), zz18 (Gv.Ref.g x')])), some (Sum.inr (Sum.inl (38, Row.mk [zz18 0, zz18 0] (List.length (ks L)) [Col.mk (ks L) [] [], Col.mk (wsL L) [] []]))), some (Sum.inr (Sum.inr (Sum.inr (Rt.pool (Prod.snd (Prod.snd (Gv.putF O7 5000 m' y' (El.mk zz3 zz4)))))))), some (Sum.inl (76, [zz15, zz18 (Gv.Ref.i zz14), zz18 (Gv.Ref.g zz14)])), some (Sum.inr (Sum.inl (38, Row.mk [zz18 0, zz18 0] (List.length A) [Col.mk (ks A) [] [], Col.mk (wsL A) [] []]))), some (Sum.inr (Sum.inl (38, Row.mk [zz18 0, zz18 0] (List.length B) [Col.mk (ks B) [] [], Col.mk (wsL B) [] []]))), some (Sum.inl (38, [zz18 zz3, zz18 zz4])), none, some (Sum.inr (Sum.inl (38, Row.mk [zz18 0, zz18 0] zz13 [Col.mk (putC zz11 (rkC zz11 zz3) (hitC zz11 zz3) zz3) [] [], Col.mk (putC (cut (wsL B) 0 (List.length B)) (rkC zz11 zz3) (hitC zz11 zz3) zz4) [] []])))] 186))) ∧ (decide ((↑i : Int) < (↑zz1 : Int)) = false → At D2 Try.prog (codeOf Try.f6) 2 (GP G) [Sum.inl [1, 1, 1, 1, 1, 1, 1, 1, 1, 1]] (SS.mk [none, some (zz18 key), some zz6, none, none, none, none, some zz7, none, none, none, some zz8, some zz12, some zz9, some (zz18 (↑i : Int)), none, none, none, none, none, none, none, none, none, none, none, none, none, none, none, none, none, none, none, none, none, none, none, none, none, none, none, none, none, none, none, none, none, none, none, none, none, none, none, none, none, none, none, none, none, none, none, none, none, none, none, none, none, none, none, none, none, none, none, none, none, none, none, none, none, none, none, none, none, none, none, none, none, none, none, none, none, none, none, none, none, some (zz18 (↑i : Int)), some zz6, some (zz18 (↑zz1 : Int)), some (Value.bool false), none, none, none, none, none, none, none, none, none, none, none, none, none, none, none, none, none, none, none, none, none, none, none, none, none, none, none, none, none, none, none, none, none, none, none, none, none, none, none, none, none, none, none, none, none, none, none, none, none, none, none, none, none, none, none, none, none, none, none, none, none, none, none, none, none, none, none, none, none, none, none, none, none, none, none, none, none, none, none, none, none, none, none, none, none, none] [(99, false)] [some (Sum.inr (Sum.inr (Sum.inl (Row.mk [zz18 0, zz18 0, zz18 0] (List.length (Acts.i a)) [Col.mk (Acts.i a) [] [], Col.mk (Acts.k a) [] [], Col.mk (Acts.w a) [] []])))), some (Sum.inr (Sum.inr (Sum.inl (Row.mk [zz18 0, zz18 0, zz18 0] zz1 [Col.mk (Acts.i b) [] [], Col.mk (Acts.k b) [] [], Col.mk (Acts.w b) [] []])))), some (Sum.inl (76, [zz15, zz18 (Gv.Ref.i x'), zz18 (Gv.Ref.g x')])), some (Sum.inr (Sum.inl (38, Row.mk [zz18 0, zz18 0] (List.length (ks L)) [Col.mk (ks L) [] [], Col.mk (wsL L) [] []]))), some (Sum.inr (Sum.inr (Sum.inr (Rt.pool m')))), some (Sum.inl (76, [zz15, zz18 (Gv.Ref.i y'), zz18 (Gv.Ref.g y')])), some (Sum.inr (Sum.inl (38, Row.mk [zz18 0, zz18 0] (List.length A) [Col.mk (ks A) [] [], Col.mk (wsL A) [] []]))), some (Sum.inr (Sum.inl (38, Row.mk [zz18 0, zz18 0] (List.length B) [Col.mk (ks B) [] [], Col.mk (wsL B) [] []])))]))) ?_ (by kernel_rfl)
      intro zz15 zz16 zz17 zz18 zz1 zz2 zz3 zz4 zz5 zz6 zz7 zz8 zz9 zz10 zz11 zz12 zz13 zz14; subst zz14 zz13 zz12 zz11 zz10 zz9 zz8 zz7 zz6 zz5 zz4 zz3 zz2 zz1 zz18 zz17 zz16 zz15
      have e0 : 0 + (i : Int).toNat = i := by omega
      have q1 : cut (ks A) 0 A.length = ks A := cut_eq (by simp)
      have q2 : cut (wsL A) 0 A.length = wsL A := cut_eq (by simp)
      have q3 : cut (ks B) 0 B.length = ks B := cut_eq (by simp)
      have q4 : cut (wsL B) 0 B.length = wsL B := cut_eq (by simp)
      simp only [e0, q1, q2, q3, q4]
      have la : (ks A).length = A.length := List.length_map _
      have lb : (ks B).length = B.length := List.length_map _
      have wa : (wsL A).length = A.length := List.length_map _
      have wb : (wsL B).length = B.length := List.length_map _
      have hla := hs'.la
      simp only at hla
      refine ⟨fun h => ?_, fun h => ?_⟩
      · have hlt : i < b.i.length := by have := of_decide_eq_true h; omega
        have hw := hm.2 _ (getD_mem (d := 0) (show i < b.w.length by rw [hb.w]; exact hlt))
        refine ⟨⟨by omega, by omega, by omega⟩, ⟨⟨hlt⟩, ⟨⟨by omega, by omega, by omega⟩, ⟨⟨hlt⟩, ⟨fun h2 => ?_, fun h2 => ?_⟩⟩⟩⟩⟩
        · have h2 := of_decide_eq_true h2
          obtain ⟨u1, u2, f, r', m2, u3, u4⟩ := hs'.putA hlt hbl hn (e := ⟨b.k.getD i 0, b.w.getD i 0⟩) hw (h2)
          simp only at u1 u2 u3 u4
          have p1 : putC (ks A) (rkC (ks A) (b.k.getD i 0)) (hitC (ks A) (b.k.getD i 0)) (b.k.getD i 0) = ks (Gv.putE O7 ⟨b.k.getD i 0, b.w.getD i 0⟩ A) := (putE_ks ⟨b.k.getD i 0, b.w.getD i 0⟩ A).symm
          have p2 : putC (wsL A) (rkC (ks A) (b.k.getD i 0)) (hitC (ks A) (b.k.getD i 0)) (b.w.getD i 0) = wsL (Gv.putE O7 ⟨b.k.getD i 0, b.w.getD i 0⟩ A) := (putE_ws ⟨b.k.getD i 0, b.w.getD i 0⟩ A).symm
          have p3 : (ks (Gv.putE O7 ⟨b.k.getD i 0, b.w.getD i 0⟩ A)).length = (Gv.putE O7 ⟨b.k.getD i 0, b.w.getD i 0⟩ A).length := List.length_map _
          simp only [u3, p1, p2, p3]
          refine ⟨⟨u1, u2⟩, ⟨⟨⟨by omega, trivial⟩, by omega, by omega, by omega, by omega, .inr (by omega)⟩, ⟨⟨by omega, by omega⟩, ⟨⟨_, u4, by simp only; omega, ⟨[0, 1, 2, 3, 4, 5, 10, 7], rfl, ⟨rfl, rfl, .inl rfl, ⟨_, rfl, .inl rfl⟩, rfl, .inl rfl, ⟨_, rfl, .inl rfl⟩, ⟨_, rfl, .inl rfl⟩, trivial⟩, rfl, rfl, rfl, rfl⟩⟩⟩⟩⟩⟩
        · have h2 := of_decide_eq_false h2
          obtain ⟨u1, u2, f, r', m2, u3, u4⟩ := hs'.putB hlt hbl hn (e := ⟨b.k.getD i 0, b.w.getD i 0⟩) hw (Int.not_lt.1 h2)
          simp only at u1 u2 u3 u4
          have p1 : putC (ks B) (rkC (ks B) (b.k.getD i 0)) (hitC (ks B) (b.k.getD i 0)) (b.k.getD i 0) = ks (Gv.putE O7 ⟨b.k.getD i 0, b.w.getD i 0⟩ B) := (putE_ks ⟨b.k.getD i 0, b.w.getD i 0⟩ B).symm
          have p2 : putC (wsL B) (rkC (ks B) (b.k.getD i 0)) (hitC (ks B) (b.k.getD i 0)) (b.w.getD i 0) = wsL (Gv.putE O7 ⟨b.k.getD i 0, b.w.getD i 0⟩ B) := (putE_ws ⟨b.k.getD i 0, b.w.getD i 0⟩ B).symm
          have p3 : (ks (Gv.putE O7 ⟨b.k.getD i 0, b.w.getD i 0⟩ B)).length = (Gv.putE O7 ⟨b.k.getD i 0, b.w.getD i 0⟩ B).length := List.length_map _
          simp only [u3, p1, p2, p3]
          refine ⟨⟨u1, u2⟩, ⟨⟨⟨by omega, trivial⟩, by omega, by omega, by omega, by omega, .inr (by omega)⟩, ⟨⟨by omega, by omega⟩, ⟨⟨_, u4, by simp only; omega, ⟨[0, 1, 2, 3, 4, 5, 6, 10], rfl, ⟨rfl, rfl, .inl rfl, ⟨_, rfl, .inl rfl⟩, rfl, .inl rfl, ⟨_, rfl, .inl rfl⟩, ⟨_, rfl, .inl rfl⟩, trivial⟩, rfl, rfl, rfl, rfl⟩⟩⟩⟩⟩⟩
      · refine At.fit [7, 11, 12, 13] [.pointer (some ⟨2, 0, none⟩), .pointer (some ⟨5, 0, none⟩), .slice (some ⟨6, 0, some 2000⟩) A.length 0, .slice (some ⟨7, 0, some 2000⟩) B.length 0] [some (.inr (.inr (.inl (actsRow a)))), some (.inr (.inr (.inl (actsRow b)))), cT 4 x', rE (ks L) (wsL L), pT m', cT 4 y', rN A, rN B] 186 ⟨rfl, rfl, Nat.le_add_left 2 6⟩ ⟨[0, 1, 2, 3, 4, 5, 6, 7], rfl, ⟨rfl, rfl, .inl rfl, ⟨_, rfl, .inl rfl⟩, rfl, .inl rfl, ⟨_, rfl, .inl rfl⟩, ⟨_, rfl, .inl rfl⟩, trivial⟩, rfl, rfl, rfl, rfl⟩ (next ⟨i, A, B, x', y', m', true, true⟩ hs')
end Go.Proofs.Ytclagkjjgmeifaa.G7


/- grove: the law GroveParts: its end. -/
namespace Go.Proofs.Ytclagkjjgmeifaa.G7
open Go.Proofs.Ytclagkjjgmeifaa.Rx Go.Proofs.Ytclagkjjgmeifaa.D7
set_option linter.unusedVariables false
set_option linter.unusedSimpArgs false
set_option maxRecDepth 100000
set_option maxHeartbeats 16000000
theorem ahead_keys {key : Int} {A B : List El} (ha : ∀ e ∈ A, e.k < key) (hb : ∀ e ∈ B, key ≤ e.k) : Gv.aheadE O7 A B = true := by
  unfold Gv.aheadE
  refine decide_eq_true ?_
  by_cases h1 : A = []
  · exact .inl h1
  by_cases h2 : B = []
  · exact .inr (.inl h2)
  have l1 : 0 < A.length := List.length_pos_iff.2 h1
  have l2 : 0 < B.length := List.length_pos_iff.2 h2
  have e1 : A.getD (A.length - 1) O7.e0 = A[A.length - 1] := by rw [List.getD_eq_getElem?_getD, List.getElem?_eq_getElem (by omega)]; rfl
  have e2 : B.getD 0 O7.e0 = B[0] := by rw [List.getD_eq_getElem?_getD, List.getElem?_eq_getElem l2]; rfl
  refine .inr (.inr ((cmp_neg _ _).2 ?_))
  rw [e1, e2]
  have k1 := ha _ (List.getElem_mem (show A.length - 1 < A.length by omega))
  have k2 := hb _ (List.getElem_mem l2)
  omega
theorem good7_app {A B : List El} (ha : good7 A) (hb : good7 B) (hl : A.length + B.length ≤ 1000) : good7 (A ++ B) := ⟨by rw [List.length_map, List.length_append]; exact hl, fun v hv => by
  rw [List.map_append] at hv
  rcases List.mem_append.1 hv with hv | hv
  · exact ha.2 v hv
  · exact hb.2 v hv⟩
theorem W7.Ok.fin {s : W7} {b : Acts} {key : Int} {L : List El} {k n : Nat} (h : s.Ok b key L k n) (hbl : b.i.length ≤ 20) (hn : n ≤ 60) :
    (PP s.m ∧ AlikeD 5000 s.m s.x ∧ alikeB 5000 s.m s.x (ks s.A) (wsL s.A) = true) ∧ (PP (alikeM 5000 s.m s.x) ∧ AlikeD 5000 (alikeM 5000 s.m s.x) s.y ∧ alikeB 5000 (alikeM 5000 s.m s.x) s.y (ks s.B) (wsL s.B) = true) ∧
    (PP (alikeM 5000 (alikeM 5000 s.m s.x) s.y) ∧ Gv.JoinD O7 5000 (alikeM 5000 (alikeM 5000 s.m s.x) s.y) s.x s.y) ∧ ∃ r m', Gv.joinF O7 5000 (alikeM 5000 (alikeM 5000 s.m s.x) s.y) s.x s.y = (true, r, Gv.r0, m') ∧ T7 (n + s.i) m' r (s.A ++ s.B) 200 := by
  have hla := h.la
  have hi := h.i
  obtain ⟨u1, u2, u3⟩ := h.p.alike (K := 5000) (by omega) s.A
  obtain ⟨v1, v2, v3⟩ := u3.swap.alike (K := 5000) (by omega) s.B
  rw [decide_eq_true rfl] at u2 v2
  obtain ⟨j1, j2, _⟩ := v3.swap.join (K := 5000) (by omega) (good7_app h.p.good h.p.swap.good (by omega)) (by omega)
  exact ⟨⟨h.p.ok (by omega), u1, u2⟩, ⟨u3.ok (by omega), v1, v2⟩, ⟨v3.ok (by omega), j1⟩, j2 (ahead_keys h.a h.b)⟩
theorem parts4 {G : Value → Hp Rt → Prop} {a b : Acts} {key : Int} {L : List El} {k n : Nat} (hbl : b.i.length ≤ 20) (hkl : k ≤ L.length) (hl : L.length ≤ 50) (hn : n ≤ 60) (s : W7) (hs' : s.Ok b key L k n)
    (next : ∀ r m', T7 (n + s.i) m' r (s.A ++ s.B) 200 → At D2 Try.prog (codeOf Try.f6) 2 (GP G) [.inl [1, 1, 1, 1, 1, 1, 1, 1, 1, 1, 1, 1]] ⟨frame [7, 11, 12, 13, 16] [.pointer (some ⟨2, 0, none⟩), .pointer (some ⟨5, 0, none⟩), s.sa k, s.sb k L.length, .slice (some ⟨8, 0, some 2000⟩) 0 0] 0 186, [], [some (.inr (.inr (.inl (actsRow a)))), some (.inr (.inr (.inl (actsRow b)))), cT 4 r, rE (ks L) (wsL L), pT m', cT 4 Gv.r0, s.ra, s.rb, rN []]⟩) :
    At D2 Try.prog (codeOf Try.f6) 2 (GP G) [.inl [1, 1, 1, 1, 1, 1, 1, 1, 1, 1]] ⟨frame [7, 11, 12, 13] [.pointer (some ⟨2, 0, none⟩), .pointer (some ⟨5, 0, none⟩), s.sa k, s.sb k L.length] 0 186, [], [some (.inr (.inr (.inl (actsRow a)))), some (.inr (.inr (.inl (actsRow b)))), cT 4 s.x, rE (ks L) (wsL L), pT s.m, cT 4 s.y, s.ra, s.rb]⟩ := by
  have kl : (ks L).length = L.length := List.length_map _
  have wl : (wsL L).length = L.length := List.length_map _
  obtain ⟨f1, f2, f3, r, m2, f4, f5⟩ := hs'.fin hbl hn
  have nx := next r m2 f5
  clear next
  obtain ⟨i, A, B, x', y', m', oa, ob⟩ := s
  simp only at f1 f2 f3 f4 f5
  cases oa
  · cases ob
    · dsimp only [W7.sa, W7.sb, W7.ra, W7.rb] at nx ⊢
      obtain rfl : A = L.take k := hs'.na rfl
      obtain rfl : B = L.drop k := hs'.nb rfl
      refine rxS_ok (T := TP7) [[1, 1, 1, 1, 1, 1, 1, 1, 1, 1, 1, 1]] TP7_ok mixed 200 ?_
      refine as_text (q := let zz10 := Value.pointer (some (Addr.mk 4 0 none)); let zz11 := Value.int IntKind.i64; let zz1 := (cut (ks L) 0 k); let zz2 := (alikeM 5000 m' x'); let zz3 := (cut (ks L) k (List.length L - k)); let zz4 := (cut (wsL L) k (List.length L - k)); let zz5 := (Gv.joinF O7 5000 (alikeM 5000 zz2 y') x' y'); let zz6 := (Value.bool false); let zz7 := (Value.pointer (some (Addr.mk 2 0 none))); let zz8 := (Value.pointer (some (Addr.mk 5 0 none))); let zz9 := (Value.slice (some (Addr.mk 3 k (some 4002000))) (List.length L - k) 0); Vc ((0 + k ≤ List.length (ks L) ∧ True) ∧ PP m' ∧ AlikeD 5000 m' x' ∧ k = List.length zz1 ∧ k = List.length zz1 ∧ List.length (cut (wsL L) 0 k) = List.length zz1) ∧ ((!alikeB 5000 m' x' zz1 (cut (wsL L) 0 k)) = false → Vc ((k + (List.length L - k) ≤ List.length (ks L) ∧ True) ∧ PP zz2 ∧ AlikeD 5000 zz2 y' ∧ List.length L - k = List.length zz3 ∧ List.length L - k = List.length zz3 ∧ List.length zz4 = List.length zz3) ∧ ((!alikeB 5000 zz2 y' zz3 zz4) = false → Vc (PP (alikeM 5000 zz2 y') ∧ Gv.JoinD O7 5000 (alikeM 5000 zz2 y') x' y') ∧ ((!Prod.fst zz5) = true → Post (G zz6 [some (Sum.inr (Sum.inr (Sum.inl (Row.mk [zz11 0, zz11 0, zz11 0] (List.length (Acts.i a)) [Col.mk (Acts.i a) [] [], Col.mk (Acts.k a) [] [], Col.mk (Acts.w a) [] []])))), some (Sum.inr (Sum.inr (Sum.inl (Row.mk [zz11 0, zz11 0, zz11 0] (List.length (Acts.i b)) [Col.mk (Acts.i b) [] [], Col.mk (Acts.k b) [] [], Col.mk (Acts.w b) [] []])))), some (Sum.inl (76, [zz10, zz11 (Gv.Ref.i (Prod.fst (Prod.snd zz5))), zz11 (Gv.Ref.g (Prod.fst (Prod.snd zz5)))])), some (Sum.inr (Sum.inl (38, Row.mk [zz11 0, zz11 0] (List.length (ks L)) [Col.mk (ks L) [] [], Col.mk (wsL L) [] []]))), some (Sum.inr (Sum.inr (Sum.inr (Rt.pool (Prod.snd (Prod.snd (Prod.snd zz5))))))), some (Sum.inl (76, [zz10, zz11 (Gv.Ref.i (Prod.fst (Prod.snd (Prod.snd zz5)))), zz11 (Gv.Ref.g (Prod.fst (Prod.snd (Prod.snd zz5))))])), none, none, none, none])) ∧ ((!Prod.fst zz5) = false → At D2 Try.prog (codeOf Try.f6) 2 (GP G) [Sum.inl [1, 1, 1, 1, 1, 1, 1, 1, 1, 1, 1, 1]] (SS.mk [none, none, none, none, none, none, none, some zz7, none, none, none, some zz8, some (Value.slice (some (Addr.mk 3 0 (some 2000))) k 0), some zz9, none, none, some (Value.slice (some (Addr.mk 10 0 (some 2000))) 0 0), none, none, none, none, none, none, none, none, none, none, none, none, none, none, none, none, none, none, none, none, none, none, none, none, none, none, none, none, none, none, none, none, none, none, none, none, none, none, none, none, none, none, none, none, none, none, none, none, none, none, none, none, none, none, none, none, none, none, none, none, none, none, none, none, none, none, none, none, none, none, none, none, none, none, none, none, none, none, none, none, none, none, none, none, none, none, none, none, none, none, none, none, none, none, none, none, none, none, none, none, none, none, none, none, none, none, none, none, none, none, none, none, none, none, none, none, none, none, none, none, none, none, none, none, none, none, some zz7, some (Value.slice (some (Addr.mk 3 0 (some 2000))) k 0), some (Value.bool (alikeB 5000 m' x' zz1 (cut (wsL L) 0 k))), some (Value.bool !alikeB 5000 m' x' zz1 (cut (wsL L) 0 k)), some zz6, some zz8, some zz9, some (Value.bool (alikeB 5000 zz2 y' zz3 zz4)), some (Value.bool !alikeB 5000 zz2 y' zz3 zz4), some (Value.bool !alikeB 5000 zz2 y' zz3 zz4), some zz6, some zz7, some zz8, some (Value.bool (Prod.fst zz5)), some (Value.bool !Prod.fst zz5), some zz6, none, none, none, none, none, none, none, none, none, none, none, none, none, none, none, none, none, none, none, none, none, none, none, none, none, none, none] [(158, false), (153, false), (147, false)] [some (Sum.inr (Sum.inr (Sum.inl (Row.mk [zz11 0, zz11 0, zz11 0] (List.length (Acts.i a)) [Col.mk (Acts.i a) [] [], Col.mk (Acts.k a) [] [], Col.mk (Acts.w a) [] []])))), some (Sum.inr (Sum.inr (Sum.inl (Row.mk [zz11 0, zz11 0, zz11 0] (List.length (Acts.i b)) [Col.mk (Acts.i b) [] [], Col.mk (Acts.k b) [] [], Col.mk (Acts.w b) [] []])))), some (Sum.inl (76, [zz10, zz11 (Gv.Ref.i (Prod.fst (Prod.snd zz5))), zz11 (Gv.Ref.g (Prod.fst (Prod.snd zz5)))])), some (Sum.inr (Sum.inl (38, Row.mk [zz11 0, zz11 0] (List.length (ks L)) [Col.mk (ks L) [] [], Col.mk (wsL L) [] []]))), some (Sum.inr (Sum.inr (Sum.inr (Rt.pool (Prod.snd (Prod.snd (Prod.snd zz5))))))), some (Sum.inl (76, [zz10, zz11 (Gv.Ref.i (Prod.fst (Prod.snd (Prod.snd zz5)))), zz11 (Gv.Ref.g (Prod.fst (Prod.snd (Prod.snd zz5))))])), none, none, none, none, some (Sum.inr (Sum.inl (38, Row.mk [zz11 0, zz11 0] 0 [Col.mk [] [] [], Col.mk [] [] []])))]))) ∧ ((!alikeB 5000 zz2 y' zz3 zz4) = true → Post (G zz6 [some (Sum.inr (Sum.inr (Sum.inl (Row.mk [zz11 0, zz11 0, zz11 0] (List.length (Acts.i a)) [Col.mk (Acts.i a) [] [], Col.mk (Acts.k a) [] [], Col.mk (Acts.w a) [] []])))), some (Sum.inr (Sum.inr (Sum.inl (Row.mk [zz11 0, zz11 0, zz11 0] (List.length (Acts.i b)) [Col.mk (Acts.i b) [] [], Col.mk (Acts.k b) [] [], Col.mk (Acts.w b) [] []])))), some (Sum.inl (76, [zz10, zz11 (Gv.Ref.i x'), zz11 (Gv.Ref.g x')])), some (Sum.inr (Sum.inl (38, Row.mk [zz11 0, zz11 0] (List.length (ks L)) [Col.mk (ks L) [] [], Col.mk (wsL L) [] []]))), some (Sum.inr (Sum.inr (Sum.inr (Rt.pool (alikeM 5000 zz2 y'))))), some (Sum.inl (76, [zz10, zz11 (Gv.Ref.i y'), zz11 (Gv.Ref.g y')])), none, none, none, none]))) ∧ ((!alikeB 5000 m' x' zz1 (cut (wsL L) 0 k)) = true → Post (G zz6 [some (Sum.inr (Sum.inr (Sum.inl (Row.mk [zz11 0, zz11 0, zz11 0] (List.length (Acts.i a)) [Col.mk (Acts.i a) [] [], Col.mk (Acts.k a) [] [], Col.mk (Acts.w a) [] []])))), some (Sum.inr (Sum.inr (Sum.inl (Row.mk [zz11 0, zz11 0, zz11 0] (List.length (Acts.i b)) [Col.mk (Acts.i b) [] [], Col.mk (Acts.k b) [] [], Col.mk (Acts.w b) [] []])))), some (Sum.inl (76, [zz10, zz11 (Gv.Ref.i x'), zz11 (Gv.Ref.g x')])), some (Sum.inr (Sum.inl (38, Row.mk [zz11 0, zz11 0] (List.length (ks L)) [Col.mk (ks L) [] [], Col.mk (wsL L) [] []]))), some (Sum.inr (Sum.inr (Sum.inr (Rt.pool zz2)))), some (Sum.inl (76, [zz10, zz11 (Gv.Ref.i y'), zz11 (Gv.Ref.g y')])), none, none, none]))) ?_ (by kernel_rfl)
      intro zz10 zz11 zz1 zz2 zz3 zz4 zz5 zz6 zz7 zz8 zz9; subst zz9 zz8 zz7 zz6 zz5 zz4 zz3 zz2 zz1 zz11 zz10
      have q1 : cut (ks L) 0 k = ks (L.take k) := by unfold cut ks; simp [List.map_take]
      have q2 : cut (wsL L) 0 k = wsL (L.take k) := by unfold cut wsL; simp [List.map_take]
      have q3 : cut (ks L) k (L.length - k) = ks (L.drop k) := by rw [cut_drop (by rw [kl]; omega)]; exact (List.map_drop).symm
      have q4 : cut (wsL L) k (L.length - k) = wsL (L.drop k) := by rw [cut_drop (by rw [wl]; omega)]; exact (List.map_drop).symm
      have l1 : (ks (L.take k)).length = k := by simp [ks]; omega
      have l2 : (wsL (L.take k)).length = k := by simp [wsL]; omega
      have l3 : (ks (L.drop k)).length = L.length - k := by simp [ks]
      have l4 : (wsL (L.drop k)).length = L.length - k := by simp [wsL]
      simp only [q1, q2, q3, q4, l1, l2, l3, l4, f1.2.2, f2.2.2, f4]
      refine ⟨⟨⟨by omega, trivial⟩, f1.1, f1.2.1, trivial, trivial, trivial⟩, ⟨fun _ => ⟨⟨⟨by omega, trivial⟩, f2.1, f2.2.1, trivial, trivial, trivial⟩, ⟨fun _ => ⟨⟨f3.1, f3.2⟩, ⟨(fun h => by cases h), fun _ => ?_⟩⟩, (fun h => by cases h)⟩⟩, (fun h => by cases h)⟩⟩
      exact At.fit [7, 11, 12, 13, 16] [.pointer (some ⟨2, 0, none⟩), .pointer (some ⟨5, 0, none⟩), .slice (some ⟨3, 0, some 2000⟩) k 0, .slice (some ⟨3, k, some 4002000⟩) (L.length - k) 0, .slice (some ⟨8, 0, some 2000⟩) 0 0] [some (.inr (.inr (.inl (actsRow a)))), some (.inr (.inr (.inl (actsRow b)))), cT 4 r, rE (ks L) (wsL L), pT m2, cT 4 Gv.r0, none, none, rN []] 186 ⟨rfl, rfl, Nat.le_add_left 2 7⟩ ⟨[0, 1, 2, 3, 4, 5, 6, 7, 10], rfl, ⟨rfl, rfl, .inl rfl, ⟨_, rfl, .inl rfl⟩, rfl, .inl rfl, ⟨_, rfl, .inl rfl⟩, trivial⟩, rfl, rfl, rfl, rfl⟩ nx
    · dsimp only [W7.sa, W7.sb, W7.ra, W7.rb] at nx ⊢
      obtain rfl : A = L.take k := hs'.na rfl
      refine rxS_ok (T := TP7) [[1, 1, 1, 1, 1, 1, 1, 1, 1, 1, 1, 1]] TP7_ok mixed 200 ?_
      refine as_text (q := let zz10 := Value.pointer (some (Addr.mk 4 0 none)); let zz11 := Value.int IntKind.i64; let zz1 := (cut (ks L) 0 k); let zz2 := (alikeM 5000 m' x'); let zz3 := (cut (ks B) 0 (List.length B)); let zz4 := (cut (wsL B) 0 (List.length B)); let zz5 := (Gv.joinF O7 5000 (alikeM 5000 zz2 y') x' y'); let zz6 := (Value.bool false); let zz7 := (Value.pointer (some (Addr.mk 2 0 none))); let zz8 := (Value.pointer (some (Addr.mk 5 0 none))); let zz9 := (Value.slice (some (Addr.mk 7 0 (some 2000))) (List.length B) 0); Vc ((0 + k ≤ List.length (ks L) ∧ True) ∧ PP m' ∧ AlikeD 5000 m' x' ∧ k = List.length zz1 ∧ k = List.length zz1 ∧ List.length (cut (wsL L) 0 k) = List.length zz1) ∧ ((!alikeB 5000 m' x' zz1 (cut (wsL L) 0 k)) = false → Vc ((0 + List.length B ≤ List.length B ∧ True) ∧ PP zz2 ∧ AlikeD 5000 zz2 y' ∧ List.length B = List.length zz3 ∧ List.length B = List.length zz3 ∧ List.length zz4 = List.length zz3) ∧ ((!alikeB 5000 zz2 y' zz3 zz4) = false → Vc (PP (alikeM 5000 zz2 y') ∧ Gv.JoinD O7 5000 (alikeM 5000 zz2 y') x' y') ∧ ((!Prod.fst zz5) = true → Post (G zz6 [some (Sum.inr (Sum.inr (Sum.inl (Row.mk [zz11 0, zz11 0, zz11 0] (List.length (Acts.i a)) [Col.mk (Acts.i a) [] [], Col.mk (Acts.k a) [] [], Col.mk (Acts.w a) [] []])))), some (Sum.inr (Sum.inr (Sum.inl (Row.mk [zz11 0, zz11 0, zz11 0] (List.length (Acts.i b)) [Col.mk (Acts.i b) [] [], Col.mk (Acts.k b) [] [], Col.mk (Acts.w b) [] []])))), some (Sum.inl (76, [zz10, zz11 (Gv.Ref.i (Prod.fst (Prod.snd zz5))), zz11 (Gv.Ref.g (Prod.fst (Prod.snd zz5)))])), some (Sum.inr (Sum.inl (38, Row.mk [zz11 0, zz11 0] (List.length (ks L)) [Col.mk (ks L) [] [], Col.mk (wsL L) [] []]))), some (Sum.inr (Sum.inr (Sum.inr (Rt.pool (Prod.snd (Prod.snd (Prod.snd zz5))))))), some (Sum.inl (76, [zz10, zz11 (Gv.Ref.i (Prod.fst (Prod.snd (Prod.snd zz5)))), zz11 (Gv.Ref.g (Prod.fst (Prod.snd (Prod.snd zz5))))])), none, some (Sum.inr (Sum.inl (38, Row.mk [zz11 0, zz11 0] (List.length B) [Col.mk (ks B) [] [], Col.mk (wsL B) [] []]))), none, none])) ∧ ((!Prod.fst zz5) = false → At D2 Try.prog (codeOf Try.f6) 2 (GP G) [Sum.inl [1, 1, 1, 1, 1, 1, 1, 1, 1, 1, 1, 1]] (SS.mk [none, none, none, none, none, none, none, some zz7, none, none, none, some zz8, some (Value.slice (some (Addr.mk 3 0 (some 2000))) k 0), some zz9, none, none, some (Value.slice (some (Addr.mk 10 0 (some 2000))) 0 0), none, none, none, none, none, none, none, none, none, none, none, none, none, none, none, none, none, none, none, none, none, none, none, none, none, none, none, none, none, none, none, none, none, none, none, none, none, none, none, none, none, none, none, none, none, none, none, none, none, none, none, none, none, none, none, none, none, none, none, none, none, none, none, none, none, none, none, none, none, none, none, none, none, none, none, none, none, none, none, none, none, none, none, none, none, none, none, none, none, none, none, none, none, none, none, none, none, none, none, none, none, none, none, none, none, none, none, none, none, none, none, none, none, none, none, none, none, none, none, none, none, none, none, none, none, none, some zz7, some (Value.slice (some (Addr.mk 3 0 (some 2000))) k 0), some (Value.bool (alikeB 5000 m' x' zz1 (cut (wsL L) 0 k))), some (Value.bool !alikeB 5000 m' x' zz1 (cut (wsL L) 0 k)), some zz6, some zz8, some zz9, some (Value.bool (alikeB 5000 zz2 y' zz3 zz4)), some (Value.bool !alikeB 5000 zz2 y' zz3 zz4), some (Value.bool !alikeB 5000 zz2 y' zz3 zz4), some zz6, some zz7, some zz8, some (Value.bool (Prod.fst zz5)), some (Value.bool !Prod.fst zz5), some zz6, none, none, none, none, none, none, none, none, none, none, none, none, none, none, none, none, none, none, none, none, none, none, none, none, none, none, none] [(158, false), (153, false), (147, false)] [some (Sum.inr (Sum.inr (Sum.inl (Row.mk [zz11 0, zz11 0, zz11 0] (List.length (Acts.i a)) [Col.mk (Acts.i a) [] [], Col.mk (Acts.k a) [] [], Col.mk (Acts.w a) [] []])))), some (Sum.inr (Sum.inr (Sum.inl (Row.mk [zz11 0, zz11 0, zz11 0] (List.length (Acts.i b)) [Col.mk (Acts.i b) [] [], Col.mk (Acts.k b) [] [], Col.mk (Acts.w b) [] []])))), some (Sum.inl (76, [zz10, zz11 (Gv.Ref.i (Prod.fst (Prod.snd zz5))), zz11 (Gv.Ref.g (Prod.fst (Prod.snd zz5)))])), some (Sum.inr (Sum.inl (38, Row.mk [zz11 0, zz11 0] (List.length (ks L)) [Col.mk (ks L) [] [], Col.mk (wsL L) [] []]))), some (Sum.inr (Sum.inr (Sum.inr (Rt.pool (Prod.snd (Prod.snd (Prod.snd zz5))))))), some (Sum.inl (76, [zz10, zz11 (Gv.Ref.i (Prod.fst (Prod.snd (Prod.snd zz5)))), zz11 (Gv.Ref.g (Prod.fst (Prod.snd (Prod.snd zz5))))])), none, some (Sum.inr (Sum.inl (38, Row.mk [zz11 0, zz11 0] (List.length B) [Col.mk (ks B) [] [], Col.mk (wsL B) [] []]))), none, none, some (Sum.inr (Sum.inl (38, Row.mk [zz11 0, zz11 0] 0 [Col.mk [] [] [], Col.mk [] [] []])))]))) ∧ ((!alikeB 5000 zz2 y' zz3 zz4) = true → Post (G zz6 [some (Sum.inr (Sum.inr (Sum.inl (Row.mk [zz11 0, zz11 0, zz11 0] (List.length (Acts.i a)) [Col.mk (Acts.i a) [] [], Col.mk (Acts.k a) [] [], Col.mk (Acts.w a) [] []])))), some (Sum.inr (Sum.inr (Sum.inl (Row.mk [zz11 0, zz11 0, zz11 0] (List.length (Acts.i b)) [Col.mk (Acts.i b) [] [], Col.mk (Acts.k b) [] [], Col.mk (Acts.w b) [] []])))), some (Sum.inl (76, [zz10, zz11 (Gv.Ref.i x'), zz11 (Gv.Ref.g x')])), some (Sum.inr (Sum.inl (38, Row.mk [zz11 0, zz11 0] (List.length (ks L)) [Col.mk (ks L) [] [], Col.mk (wsL L) [] []]))), some (Sum.inr (Sum.inr (Sum.inr (Rt.pool (alikeM 5000 zz2 y'))))), some (Sum.inl (76, [zz10, zz11 (Gv.Ref.i y'), zz11 (Gv.Ref.g y')])), none, some (Sum.inr (Sum.inl (38, Row.mk [zz11 0, zz11 0] (List.length B) [Col.mk (ks B) [] [], Col.mk (wsL B) [] []]))), none, none]))) ∧ ((!alikeB 5000 m' x' zz1 (cut (wsL L) 0 k)) = true → Post (G zz6 [some (Sum.inr (Sum.inr (Sum.inl (Row.mk [zz11 0, zz11 0, zz11 0] (List.length (Acts.i a)) [Col.mk (Acts.i a) [] [], Col.mk (Acts.k a) [] [], Col.mk (Acts.w a) [] []])))), some (Sum.inr (Sum.inr (Sum.inl (Row.mk [zz11 0, zz11 0, zz11 0] (List.length (Acts.i b)) [Col.mk (Acts.i b) [] [], Col.mk (Acts.k b) [] [], Col.mk (Acts.w b) [] []])))), some (Sum.inl (76, [zz10, zz11 (Gv.Ref.i x'), zz11 (Gv.Ref.g x')])), some (Sum.inr (Sum.inl (38, Row.mk [zz11 0, zz11 0] (List.length (ks L)) [Col.mk (ks L) [] [], Col.mk (wsL L) [] []]))), some (Sum.inr (Sum.inr (Sum.inr (Rt.pool zz2)))), some (Sum.inl (76, [zz10, zz11 (Gv.Ref.i y'), zz11 (Gv.Ref.g y')])), none, some (Sum.inr (Sum.inl (38, Row.mk [zz11 0, zz11 0] (List.length B) [Col.mk (ks B) [] [], Col.mk (wsL B) [] []]))), none]))) ?_ (by kernel_rfl)
      intro zz10 zz11 zz1 zz2 zz3 zz4 zz5 zz6 zz7 zz8 zz9; subst zz9 zz8 zz7 zz6 zz5 zz4 zz3 zz2 zz1 zz11 zz10
      have q1 : cut (ks L) 0 k = ks (L.take k) := by unfold cut ks; simp [List.map_take]
      have q2 : cut (wsL L) 0 k = wsL (L.take k) := by unfold cut wsL; simp [List.map_take]
      have q3 : cut (ks B) 0 B.length = ks B := cut_eq (by simp)
      have q4 : cut (wsL B) 0 B.length = wsL B := cut_eq (by simp)
      have l1 : (ks (L.take k)).length = k := by simp [ks]; omega
      have l2 : (wsL (L.take k)).length = k := by simp [wsL]; omega
      have l3 : (ks B).length = B.length := by simp [ks]
      have l4 : (wsL B).length = B.length := by simp [wsL]
      simp only [q1, q2, q3, q4, l1, l2, l3, l4, f1.2.2, f2.2.2, f4]
      refine ⟨⟨⟨by omega, trivial⟩, f1.1, f1.2.1, trivial, trivial, trivial⟩, ⟨fun _ => ⟨⟨⟨by omega, trivial⟩, f2.1, f2.2.1, trivial, trivial, trivial⟩, ⟨fun _ => ⟨⟨f3.1, f3.2⟩, ⟨(fun h => by cases h), fun _ => ?_⟩⟩, (fun h => by cases h)⟩⟩, (fun h => by cases h)⟩⟩
      exact At.fit [7, 11, 12, 13, 16] [.pointer (some ⟨2, 0, none⟩), .pointer (some ⟨5, 0, none⟩), .slice (some ⟨3, 0, some 2000⟩) k 0, .slice (some ⟨7, 0, some 2000⟩) B.length 0, .slice (some ⟨8, 0, some 2000⟩) 0 0] [some (.inr (.inr (.inl (actsRow a)))), some (.inr (.inr (.inl (actsRow b)))), cT 4 r, rE (ks L) (wsL L), pT m2, cT 4 Gv.r0, none, rN B, rN []] 186 ⟨rfl, rfl, Nat.le_add_left 2 7⟩ ⟨[0, 1, 2, 3, 4, 5, 6, 7, 10], rfl, ⟨rfl, rfl, .inl rfl, ⟨_, rfl, .inl rfl⟩, rfl, .inl rfl, ⟨_, rfl, .inl rfl⟩, ⟨_, rfl, .inl rfl⟩, trivial⟩, rfl, rfl, rfl, rfl⟩ nx
  · cases ob
    · dsimp only [W7.sa, W7.sb, W7.ra, W7.rb] at nx ⊢
      obtain rfl : B = L.drop k := hs'.nb rfl
      refine rxS_ok (T := TP7) [[1, 1, 1, 1, 1, 1, 1, 1, 1, 1, 1, 1]] TP7_ok mixed 200 ?_
      refine as_text (q := let zz12 := Value.pointer (some (Addr.mk 4 0 none)); let zz13 := Value.int IntKind.i64; let zz1 := (cut (ks A) 0 (List.length A)); let zz2 := (cut (wsL A) 0 (List.length A)); let zz3 := (alikeM 5000 m' x'); let zz4 := (cut (ks L) k (List.length L - k)); let zz5 := (cut (wsL L) k (List.length L - k)); let zz6 := (Gv.joinF O7 5000 (alikeM 5000 zz3 y') x' y'); let zz7 := (Value.bool false); let zz8 := (Value.pointer (some (Addr.mk 2 0 none))); let zz9 := (Value.pointer (some (Addr.mk 5 0 none))); let zz10 := (Value.slice (some (Addr.mk 6 0 (some 2000))) (List.length A) 0); let zz11 := (Value.slice (some (Addr.mk 3 k (some 4002000))) (List.length L - k) 0); Vc ((0 + List.length A ≤ List.length A ∧ True) ∧ PP m' ∧ AlikeD 5000 m' x' ∧ List.length A = List.length zz1 ∧ List.length A = List.length zz1 ∧ List.length zz2 = List.length zz1) ∧ ((!alikeB 5000 m' x' zz1 zz2) = false → Vc ((k + (List.length L - k) ≤ List.length (ks L) ∧ True) ∧ PP zz3 ∧ AlikeD 5000 zz3 y' ∧ List.length L - k = List.length zz4 ∧ List.length L - k = List.length zz4 ∧ List.length zz5 = List.length zz4) ∧ ((!alikeB 5000 zz3 y' zz4 zz5) = false → Vc (PP (alikeM 5000 zz3 y') ∧ Gv.JoinD O7 5000 (alikeM 5000 zz3 y') x' y') ∧ ((!Prod.fst zz6) = true → Post (G zz7 [some (Sum.inr (Sum.inr (Sum.inl (Row.mk [zz13 0, zz13 0, zz13 0] (List.length (Acts.i a)) [Col.mk (Acts.i a) [] [], Col.mk (Acts.k a) [] [], Col.mk (Acts.w a) [] []])))), some (Sum.inr (Sum.inr (Sum.inl (Row.mk [zz13 0, zz13 0, zz13 0] (List.length (Acts.i b)) [Col.mk (Acts.i b) [] [], Col.mk (Acts.k b) [] [], Col.mk (Acts.w b) [] []])))), some (Sum.inl (76, [zz12, zz13 (Gv.Ref.i (Prod.fst (Prod.snd zz6))), zz13 (Gv.Ref.g (Prod.fst (Prod.snd zz6)))])), some (Sum.inr (Sum.inl (38, Row.mk [zz13 0, zz13 0] (List.length (ks L)) [Col.mk (ks L) [] [], Col.mk (wsL L) [] []]))), some (Sum.inr (Sum.inr (Sum.inr (Rt.pool (Prod.snd (Prod.snd (Prod.snd zz6))))))), some (Sum.inl (76, [zz12, zz13 (Gv.Ref.i (Prod.fst (Prod.snd (Prod.snd zz6)))), zz13 (Gv.Ref.g (Prod.fst (Prod.snd (Prod.snd zz6))))])), some (Sum.inr (Sum.inl (38, Row.mk [zz13 0, zz13 0] (List.length A) [Col.mk (ks A) [] [], Col.mk (wsL A) [] []]))), none, none, none])) ∧ ((!Prod.fst zz6) = false → At D2 Try.prog (codeOf Try.f6) 2 (GP G) [Sum.inl [1, 1, 1, 1, 1, 1, 1, 1, 1, 1, 1, 1]] (SS.mk [none, none, none, none, none, none, none, some zz8, none, none, none, some zz9, some zz10, some zz11, none, none, some (Value.slice (some (Addr.mk 10 0 (some 2000))) 0 0), none, none, none, none, none, none, none, none, none, none, none, none, none, none, none, none, none, none, none, none, none, none, none, none, none, none, none, none, none, none, none, none, none, none, none, none, none, none, none, none, none, none, none, none, none, none, none, none, none, none, none, none, none, none, none, none, none, none, none, none, none, none, none, none, none, none, none, none, none, none, none, none, none, none, none, none, none, none, none, none, none, none, none, none, none, none, none, none, none, none, none, none, none, none, none, none, none, none, none, none, none, none, none, none, none, none, none, none, none, none, none, none, none, none, none, none, none, none, none, none, none, none, none, none, none, none, some zz8, some zz10, some (Value.bool (alikeB 5000 m' x' zz1 zz2)), some (Value.bool !alikeB 5000 m' x' zz1 zz2), some zz7, some zz9, some zz11, some (Value.bool (alikeB 5000 zz3 y' zz4 zz5)), some (Value.bool !alikeB 5000 zz3 y' zz4 zz5), some (Value.bool !alikeB 5000 zz3 y' zz4 zz5), some zz7, some zz8, some zz9, some (Value.bool (Prod.fst zz6)), some (Value.bool !Prod.fst zz6), some zz7, none, none, none, none, none, none, none, none, none, none, none, none, none, none, none, none, none, none, none, none, none, none, none, none, none, none, none] [(158, false), (153, false), (147, false)] [some (Sum.inr (Sum.inr (Sum.inl (Row.mk [zz13 0, zz13 0, zz13 0] (List.length (Acts.i a)) [Col.mk (Acts.i a) [] [], Col.mk (Acts.k a) [] [], Col.mk (Acts.w a) [] []])))), some (Sum.inr (Sum.inr (Sum.inl (Row.mk [zz13 0, zz13 0, zz13 0] (List.length (Acts.i b)) [Col.mk (Acts.i b) [] [], Col.mk (Acts.k b) [] [], Col.mk (Acts.w b) [] []])))), some (Sum.inl (76, [zz12, zz13 (Gv.Ref.i (Prod.fst (Prod.snd zz6))), zz13 (Gv.Ref.g (Prod.fst (Prod.snd zz6)))])), some (Sum.inr (Sum.inl (38, Row.mk [zz13 0, zz13 0] (List.length (ks L)) [Col.mk (ks L) [] [], Col.mk (wsL L) [] []]))), some (Sum.inr (Sum.inr (Sum.inr (Rt.pool (Prod.snd (Prod.snd (Prod.snd zz6))))))), some (Sum.inl (76, [zz12, zz13 (Gv.Ref.i (Prod.fst (Prod.snd (Prod.snd zz6)))), zz13 (Gv.Ref.g (Prod.fst (Prod.snd (Prod.snd zz6))))])), some (Sum.inr (Sum.inl (38, Row.mk [zz13 0, zz13 0] (List.length A) [Col.mk (ks A) [] [], Col.mk (wsL A) [] []]))), none, none, none, some (Sum.inr (Sum.inl (38, Row.mk [zz13 0, zz13 0] 0 [Col.mk [] [] [], Col.mk [] [] []])))]))) ∧ ((!alikeB 5000 zz3 y' zz4 zz5) = true → Post (G zz7 [some (Sum.inr (Sum.inr (Sum.inl (Row.mk [zz13 0, zz13 0, zz13 0] (List.length (Acts.i a)) [Col.mk (Acts.i a) [] [], Col.mk (Acts.k a) [] [], Col.mk (Acts.w a) [] []])))), some (Sum.inr (Sum.inr (Sum.inl (Row.mk [zz13 0, zz13 0, zz13 0] (List.length (Acts.i b)) [Col.mk (Acts.i b) [] [], Col.mk (Acts.k b) [] [], Col.mk (Acts.w b) [] []])))), some (Sum.inl (76, [zz12, zz13 (Gv.Ref.i x'), zz13 (Gv.Ref.g x')])), some (Sum.inr (Sum.inl (38, Row.mk [zz13 0, zz13 0] (List.length (ks L)) [Col.mk (ks L) [] [], Col.mk (wsL L) [] []]))), some (Sum.inr (Sum.inr (Sum.inr (Rt.pool (alikeM 5000 zz3 y'))))), some (Sum.inl (76, [zz12, zz13 (Gv.Ref.i y'), zz13 (Gv.Ref.g y')])), some (Sum.inr (Sum.inl (38, Row.mk [zz13 0, zz13 0] (List.length A) [Col.mk (ks A) [] [], Col.mk (wsL A) [] []]))), none, none, none]))) ∧ ((!alikeB 5000 m' x' zz1 zz2) = true → Post (G zz7 [some (Sum.inr (Sum.inr (Sum.inl (Row.mk [zz13 0, zz13 0, zz13 0] (List.length (Acts.i a)) [Col.mk (Acts.i a) [] [], Col.mk (Acts.k a) [] [], Col.mk (Acts.w a) [] []])))), some (Sum.inr (Sum.inr (Sum.inl (Row.mk [zz13 0, zz13 0, zz13 0] (List.length (Acts.i b)) [Col.mk (Acts.i b) [] [], Col.mk (Acts.k b) [] [], Col.mk (Acts.w b) [] []])))), some (Sum.inl (76, [zz12, zz13 (Gv.Ref.i x'), zz13 (Gv.Ref.g x')])), some (Sum.inr (Sum.inl (38, Row.mk [zz13 0, zz13 0] (List.length (ks L)) [Col.mk (ks L) [] [], Col.mk (wsL L) [] []]))), some (Sum.inr (Sum.inr (Sum.inr (Rt.pool zz3)))), some (Sum.inl (76, [zz12, zz13 (Gv.Ref.i y'), zz13 (Gv.Ref.g y')])), some (Sum.inr (Sum.inl (38, Row.mk [zz13 0, zz13 0] (List.length A) [Col.mk (ks A) [] [], Col.mk (wsL A) [] []]))), none, none]))) ?_ (by kernel_rfl)
      intro zz12 zz13 zz1 zz2 zz3 zz4 zz5 zz6 zz7 zz8 zz9 zz10 zz11; subst zz11 zz10 zz9 zz8 zz7 zz6 zz5 zz4 zz3 zz2 zz1 zz13 zz12
      have q1 : cut (ks A) 0 A.length = ks A := cut_eq (by simp)
      have q2 : cut (wsL A) 0 A.length = wsL A := cut_eq (by simp)
      have q3 : cut (ks L) k (L.length - k) = ks (L.drop k) := by rw [cut_drop (by rw [kl]; omega)]; exact (List.map_drop).symm
      have q4 : cut (wsL L) k (L.length - k) = wsL (L.drop k) := by rw [cut_drop (by rw [wl]; omega)]; exact (List.map_drop).symm
      have l1 : (ks A).length = A.length := by simp [ks]
      have l2 : (wsL A).length = A.length := by simp [wsL]
      have l3 : (ks (L.drop k)).length = L.length - k := by simp [ks]
      have l4 : (wsL (L.drop k)).length = L.length - k := by simp [wsL]
      simp only [q1, q2, q3, q4, l1, l2, l3, l4, f1.2.2, f2.2.2, f4]
      refine ⟨⟨⟨by omega, trivial⟩, f1.1, f1.2.1, trivial, trivial, trivial⟩, ⟨fun _ => ⟨⟨⟨by omega, trivial⟩, f2.1, f2.2.1, trivial, trivial, trivial⟩, ⟨fun _ => ⟨⟨f3.1, f3.2⟩, ⟨(fun h => by cases h), fun _ => ?_⟩⟩, (fun h => by cases h)⟩⟩, (fun h => by cases h)⟩⟩
      exact At.fit [7, 11, 12, 13, 16] [.pointer (some ⟨2, 0, none⟩), .pointer (some ⟨5, 0, none⟩), .slice (some ⟨6, 0, some 2000⟩) A.length 0, .slice (some ⟨3, k, some 4002000⟩) (L.length - k) 0, .slice (some ⟨8, 0, some 2000⟩) 0 0] [some (.inr (.inr (.inl (actsRow a)))), some (.inr (.inr (.inl (actsRow b)))), cT 4 r, rE (ks L) (wsL L), pT m2, cT 4 Gv.r0, rN A, none, rN []] 186 ⟨rfl, rfl, Nat.le_add_left 2 7⟩ ⟨[0, 1, 2, 3, 4, 5, 6, 7, 10], rfl, ⟨rfl, rfl, .inl rfl, ⟨_, rfl, .inl rfl⟩, rfl, .inl rfl, ⟨_, rfl, .inl rfl⟩, ⟨_, rfl, .inl rfl⟩, trivial⟩, rfl, rfl, rfl, rfl⟩ nx
    · dsimp only [W7.sa, W7.sb, W7.ra, W7.rb] at nx ⊢
      refine rxS_ok (T := TP7) [[1, 1, 1, 1, 1, 1, 1, 1, 1, 1, 1, 1]] TP7_ok mixed 200 ?_
      refine as_text (q := let zz12 := Value.pointer (some (Addr.mk 4 0 none)); let zz13 := Value.int IntKind.i64; let zz1 := (cut (ks A) 0 (List.length A)); let zz2 := (cut (wsL A) 0 (List.length A)); let zz3 := (alikeM 5000 m' x'); let zz4 := (cut (ks B) 0 (List.length B)); let zz5 := (cut (wsL B) 0 (List.length B)); let zz6 := (Gv.joinF O7 5000 (alikeM 5000 zz3 y') x' y'); let zz7 := (Value.bool false); let zz8 := (Value.pointer (some (Addr.mk 2 0 none))); let zz9 := (Value.pointer (some (Addr.mk 5 0 none))); let zz10 := (Value.slice (some (Addr.mk 6 0 (some 2000))) (List.length A) 0); let zz11 := (Value.slice (some (Addr.mk 7 0 (some 2000))) (List.length B) 0); Vc ((0 + List.length A ≤ List.length A ∧ True) ∧ PP m' ∧ AlikeD 5000 m' x' ∧ List.length A = List.length zz1 ∧ List.length A = List.length zz1 ∧ List.length zz2 = List.length zz1) ∧ ((!alikeB 5000 m' x' zz1 zz2) = false → Vc ((0 + List.length B ≤ List.length B ∧ True) ∧ PP zz3 ∧ AlikeD 5000 zz3 y' ∧ List.length B = List.length zz4 ∧ List.length B = List.length zz4 ∧ List.length zz5 = List.length zz4) ∧ ((!alikeB 5000 zz3 y' zz4 zz5) = false → Vc (PP (alikeM 5000 zz3 y') ∧ Gv.JoinD O7 5000 (alikeM 5000 zz3 y') x' y') ∧ ((!Prod.fst zz6) = true → Post (G zz7 [some (Sum.inr (Sum.inr (Sum.inl (Row.mk [zz13 0, zz13 0, zz13 0] (List.length (Acts.i a)) [Col.mk (Acts.i a) [] [], Col.mk (Acts.k a) [] [], Col.mk (Acts.w a) [] []])))), some (Sum.inr (Sum.inr (Sum.inl (Row.mk [zz13 0, zz13 0, zz13 0] (List.length (Acts.i b)) [Col.mk (Acts.i b) [] [], Col.mk (Acts.k b) [] [], Col.mk (Acts.w b) [] []])))), some (Sum.inl (76, [zz12, zz13 (Gv.Ref.i (Prod.fst (Prod.snd zz6))), zz13 (Gv.Ref.g (Prod.fst (Prod.snd zz6)))])), some (Sum.inr (Sum.inl (38, Row.mk [zz13 0, zz13 0] (List.length (ks L)) [Col.mk (ks L) [] [], Col.mk (wsL L) [] []]))), some (Sum.inr (Sum.inr (Sum.inr (Rt.pool (Prod.snd (Prod.snd (Prod.snd zz6))))))), some (Sum.inl (76, [zz12, zz13 (Gv.Ref.i (Prod.fst (Prod.snd (Prod.snd zz6)))), zz13 (Gv.Ref.g (Prod.fst (Prod.snd (Prod.snd zz6))))])), some (Sum.inr (Sum.inl (38, Row.mk [zz13 0, zz13 0] (List.length A) [Col.mk (ks A) [] [], Col.mk (wsL A) [] []]))), some (Sum.inr (Sum.inl (38, Row.mk [zz13 0, zz13 0] (List.length B) [Col.mk (ks B) [] [], Col.mk (wsL B) [] []]))), none, none])) ∧ ((!Prod.fst zz6) = false → At D2 Try.prog (codeOf Try.f6) 2 (GP G) [Sum.inl [1, 1, 1, 1, 1, 1, 1, 1, 1, 1, 1, 1]] (SS.mk [none, none, none, none, none, none, none, some zz8, none, none, none, some zz9, some zz10, some zz11, none, none, some (Value.slice (some (Addr.mk 10 0 (some 2000))) 0 0), none, none, none, none, none, none, none, none, none, none, none, none, none, none, none, none, none, none, none, none, none, none, none, none, none, none, none, none, none, none, none, none, none, none, none, none, none, none, none, none, none, none, none, none, none, none, none, none, none, none, none, none, none, none, none, none, none, none, none, none, none, none, none, none, none, none, none, none, none, none, none, none, none, none, none, none, none, none, none, none, none, none, none, none, none, none, none, none, none, none, none, none, none, none, none, none, none, none, none, none, none, none, none, none, none, none, none, none, none, none, none, none, none, none, none, none, none, none, none, none, none, none, none, none, none, none, some zz8, some zz10, some (Value.bool (alikeB 5000 m' x' zz1 zz2)), some (Value.bool !alikeB 5000 m' x' zz1 zz2), some zz7, some zz9, some zz11, some (Value.bool (alikeB 5000 zz3 y' zz4 zz5)), some (Value.bool !alikeB 5000 zz3 y' zz4 zz5), some (Value.bool !alikeB 5000 zz3 y' zz4 zz5), some zz7, some zz8, some zz9, some (Value.bool (Prod.fst zz6)), some (Value.bool !Prod.fst zz6), some zz7, none, none, none, none, none, none, none, none, none, none, none, none, none, none, none, none, none, none, none, none, none, none, none, none, none, none, none] [(158, false), (153, false), (147, false)] [some (Sum.inr (Sum.inr (Sum.inl (Row.mk [zz13 0, zz13 0, zz13 0] (List.length (Acts.i a)) [Col.mk (Acts.i a) [] [], Col.mk (Acts.k a) [] [], Col.mk (Acts.w a) [] []])))), some (Sum.inr (Sum.inr (Sum.inl (Row.mk [zz13 0, zz13 0, zz13 0] (List.length (Acts.i b)) [Col.mk (Acts.i b) [] [], Col.mk (Acts.k b) [] [], Col.mk (Acts.w b) [] []])))), some (Sum.inl (76, [zz12, zz13 (Gv.Ref.i (Prod.fst (Prod.snd zz6))), zz13 (Gv.Ref.g (Prod.fst (Prod.snd zz6)))])), some (Sum.inr (Sum.inl (38, Row.mk [zz13 0, zz13 0] (List.length (ks L)) [Col.mk (ks L) [] [], Col.mk (wsL L) [] []]))), some (Sum.inr (Sum.inr (Sum.inr (Rt.pool (Prod.snd (Prod.snd (Prod.snd zz6))))))), some (Sum.inl (76, [zz12, zz13 (Gv.Ref.i (Prod.fst (Prod.snd (Prod.snd zz6)))), zz13 (Gv.Ref.g (Prod.fst (Prod.snd (Prod.snd zz6))))])), some (Sum.inr (Sum.inl (38, Row.mk [zz13 0, zz13 0] (List.length A) [Col.mk (ks A) [] [], Col.mk (wsL A) [] []]))), some (Sum.inr (Sum.inl (38, Row.mk [zz13 0, zz13 0] (List.length B) [Col.mk (ks B) [] [], Col.mk (wsL B) [] []]))), none, none, some (Sum.inr (Sum.inl (38, Row.mk [zz13 0, zz13 0] 0 [Col.mk [] [] [], Col.mk [] [] []])))]))) ∧ ((!alikeB 5000 zz3 y' zz4 zz5) = true → Post (G zz7 [some (Sum.inr (Sum.inr (Sum.inl (Row.mk [zz13 0, zz13 0, zz13 0] (List.length (Acts.i a)) [Col.mk (Acts.i a) [] [], Col.mk (Acts.k a) [] [], Col.mk (Acts.w a) [] []])))), some (Sum.inr (Sum.inr (Sum.inl (Row.mk [zz13 0, zz13 0, zz13 0] (List.length (Acts.i b)) [Col.mk (Acts.i b) [] [], Col.mk (Acts.k b) [] [], Col.mk (Acts.w b) [] []])))), some (Sum.inl (76, [zz12, zz13 (Gv.Ref.i x'), zz13 (Gv.Ref.g x')])), some (Sum.inr (Sum.inl (38, Row.mk [zz13 0, zz13 0] (List.length (ks L)) [Col.mk (ks L) [] [], Col.mk (wsL L) [] []]))), some (Sum.inr (Sum.inr (Sum.inr (Rt.pool (alikeM 5000 zz3 y'))))), some (Sum.inl (76, [zz12, zz13 (Gv.Ref.i y'), zz13 (Gv.Ref.g y')])), some (Sum.inr (Sum.inl (38, Row.mk [zz13 0, zz13 0] (List.length A) [Col.mk (ks A) [] [], Col.mk (wsL A) [] []]))), some (Sum.inr (Sum.inl (38, Row.mk [zz13 0, zz13 0] (List.length B) [Col.mk (ks B) [] [], Col.mk (wsL B) [] []]))), none, none]))) ∧ ((!alikeB 5000 m' x' zz1 zz2) = true → Post (G zz7 [some (Sum.inr (Sum.inr (Sum.inl (Row.mk [zz13 0, zz13 0, zz13 0] (List.length (Acts.i a)) [Col.mk (Acts.i a) [] [], Col.mk (Acts.k a) [] [], Col.mk (Acts.w a) [] []])))), some (Sum.inr (Sum.inr (Sum.inl (Row.mk [zz13 0, zz13 0, zz13 0] (List.length (Acts.i b)) [Col.mk (Acts.i b) [] [], Col.mk (Acts.k b) [] [], Col.mk (Acts.w b) [] []])))), some (Sum.inl (76, [zz12, zz13 (Gv.Ref.i x'), zz13 (Gv.Ref.g x')])), some (Sum.inr (Sum.inl (38, Row.mk [zz13 0, zz13 0] (List.length (ks L)) [Col.mk (ks L) [] [], Col.mk (wsL L) [] []]))), some (Sum.inr (Sum.inr (Sum.inr (Rt.pool zz3)))), some (Sum.inl (76, [zz12, zz13 (Gv.Ref.i y'), zz13 (Gv.Ref.g y')])), some (Sum.inr (Sum.inl (38, Row.mk [zz13 0, zz13 0] (List.length A) [Col.mk (ks A) [] [], Col.mk (wsL A) [] []]))), some (Sum.inr (Sum.inl (38, Row.mk [zz13 0, zz13 0] (List.length B) [Col.mk (ks B) [] [], Col.mk (wsL B) [] []]))), none]))) ?_ (by kernel_rfl)
      intro zz12 zz13 zz1 zz2 zz3 zz4 zz5 zz6 zz7 zz8 zz9 zz10 zz11; subst zz11 zz10 zz9 zz8 zz7 zz6 zz5 zz4 zz3 zz2 zz1 zz13 zz12
      have q1 : cut (ks A) 0 A.length = ks A := cut_eq (by simp)
      have q2 : cut (wsL A) 0 A.length = wsL A := cut_eq (by simp)
      have q3 : cut (ks B) 0 B.length = ks B := cut_eq (by simp)
      have q4 : cut (wsL B) 0 B.length = wsL B := cut_eq (by simp)
      have l1 : (ks A).length = A.length := by simp [ks]
      have l2 : (wsL A).length = A.length := by simp [wsL]
      have l3 : (ks B).length = B.length := by simp [ks]
      have l4 : (wsL B).length = B.length := by simp [wsL]
      simp only [q1, q2, q3, q4, l1, l2, l3, l4, f1.2.2, f2.2.2, f4]
      refine ⟨⟨⟨by omega, trivial⟩, f1.1, f1.2.1, trivial, trivial, trivial⟩, ⟨fun _ => ⟨⟨⟨by omega, trivial⟩, f2.1, f2.2.1, trivial, trivial, trivial⟩, ⟨fun _ => ⟨⟨f3.1, f3.2⟩, ⟨(fun h => by cases h), fun _ => ?_⟩⟩, (fun h => by cases h)⟩⟩, (fun h => by cases h)⟩⟩
      exact At.fit [7, 11, 12, 13, 16] [.pointer (some ⟨2, 0, none⟩), .pointer (some ⟨5, 0, none⟩), .slice (some ⟨6, 0, some 2000⟩) A.length 0, .slice (some ⟨7, 0, some 2000⟩) B.length 0, .slice (some ⟨8, 0, some 2000⟩) 0 0] [some (.inr (.inr (.inl (actsRow a)))), some (.inr (.inr (.inl (actsRow b)))), cT 4 r, rE (ks L) (wsL L), pT m2, cT 4 Gv.r0, rN A, rN B, rN []] 186 ⟨rfl, rfl, Nat.le_add_left 2 7⟩ ⟨[0, 1, 2, 3, 4, 5, 6, 7, 10], rfl, ⟨rfl, rfl, .inl rfl, ⟨_, rfl, .inl rfl⟩, rfl, .inl rfl, ⟨_, rfl, .inl rfl⟩, ⟨_, rfl, .inl rfl⟩, ⟨_, rfl, .inl rfl⟩, trivial⟩, rfl, rfl, rfl, rfl⟩ nx
end Go.Proofs.Ytclagkjjgmeifaa.G7


/- grove: the law GroveParts: put together. -/
namespace Go.Proofs.Ytclagkjjgmeifaa.G7
open Go.Proofs.Ytclagkjjgmeifaa.Rx Go.Proofs.Ytclagkjjgmeifaa.D7
set_option linter.unusedVariables false
set_option linter.unusedSimpArgs false
set_option maxRecDepth 100000
set_option maxHeartbeats 16000000
theorem parts5 {G : Value → Hp Rt → Prop} {a b : Acts} {key : Int} {L : List El} {k n : Nat} {m : Pl} {r : Gv.Ref} (hbl : b.i.length ≤ 20) (hkl : k ≤ L.length) (s : W7) (hs' : s.Ok b key L k n)
    (next : At D2 Try.prog (codeOf Try.f6) 2 (GP G) [.inl [1, 1, 1, 1, 1, 1, 1, 1, 1, 1, 1, 1, 1]] ⟨frame [7, 11, 16] [.pointer (some ⟨2, 0, none⟩), .pointer (some ⟨4, 0, none⟩), .slice (some ⟨5, 0, some 2000⟩) (s.A ++ s.B).length 0] 0 186, [], [some (.inr (.inr (.inl (actsRow a)))), some (.inr (.inr (.inl (actsRow b)))), cT 3 r, pT m, cT 3 Gv.r0, rN (s.A ++ s.B)]⟩) :
    At D2 Try.prog (codeOf Try.f6) 2 (GP G) [.inl [1, 1, 1, 1, 1, 1, 1, 1, 1, 1, 1, 1]] ⟨frame [7, 11, 12, 13, 16] [.pointer (some ⟨2, 0, none⟩), .pointer (some ⟨5, 0, none⟩), s.sa k, s.sb k L.length, .slice (some ⟨8, 0, some 2000⟩) 0 0] 0 186, [], [some (.inr (.inr (.inl (actsRow a)))), some (.inr (.inr (.inl (actsRow b)))), cT 4 r, rE (ks L) (wsL L), pT m, cT 4 Gv.r0, s.ra, s.rb, rN []]⟩ := by
  have kl : (ks L).length = L.length := List.length_map _
  have wl : (wsL L).length = L.length := List.length_map _
  have hla := hs'.la
  have hi := hs'.i
  obtain ⟨i, A, B, x', y', m', oa, ob⟩ := s
  simp only at hla hi next
  cases oa
  · cases ob
    · dsimp only [W7.sa, W7.sb, W7.ra, W7.rb]
      obtain rfl : A = L.take k := hs'.na rfl
      obtain rfl : B = L.drop k := hs'.nb rfl
      refine rxS_ok (T := TP7) [[1, 1, 1, 1, 1, 1, 1, 1, 1, 1, 1, 1, 1]] TP7_ok mixed 200 ?_
      refine as_text (q := let zz3 := Value.int IntKind.i64; let zz1 := (List.length L - k); let zz2 := (Value.slice (some (Addr.mk 10 0 (some 2000))) (0 + k + zz1) 0); Vc (0 ≤ 0 ∧ 0 + k ≤ List.length (ks L) ∧ (0 + k) * 16 ≤ 140737488355328 ∧ 0 + k ≤ 140737488355328) ∧ Vc (0 + (0 + k) ≤ 0 + k ∧ k + zz1 ≤ List.length (ks L) ∧ (0 + k + zz1) * 16 ≤ 140737488355328 ∧ 0 + k + zz1 ≤ 140737488355328) ∧ At D2 Try.prog (codeOf Try.f6) 2 (GP G) [Sum.inl [1, 1, 1, 1, 1, 1, 1, 1, 1, 1, 1, 1, 1]] (SS.mk [none, none, none, none, none, none, none, some (Value.pointer (some (Addr.mk 2 0 none))), none, none, none, some (Value.pointer (some (Addr.mk 5 0 none))), some (Value.slice (some (Addr.mk 3 0 (some 2000))) k 0), some (Value.slice (some (Addr.mk 3 k (some 4002000))) zz1 0), none, none, some zz2, none, none, none, none, none, none, none, none, none, none, none, none, none, none, none, none, none, none, none, none, none, none, none, none, none, none, none, none, none, none, none, none, none, none, none, none, none, none, none, none, none, none, none, none, none, none, none, none, none, none, none, none, none, none, none, none, none, none, none, none, none, none, none, none, none, none, none, none, none, none, none, none, none, none, none, none, none, none, none, none, none, none, none, none, none, none, none, none, none, none, none, none, none, none, none, none, none, none, none, none, none, none, none, none, none, none, none, none, none, none, none, none, none, none, none, none, none, none, none, none, none, none, none, none, none, none, none, none, none, none, none, none, none, none, none, none, none, none, none, none, none, none, some (Value.slice (some (Addr.mk 8 0 (some 2000))) 0 0), some (Value.slice (some (Addr.mk 3 0 (some 2000))) k 0), some (Value.slice (some (Addr.mk 9 0 (some 2000))) (0 + k) 0), some (Value.slice (some (Addr.mk 3 k (some 4002000))) zz1 0), some zz2, none, none, none, none, none, none, none, none, none, none, none, none, none, none, none, none, none, none, none, none, none, none] [] [some (Sum.inr (Sum.inr (Sum.inl (Row.mk [zz3 0, zz3 0, zz3 0] (List.length (Acts.i a)) [Col.mk (Acts.i a) [] [], Col.mk (Acts.k a) [] [], Col.mk (Acts.w a) [] []])))), some (Sum.inr (Sum.inr (Sum.inl (Row.mk [zz3 0, zz3 0, zz3 0] (List.length (Acts.i b)) [Col.mk (Acts.i b) [] [], Col.mk (Acts.k b) [] [], Col.mk (Acts.w b) [] []])))), some (Sum.inl (76, [Value.pointer (some (Addr.mk 4 0 none)), zz3 (Gv.Ref.i r), zz3 (Gv.Ref.g r)])), some (Sum.inr (Sum.inl (38, Row.mk [zz3 0, zz3 0] (List.length (ks L)) [Col.mk (ks L) [] [], Col.mk (wsL L) [] []]))), some (Sum.inr (Sum.inr (Sum.inr (Rt.pool m)))), some (Sum.inl (76, [Value.pointer (some (Addr.mk 4 0 none)), zz3 0, zz3 0])), none, none, none, none, some (Sum.inr (Sum.inl (38, Row.mk [zz3 0, zz3 0] (0 + k + zz1) [Col.mk (cut ([] ++ cut (ks L) 0 k) 0 (0 + k) ++ cut (ks L) k zz1) [] [], Col.mk (cut ([] ++ cut (wsL L) 0 k) 0 (0 + k) ++ cut (wsL L) k zz1) [] []])))])) ?_ (by kernel_rfl)
      intro zz3 zz1 zz2; subst zz2 zz1 zz3
      have q1 : cut (ks L) 0 k = ks (L.take k) := by unfold cut ks; simp [List.map_take]
      have q2 : cut (wsL L) 0 k = wsL (L.take k) := by unfold cut wsL; simp [List.map_take]
      have q5 : cut (ks (L.take k)) 0 k = ks (L.take k) := cut_eq (by simp [ks]; omega)
      have q6 : cut (wsL (L.take k)) 0 k = wsL (L.take k) := cut_eq (by simp [wsL]; omega)
      have q3 : cut (ks L) k (L.length - k) = ks (L.drop k) := by rw [cut_drop (by rw [kl]; omega)]; exact (List.map_drop).symm
      have q4 : cut (wsL L) k (L.length - k) = wsL (L.drop k) := by rw [cut_drop (by rw [wl]; omega)]; exact (List.map_drop).symm
      have s1 : ks (L.take k) ++ ks (L.drop k) = ks ((L.take k) ++ (L.drop k)) := (List.map_append).symm
      have s2 : wsL (L.take k) ++ wsL (L.drop k) = wsL ((L.take k) ++ (L.drop k)) := (List.map_append).symm
      have s3 : ((L.take k) ++ (L.drop k)).length = (L.take k).length + (L.drop k).length := List.length_append
      have t1 : (L.take k).length = k := by rw [List.length_take]; omega
      have t2 : (L.drop k).length = L.length - k := List.length_drop
      have s4 : k + (L.length - k) = ((L.take k) ++ (L.drop k)).length := by omega
      simp only [List.nil_append, Nat.zero_add, q1, q2, q3, q4, q5, q6, s1, s2, s4]
      refine ⟨⟨by omega, by omega, by omega, by omega⟩, ⟨⟨by omega, by omega, by omega, by omega⟩, ?_⟩⟩
      exact At.fit [7, 11, 16] [.pointer (some ⟨2, 0, none⟩), .pointer (some ⟨4, 0, none⟩), .slice (some ⟨5, 0, some 2000⟩) ((L.take k) ++ (L.drop k)).length 0] [some (.inr (.inr (.inl (actsRow a)))), some (.inr (.inr (.inl (actsRow b)))), cT 3 r, pT m, cT 3 Gv.r0, rN ((L.take k) ++ (L.drop k))] 186 ⟨rfl, rfl, Nat.le_add_left 2 4⟩ ⟨[0, 1, 2, 4, 5, 10], rfl, ⟨rfl, rfl, .inl rfl, rfl, .inl rfl, ⟨_, rfl, .inl rfl⟩, trivial⟩, rfl, rfl, rfl, rfl⟩ next
    · dsimp only [W7.sa, W7.sb, W7.ra, W7.rb]
      obtain rfl : A = L.take k := hs'.na rfl
      refine rxS_ok (T := TP7) [[1, 1, 1, 1, 1, 1, 1, 1, 1, 1, 1, 1, 1]] TP7_ok mixed 200 ?_
      refine as_text (q := let zz3 := Value.int IntKind.i64; let zz1 := (Value.slice (some (Addr.mk 7 0 (some 2000))) (List.length B) 0); let zz2 := (Value.slice (some (Addr.mk 10 0 (some 2000))) (0 + k + List.length B) 0); Vc (0 ≤ 0 ∧ 0 + k ≤ List.length (ks L) ∧ (0 + k) * 16 ≤ 140737488355328 ∧ 0 + k ≤ 140737488355328) ∧ Vc (0 + (0 + k) ≤ 0 + k ∧ 0 + List.length B ≤ List.length B ∧ (0 + k + List.length B) * 16 ≤ 140737488355328 ∧ 0 + k + List.length B ≤ 140737488355328) ∧ At D2 Try.prog (codeOf Try.f6) 2 (GP G) [Sum.inl [1, 1, 1, 1, 1, 1, 1, 1, 1, 1, 1, 1, 1]] (SS.mk [none, none, none, none, none, none, none, some (Value.pointer (some (Addr.mk 2 0 none))), none, none, none, some (Value.pointer (some (Addr.mk 5 0 none))), some (Value.slice (some (Addr.mk 3 0 (some 2000))) k 0), some zz1, none, none, some zz2, none, none, none, none, none, none, none, none, none, none, none, none, none, none, none, none, none, none, none, none, none, none, none, none, none, none, none, none, none, none, none, none, none, none, none, none, none, none, none, none, none, none, none, none, none, none, none, none, none, none, none, none, none, none, none, none, none, none, none, none, none, none, none, none, none, none, none, none, none, none, none, none, none, none, none, none, none, none, none, none, none, none, none, none, none, none, none, none, none, none, none, none, none, none, none, none, none, none, none, none, none, none, none, none, none, none, none, none, none, none, none, none, none, none, none, none, none, none, none, none, none, none, none, none, none, none, none, none, none, none, none, none, none, none, none, none, none, none, none, none, none, none, some (Value.slice (some (Addr.mk 8 0 (some 2000))) 0 0), some (Value.slice (some (Addr.mk 3 0 (some 2000))) k 0), some (Value.slice (some (Addr.mk 9 0 (some 2000))) (0 + k) 0), some zz1, some zz2, none, none, none, none, none, none, none, none, none, none, none, none, none, none, none, none, none, none, none, none, none, none] [] [some (Sum.inr (Sum.inr (Sum.inl (Row.mk [zz3 0, zz3 0, zz3 0] (List.length (Acts.i a)) [Col.mk (Acts.i a) [] [], Col.mk (Acts.k a) [] [], Col.mk (Acts.w a) [] []])))), some (Sum.inr (Sum.inr (Sum.inl (Row.mk [zz3 0, zz3 0, zz3 0] (List.length (Acts.i b)) [Col.mk (Acts.i b) [] [], Col.mk (Acts.k b) [] [], Col.mk (Acts.w b) [] []])))), some (Sum.inl (76, [Value.pointer (some (Addr.mk 4 0 none)), zz3 (Gv.Ref.i r), zz3 (Gv.Ref.g r)])), some (Sum.inr (Sum.inl (38, Row.mk [zz3 0, zz3 0] (List.length (ks L)) [Col.mk (ks L) [] [], Col.mk (wsL L) [] []]))), some (Sum.inr (Sum.inr (Sum.inr (Rt.pool m)))), some (Sum.inl (76, [Value.pointer (some (Addr.mk 4 0 none)), zz3 0, zz3 0])), none, some (Sum.inr (Sum.inl (38, Row.mk [zz3 0, zz3 0] (List.length B) [Col.mk (ks B) [] [], Col.mk (wsL B) [] []]))), none, none, some (Sum.inr (Sum.inl (38, Row.mk [zz3 0, zz3 0] (0 + k + List.length B) [Col.mk (cut ([] ++ cut (ks L) 0 k) 0 (0 + k) ++ cut (ks B) 0 (List.length B)) [] [], Col.mk (cut ([] ++ cut (wsL L) 0 k) 0 (0 + k) ++ cut (wsL B) 0 (List.length B)) [] []])))])) ?_ (by kernel_rfl)
      intro zz3 zz1 zz2; subst zz2 zz1 zz3
      have q1 : cut (ks L) 0 k = ks (L.take k) := by unfold cut ks; simp [List.map_take]
      have q2 : cut (wsL L) 0 k = wsL (L.take k) := by unfold cut wsL; simp [List.map_take]
      have q5 : cut (ks (L.take k)) 0 k = ks (L.take k) := cut_eq (by simp [ks]; omega)
      have q6 : cut (wsL (L.take k)) 0 k = wsL (L.take k) := cut_eq (by simp [wsL]; omega)
      have q3 : cut (ks B) 0 B.length = ks B := cut_eq (by simp)
      have q4 : cut (wsL B) 0 B.length = wsL B := cut_eq (by simp)
      have s1 : ks (L.take k) ++ ks B = ks ((L.take k) ++ B) := (List.map_append).symm
      have s2 : wsL (L.take k) ++ wsL B = wsL ((L.take k) ++ B) := (List.map_append).symm
      have s3 : ((L.take k) ++ B).length = (L.take k).length + B.length := List.length_append
      have t1 : (L.take k).length = k := by rw [List.length_take]; omega
      have s4 : k + B.length = ((L.take k) ++ B).length := by omega
      simp only [List.nil_append, Nat.zero_add, q1, q2, q3, q4, q5, q6, s1, s2, s4]
      refine ⟨⟨by omega, by omega, by omega, by omega⟩, ⟨⟨by omega, by omega, by omega, by omega⟩, ?_⟩⟩
      exact At.fit [7, 11, 16] [.pointer (some ⟨2, 0, none⟩), .pointer (some ⟨4, 0, none⟩), .slice (some ⟨5, 0, some 2000⟩) ((L.take k) ++ B).length 0] [some (.inr (.inr (.inl (actsRow a)))), some (.inr (.inr (.inl (actsRow b)))), cT 3 r, pT m, cT 3 Gv.r0, rN ((L.take k) ++ B)] 186 ⟨rfl, rfl, Nat.le_add_left 2 4⟩ ⟨[0, 1, 2, 4, 5, 10], rfl, ⟨rfl, rfl, .inl rfl, rfl, .inl rfl, ⟨_, rfl, .inl rfl⟩, trivial⟩, rfl, rfl, rfl, rfl⟩ next
  · cases ob
    · dsimp only [W7.sa, W7.sb, W7.ra, W7.rb]
      obtain rfl : B = L.drop k := hs'.nb rfl
      refine rxS_ok (T := TP7) [[1, 1, 1, 1, 1, 1, 1, 1, 1, 1, 1, 1, 1]] TP7_ok mixed 200 ?_
      refine as_text (q := let zz4 := Value.int IntKind.i64; let zz1 := (List.length L - k); let zz2 := (Value.slice (some (Addr.mk 6 0 (some 2000))) (List.length A) 0); let zz3 := (Value.slice (some (Addr.mk 10 0 (some 2000))) (0 + List.length A + zz1) 0); Vc (0 ≤ 0 ∧ 0 + List.length A ≤ List.length A ∧ (0 + List.length A) * 16 ≤ 140737488355328 ∧ 0 + List.length A ≤ 140737488355328) ∧ Vc (0 + (0 + List.length A) ≤ 0 + List.length A ∧ k + zz1 ≤ List.length (ks L) ∧ (0 + List.length A + zz1) * 16 ≤ 140737488355328 ∧ 0 + List.length A + zz1 ≤ 140737488355328) ∧ At D2 Try.prog (codeOf Try.f6) 2 (GP G) [Sum.inl [1, 1, 1, 1, 1, 1, 1, 1, 1, 1, 1, 1, 1]] (SS.mk [none, none, none, none, none, none, none, some (Value.pointer (some (Addr.mk 2 0 none))), none, none, none, some (Value.pointer (some (Addr.mk 5 0 none))), some zz2, some (Value.slice (some (Addr.mk 3 k (some 4002000))) zz1 0), none, none, some zz3, none, none, none, none, none, none, none, none, none, none, none, none, none, none, none, none, none, none, none, none, none, none, none, none, none, none, none, none, none, none, none, none, none, none, none, none, none, none, none, none, none, none, none, none, none, none, none, none, none, none, none, none, none, none, none, none, none, none, none, none, none, none, none, none, none, none, none, none, none, none, none, none, none, none, none, none, none, none, none, none, none, none, none, none, none, none, none, none, none, none, none, none, none, none, none, none, none, none, none, none, none, none, none, none, none, none, none, none, none, none, none, none, none, none, none, none, none, none, none, none, none, none, none, none, none, none, none, none, none, none, none, none, none, none, none, none, none, none, none, none, none, none, some (Value.slice (some (Addr.mk 8 0 (some 2000))) 0 0), some zz2, some (Value.slice (some (Addr.mk 9 0 (some 2000))) (0 + List.length A) 0), some (Value.slice (some (Addr.mk 3 k (some 4002000))) zz1 0), some zz3, none, none, none, none, none, none, none, none, none, none, none, none, none, none, none, none, none, none, none, none, none, none] [] [some (Sum.inr (Sum.inr (Sum.inl (Row.mk [zz4 0, zz4 0, zz4 0] (List.length (Acts.i a)) [Col.mk (Acts.i a) [] [], Col.mk (Acts.k a) [] [], Col.mk (Acts.w a) [] []])))), some (Sum.inr (Sum.inr (Sum.inl (Row.mk [zz4 0, zz4 0, zz4 0] (List.length (Acts.i b)) [Col.mk (Acts.i b) [] [], Col.mk (Acts.k b) [] [], Col.mk (Acts.w b) [] []])))), some (Sum.inl (76, [Value.pointer (some (Addr.mk 4 0 none)), zz4 (Gv.Ref.i r), zz4 (Gv.Ref.g r)])), some (Sum.inr (Sum.inl (38, Row.mk [zz4 0, zz4 0] (List.length (ks L)) [Col.mk (ks L) [] [], Col.mk (wsL L) [] []]))), some (Sum.inr (Sum.inr (Sum.inr (Rt.pool m)))), some (Sum.inl (76, [Value.pointer (some (Addr.mk 4 0 none)), zz4 0, zz4 0])), some (Sum.inr (Sum.inl (38, Row.mk [zz4 0, zz4 0] (List.length A) [Col.mk (ks A) [] [], Col.mk (wsL A) [] []]))), none, none, none, some (Sum.inr (Sum.inl (38, Row.mk [zz4 0, zz4 0] (0 + List.length A + zz1) [Col.mk (cut ([] ++ cut (ks A) 0 (List.length A)) 0 (0 + List.length A) ++ cut (ks L) k zz1) [] [], Col.mk (cut ([] ++ cut (wsL A) 0 (List.length A)) 0 (0 + List.length A) ++ cut (wsL L) k zz1) [] []])))])) ?_ (by kernel_rfl)
      intro zz4 zz1 zz2 zz3; subst zz3 zz2 zz1 zz4
      have q1 : cut (ks A) 0 A.length = ks A := cut_eq (by simp)
      have q2 : cut (wsL A) 0 A.length = wsL A := cut_eq (by simp)
      have q5 := q1
      have q6 := q2
      have q3 : cut (ks L) k (L.length - k) = ks (L.drop k) := by rw [cut_drop (by rw [kl]; omega)]; exact (List.map_drop).symm
      have q4 : cut (wsL L) k (L.length - k) = wsL (L.drop k) := by rw [cut_drop (by rw [wl]; omega)]; exact (List.map_drop).symm
      have s1 : ks A ++ ks (L.drop k) = ks (A ++ (L.drop k)) := (List.map_append).symm
      have s2 : wsL A ++ wsL (L.drop k) = wsL (A ++ (L.drop k)) := (List.map_append).symm
      have s3 : (A ++ (L.drop k)).length = A.length + (L.drop k).length := List.length_append
      have t2 : (L.drop k).length = L.length - k := List.length_drop
      have s4 : A.length + (L.length - k) = (A ++ (L.drop k)).length := by omega
      simp only [List.nil_append, Nat.zero_add, q1, q2, q3, q4, q5, q6, s1, s2, s4]
      refine ⟨⟨by omega, by omega, by omega, by omega⟩, ⟨⟨by omega, by omega, by omega, by omega⟩, ?_⟩⟩
      exact At.fit [7, 11, 16] [.pointer (some ⟨2, 0, none⟩), .pointer (some ⟨4, 0, none⟩), .slice (some ⟨5, 0, some 2000⟩) (A ++ (L.drop k)).length 0] [some (.inr (.inr (.inl (actsRow a)))), some (.inr (.inr (.inl (actsRow b)))), cT 3 r, pT m, cT 3 Gv.r0, rN (A ++ (L.drop k))] 186 ⟨rfl, rfl, Nat.le_add_left 2 4⟩ ⟨[0, 1, 2, 4, 5, 10], rfl, ⟨rfl, rfl, .inl rfl, rfl, .inl rfl, ⟨_, rfl, .inl rfl⟩, trivial⟩, rfl, rfl, rfl, rfl⟩ next
    · dsimp only [W7.sa, W7.sb, W7.ra, W7.rb]
      refine rxS_ok (T := TP7) [[1, 1, 1, 1, 1, 1, 1, 1, 1, 1, 1, 1, 1]] TP7_ok mixed 200 ?_
      refine as_text (q := let zz4 := Value.int IntKind.i64; let zz1 := (Value.slice (some (Addr.mk 6 0 (some 2000))) (List.length A) 0); let zz2 := (Value.slice (some (Addr.mk 7 0 (some 2000))) (List.length B) 0); let zz3 := (Value.slice (some (Addr.mk 10 0 (some 2000))) (0 + List.length A + List.length B) 0); Vc (0 ≤ 0 ∧ 0 + List.length A ≤ List.length A ∧ (0 + List.length A) * 16 ≤ 140737488355328 ∧ 0 + List.length A ≤ 140737488355328) ∧ Vc (0 + (0 + List.length A) ≤ 0 + List.length A ∧ 0 + List.length B ≤ List.length B ∧ (0 + List.length A + List.length B) * 16 ≤ 140737488355328 ∧ 0 + List.length A + List.length B ≤ 140737488355328) ∧ At D2 Try.prog (codeOf Try.f6) 2 (GP G) [Sum.inl [1, 1, 1, 1, 1, 1, 1, 1, 1, 1, 1, 1, 1]] (SS.mk [none, none, none, none, none, none, none, some (Value.pointer (some (Addr.mk 2 0 none))), none, none, none, some (Value.pointer (some (Addr.mk 5 0 none))), some zz1, some zz2, none, none, some zz3, none, none, none, none, none, none, none, none, none, none, none, none, none, none, none, none, none, none, none, none, none, none, none, none, none, none, none, none, none, none, none, none, none, none, none, none, none, none, none, none, none, none, none, none, none, none, none, none, none, none, none, none, none, none, none, none, none, none, none, none, none, none, none, none, none, none, none, none, none, none, none, none, none, none, none, none, none, none, none, none, none, none, none, none, none, none, none, none, none, none, none, none, none, none, none, none, none, none, none, none, none, none, none, none, none, none, none, none, none, none, none, none, none, none, none, none, none, none, none, none, none, none, none, none, none, none, none, none, none, none, none, none, none, none, none, none, none, none, none, none, none, none, some (Value.slice (some (Addr.mk 8 0 (some 2000))) 0 0), some zz1, some (Value.slice (some (Addr.mk 9 0 (some 2000))) (0 + List.length A) 0), some zz2, some zz3, none, none, none, none, none, none, none, none, none, none, none, none, none, none, none, none, none, none, none, none, none, none] [] [some (Sum.inr (Sum.inr (Sum.inl (Row.mk [zz4 0, zz4 0, zz4 0] (List.length (Acts.i a)) [Col.mk (Acts.i a) [] [], Col.mk (Acts.k a) [] [], Col.mk (Acts.w a) [] []])))), some (Sum.inr (Sum.inr (Sum.inl (Row.mk [zz4 0, zz4 0, zz4 0] (List.length (Acts.i b)) [Col.mk (Acts.i b) [] [], Col.mk (Acts.k b) [] [], Col.mk (Acts.w b) [] []])))), some (Sum.inl (76, [Value.pointer (some (Addr.mk 4 0 none)), zz4 (Gv.Ref.i r), zz4 (Gv.Ref.g r)])), some (Sum.inr (Sum.inl (38, Row.mk [zz4 0, zz4 0] (List.length (ks L)) [Col.mk (ks L) [] [], Col.mk (wsL L) [] []]))), some (Sum.inr (Sum.inr (Sum.inr (Rt.pool m)))), some (Sum.inl (76, [Value.pointer (some (Addr.mk 4 0 none)), zz4 0, zz4 0])), some (Sum.inr (Sum.inl (38, Row.mk [zz4 0, zz4 0] (List.length A) [Col.mk (ks A) [] [], Col.mk (wsL A) [] []]))), some (Sum.inr (Sum.inl (38, Row.mk [zz4 0, zz4 0] (List.length B) [Col.mk (ks B) [] [], Col.mk (wsL B) [] []]))), none, none, some (Sum.inr (Sum.inl (38, Row.mk [zz4 0, zz4 0] (0 + List.length A + List.length B) [Col.mk (cut ([] ++ cut (ks A) 0 (List.length A)) 0 (0 + List.length A) ++ cut (ks B) 0 (List.length B)) [] [], Col.mk (cut ([] ++ cut (wsL A) 0 (List.length A)) 0 (0 + List.length A) ++ cut (wsL B) 0 (List.length B)) [] []])))])) ?_ (by kernel_rfl)
      intro zz4 zz1 zz2 zz3; subst zz3 zz2 zz1 zz4
      have q1 : cut (ks A) 0 A.length = ks A := cut_eq (by simp)
      have q2 : cut (wsL A) 0 A.length = wsL A := cut_eq (by simp)
      have q5 := q1
      have q6 := q2
      have q3 : cut (ks B) 0 B.length = ks B := cut_eq (by simp)
      have q4 : cut (wsL B) 0 B.length = wsL B := cut_eq (by simp)
      have s1 : ks A ++ ks B = ks (A ++ B) := (List.map_append).symm
      have s2 : wsL A ++ wsL B = wsL (A ++ B) := (List.map_append).symm
      have s3 : (A ++ B).length = A.length + B.length := List.length_append
      have s4 : A.length + B.length = (A ++ B).length := by omega
      simp only [List.nil_append, Nat.zero_add, q1, q2, q3, q4, q5, q6, s1, s2, s4]
      refine ⟨⟨by omega, by omega, by omega, by omega⟩, ⟨⟨by omega, by omega, by omega, by omega⟩, ?_⟩⟩
      exact At.fit [7, 11, 16] [.pointer (some ⟨2, 0, none⟩), .pointer (some ⟨4, 0, none⟩), .slice (some ⟨5, 0, some 2000⟩) (A ++ B).length 0] [some (.inr (.inr (.inl (actsRow a)))), some (.inr (.inr (.inl (actsRow b)))), cT 3 r, pT m, cT 3 Gv.r0, rN (A ++ B)] 186 ⟨rfl, rfl, Nat.le_add_left 2 4⟩ ⟨[0, 1, 2, 4, 5, 10], rfl, ⟨rfl, rfl, .inl rfl, rfl, .inl rfl, ⟨_, rfl, .inl rfl⟩, trivial⟩, rfl, rfl, rfl, rfl⟩ next
end Go.Proofs.Ytclagkjjgmeifaa.G7


/- grove: the law GroveParts: of what was put together. -/
namespace Go.Proofs.Ytclagkjjgmeifaa.G7
open Go.Proofs.Ytclagkjjgmeifaa.Rx Go.Proofs.Ytclagkjjgmeifaa.D7
set_option linter.unusedVariables false
set_option linter.unusedSimpArgs false
set_option maxRecDepth 100000
set_option maxHeartbeats 16000000
theorem parts6 {G : Value → Hp Rt → Prop} (hG : ∀ hp, G (.bool true) hp) {a b : Acts} {C : List El} {n : Nat} {m : Pl} {r : Gv.Ref} (hl : C.length ≤ 70) (hn : n ≤ 100) (hp : T7 n m r C 200) :
    At D2 Try.prog (codeOf Try.f6) 2 (GP G) [.inl [1, 1, 1, 1, 1, 1, 1, 1, 1, 1, 1, 1, 1]] ⟨frame [7, 11, 16] [.pointer (some ⟨2, 0, none⟩), .pointer (some ⟨4, 0, none⟩), .slice (some ⟨5, 0, some 2000⟩) C.length 0] 0 186, [], [some (.inr (.inr (.inl (actsRow a)))), some (.inr (.inr (.inl (actsRow b)))), cT 3 r, pT m, cT 3 Gv.r0, rN C]⟩ := by
  refine rx_ok (T := TP7) TP7_ok mixed 200 ?_
  refine as_text (q := let zz9 := Value.pointer (some (Addr.mk 3 0 none)); let zz10 := Value.int IntKind.i64; let zz1 := (cut (ks C) 0 (List.length C)); let zz2 := (cut (wsL C) 0 (List.length C)); let zz3 := (Gv.Ref.mk (0 : Int) (0 : Int)); let zz4 := (alikeM 5000 (alikeM 5000 m r) zz3); let zz5 := (↑(List.length C) : Int); let zz6 := (Gv.sub zz2 0 (Int.toNat zz5)); let zz7 := (cut zz6 0 (List.length zz6)); let zz8 := (Gv.between O7 5000 (Gv.see zz4 r) (Gv.lk O7 zz4 r) (0 : Int) zz5); Vc ((0 + List.length C ≤ List.length C ∧ True) ∧ PP m ∧ AlikeD 5000 m r ∧ List.length C = List.length zz1 ∧ List.length C = List.length zz1 ∧ List.length zz2 = List.length zz1) ∧ (alikeB 5000 m r zz1 zz2 = true → Vc (PP (alikeM 5000 m r) ∧ AlikeD 5000 (alikeM 5000 m r) zz3 ∧ Prod.fst (gaM 5000 (alikeM 5000 m r) zz3) = [] ∧ Gv.Part.n (Gv.Node.all (Gv.lk O7 (Prod.snd (gaM 5000 (alikeM 5000 m r) zz3)) zz3)) = (0 : Int)) ∧ (true = true → Vc (PP zz4 ∧ Gv.BetE O7 5000 (Gv.see zz4 r) (Gv.lk O7 zz4 r) (0 : Int) zz5) ∧ Vc ((0 + List.length C ≤ List.length C ∧ True) ∧ List.length C = List.length zz1 ∧ List.length C = List.length zz1 ∧ List.length zz2 = List.length zz1 ∧ List.length zz1 ≤ 100000) ∧ Vc ((0 + List.length zz6 ≤ List.length zz6 ∧ True) ∧ List.length zz6 = List.length zz7 ∧ List.length zz6 = List.length zz7 ∧ Mild zz7 ∧ (0 : Int) ≤ zz5 ∧ zz5 ≤ (↑(List.length zz7) : Int)) ∧ Post (G (Value.bool (Ti.Td.s (Gv.Part.sum (Prod.fst zz8)) == Ti.psum zz7 (Int.toNat zz5))) [some (Sum.inr (Sum.inr (Sum.inl (Row.mk [zz10 0, zz10 0, zz10 0] (List.length (Acts.i a)) [Col.mk (Acts.i a) [] [], Col.mk (Acts.k a) [] [], Col.mk (Acts.w a) [] []])))), some (Sum.inr (Sum.inr (Sum.inl (Row.mk [zz10 0, zz10 0, zz10 0] (List.length (Acts.i b)) [Col.mk (Acts.i b) [] [], Col.mk (Acts.k b) [] [], Col.mk (Acts.w b) [] []])))), some (Sum.inl (76, [zz9, zz10 (Gv.Ref.i r), zz10 (Gv.Ref.g r)])), some (Sum.inr (Sum.inr (Sum.inr (Rt.pool (Prod.snd zz8))))), some (Sum.inl (76, [zz9, zz10 0, zz10 0])), some (Sum.inr (Sum.inl (38, Row.mk [zz10 0, zz10 0] (List.length C) [Col.mk (ks C) [] [], Col.mk (wsL C) [] []]))), none, none, some (Sum.inr (Sum.inl (3, Row.mk [zz10 0] (List.length zz6) [Col.mk zz6 [] []])))])) ∧ (true = false → Post (G (Value.bool false) [some (Sum.inr (Sum.inr (Sum.inl (Row.mk [zz10 0, zz10 0, zz10 0] (List.length (Acts.i a)) [Col.mk (Acts.i a) [] [], Col.mk (Acts.k a) [] [], Col.mk (Acts.w a) [] []])))), some (Sum.inr (Sum.inr (Sum.inl (Row.mk [zz10 0, zz10 0, zz10 0] (List.length (Acts.i b)) [Col.mk (Acts.i b) [] [], Col.mk (Acts.k b) [] [], Col.mk (Acts.w b) [] []])))), some (Sum.inl (76, [zz9, zz10 (Gv.Ref.i r), zz10 (Gv.Ref.g r)])), some (Sum.inr (Sum.inr (Sum.inr (Rt.pool zz4)))), some (Sum.inl (76, [zz9, zz10 0, zz10 0])), some (Sum.inr (Sum.inl (38, Row.mk [zz10 0, zz10 0] (List.length C) [Col.mk (ks C) [] [], Col.mk (wsL C) [] []]))), none]))) ∧ (alikeB 5000 m r zz1 zz2 = false → Post (G (Value.bool false) [some (Sum.inr (Sum.inr (Sum.inl (Row.mk [zz10 0, zz10 0, zz10 0] (List.length (Acts.i a)) [Col.mk (Acts.i a) [] [], Col.mk (Acts.k a) [] [], Col.mk (Acts.w a) [] []])))), some (Sum.inr (Sum.inr (Sum.inl (Row.mk [zz10 0, zz10 0, zz10 0] (List.length (Acts.i b)) [Col.mk (Acts.i b) [] [], Col.mk (Acts.k b) [] [], Col.mk (Acts.w b) [] []])))), some (Sum.inl (76, [zz9, zz10 (Gv.Ref.i r), zz10 (Gv.Ref.g r)])), some (Sum.inr (Sum.inr (Sum.inr (Rt.pool (alikeM 5000 m r))))), some (Sum.inl (76, [zz9, zz10 0, zz10 0])), some (Sum.inr (Sum.inl (38, Row.mk [zz10 0, zz10 0] (List.length C) [Col.mk (ks C) [] [], Col.mk (wsL C) [] []]))), none]))) ?_ (by kernel_rfl)
  intro zz9 zz10 zz1 zz2 zz3 zz4 zz5 zz6 zz7 zz8; subst zz8 zz7 zz6 zz5 zz4 zz3 zz2 zz1 zz10 zz9
  rw [show (Gv.Ref.mk (0 : Int) (0 : Int)) = Gv.r0 from rfl]
  have kl : (ks C).length = C.length := List.length_map _
  have wl : (wsL C).length = C.length := List.length_map _
  have c0 : cut (ks C) 0 C.length = ks C := cut_eq kl
  have c1 : cut (wsL C) 0 C.length = wsL C := cut_eq wl
  have e0 : Gv.sub (wsL C) 0 C.length = wsL C := by unfold Gv.sub; exact List.take_of_length_le (by simp [wsL])
  have e1 : Gv.sub C 0 C.length = C := by unfold Gv.sub; simp
  obtain ⟨u1, u2, u3⟩ := hp.alike (K := 5000) (by omega) C
  rw [decide_eq_true rfl] at u2
  obtain ⟨v1, _, v3⟩ := u3.swap.alike (K := 5000) (by simp) []
  obtain ⟨_, m1, g1, g2⟩ := u3.swap.all (K := 5000) (by simp)
  have g3 : gaM 5000 (alikeM 5000 m r) Gv.r0 = ([], m1) := g1
  have g4 := g2.nn
  obtain ⟨d1, m3, b1, b2⟩ := v3.swap.bet (K := 5000) (f := 0) (u := (C.length : Int)) (by omega)
  have hm : Mild (wsL C) := hp.good
  simp only [Int.toNat_natCast, c0, c1, e0, kl, wl, u2, g3, b1]
  refine ⟨⟨⟨by omega, trivial⟩, hp.ok (by omega), u1, trivial, trivial, trivial⟩, ⟨fun _ => ⟨⟨u3.ok (by omega), v1, trivial, g4⟩, ⟨fun _ => ⟨⟨v3.ok (by omega), d1⟩, ⟨⟨⟨by omega, trivial⟩, trivial, trivial, trivial, by omega⟩, ⟨⟨⟨by omega, trivial⟩, trivial, trivial, hm, by omega, by omega⟩, ⟨?_⟩⟩⟩⟩, (fun h => by cases h)⟩⟩, (fun h => by cases h)⟩⟩
  have e2 : (S7 (Gv.sub C (0 : Int).toNat C.length)).s = Ti.psum (wsL C) C.length := by
    show (S7 (Gv.sub C 0 C.length)).s = _
    rw [e1]
    show Ti.psum (wsL C) (wsL C).length = _
    rw [wl]
  rw [e2, beq_self_eq_true]
  exact hG _
end Go.Proofs.Ytclagkjjgmeifaa.G7


/- grove: the law GroveParts: its run. -/
namespace Go.Proofs.Ytclagkjjgmeifaa.G7
open Go.Proofs.Ytclagkjjgmeifaa.Rx Go.Proofs.Ytclagkjjgmeifaa.D7
set_option linter.unusedVariables false
set_option linter.unusedSimpArgs false
set_option maxRecDepth 100000
set_option maxHeartbeats 16000000
theorem parts_run {G : Value → Hp Rt → Prop} {a b : Acts} {key : Int} (ha : a.Ok) (hb : b.Ok) (hG : ∀ hp, G (.bool true) hp) :
    At D2 Try.prog (codeOf Try.f6) 2 (retK Try.prog Try.f6.results.toList G) [.inl []] ⟨someL [.slice (some ⟨0, 0, some 3000⟩) a.i.length 0, .int .i64 key, .slice (some ⟨1, 0, some 3000⟩) b.i.length 0] ++ List.replicate (Try.f6.ntmps - 3) none, [], [some (.inr (.inr (.inl (actsRow a)))), some (.inr (.inr (.inl (actsRow b))))]⟩ := by
  refine rxS_ok (T := TP7) [[1, 1, 1, 1, 1, 1]] TP7_ok mixed 200 ?_
  refine as_text (q := let zz15 := Value.int IntKind.i64; let zz1 := (List.length (Acts.i a)); let zz2 := (cut (Acts.i a) 0 zz1); let zz3 := (cut (Acts.w a) 0 zz1); let zz4 := (decide ((↑(List.length zz2) : Int) ≤ (50 : Int)) && smallB zz3 (List.length zz3)); let zz5 := (List.length (Acts.i b)); let zz6 := (decide ((↑(List.length (cut (Acts.i b) 0 zz5)) : Int) ≤ (20 : Int)) && smallB (cut (Acts.w b) 0 zz5) (List.length (cut (Acts.w b) 0 zz5))); let zz7 := (Value.bool false); let zz8 := (madeS (200 : Int) zz2 (cut (Acts.k a) 0 zz1) zz3 (List.length zz2)); let zz9 := (cut (ks (TS.l zz8)) 0 (List.length (TS.l zz8))); let zz10 := (Value.slice (some (Addr.mk 0 0 (some 3000))) zz1 0); let zz11 := (Value.pointer (some (Addr.mk 3 0 none))); let zz12 := (Value.slice (some (Addr.mk 4 0 (some 2000))) (List.length (TS.l zz8)) 0); let zz13 := (Value.tuple (Array.mk [Value.pointer (some (Addr.mk 3 0 none)), Value.slice (some (Addr.mk 4 0 (some 2000))) (List.length (TS.l zz8)) 0, Value.bool true])); let zz14 := (Gv.cutF O7 5000 5000 (TS.m (TS.alike zz8)) (TS.r (TS.alike zz8)) (El.mk key (0 : Int))); Vc True ∧ (false = false → Vc ((0 + List.length (Acts.i a) ≤ List.length (Acts.i a) ∧ True) ∧ List.length (Acts.i a) = List.length zz2 ∧ List.length (Acts.i a) = List.length zz2 ∧ List.length zz3 = List.length zz2 ∧ (50 : Int) ≤ (1000 : Int)) ∧ ((!zz4) = false → Vc ((0 + List.length (Acts.i b) ≤ List.length (Acts.i b) ∧ True) ∧ List.length (Acts.i b) = List.length (cut (Acts.i b) 0 zz5) ∧ List.length (Acts.i b) = List.length (cut (Acts.i b) 0 zz5) ∧ List.length (cut (Acts.w b) 0 zz5) = List.length (cut (Acts.i b) 0 zz5) ∧ (20 : Int) ≤ (1000 : Int)) ∧ ((!zz6) = true → Vc True ∧ Post (G (Value.bool true) [some (Sum.inr (Sum.inr (Sum.inl (Row.mk [zz15 0, zz15 0, zz15 0] zz1 [Col.mk (Acts.i a) [] [], Col.mk (Acts.k a) [] [], Col.mk (Acts.w a) [] []])))), some (Sum.inr (Sum.inr (Sum.inl (Row.mk [zz15 0, zz15 0, zz15 0] zz5 [Col.mk (Acts.i b) [] [], Col.mk (Acts.k b) [] [], Col.mk (Acts.w b) [] []]))))])) ∧ ((!zz6) = false → Vc ((0 + List.length (Acts.i a) ≤ List.length (Acts.i a) ∧ True) ∧ List.length (Acts.i a) = List.length zz2 ∧ List.length (Acts.i a) = List.length zz2 ∧ List.length (cut (Acts.k a) 0 zz1) = List.length zz2 ∧ List.length zz3 = List.length zz2 ∧ List.length zz2 ≤ 400 ∧ Mild zz3) ∧ (false = true → Post (G zz7 [some (Sum.inr (Sum.inr (Sum.inl (Row.mk [zz15 0, zz15 0, zz15 0] zz1 [Col.mk (Acts.i a) [] [], Col.mk (Acts.k a) [] [], Col.mk (Acts.w a) [] []])))), some (Sum.inr (Sum.inr (Sum.inl (Row.mk [zz15 0, zz15 0, zz15 0] zz5 [Col.mk (Acts.i b) [] [], Col.mk (Acts.k b) [] [], Col.mk (Acts.w b) [] []])))), none, some (Sum.inr (Sum.inr (Sum.inr (Rt.tree (TS.alike zz8))))), some (Sum.inr (Sum.inl (38, Row.mk [zz15 0, zz15 0] (List.length (ks (TS.l zz8))) [Col.mk (ks (TS.l zz8)) [] [], Col.mk (wsL (TS.l zz8)) [] []])))])) ∧ (false = false → Vc ((0 + List.length (TS.l zz8) ≤ List.length (ks (TS.l zz8)) ∧ True) ∧ List.length (TS.l zz8) = List.length zz9 ∧ List.length (TS.l zz8) = List.length zz9 ∧ List.length zz9 ≤ 1000000) ∧ Vc (TS.Few (TS.alike zz8)) ∧ At D2 Try.prog (codeOf Try.f6) 2 (retK Try.prog (Array.toList (Func.results Try.f6)) G) [Sum.inl [1, 1, 1, 1, 1, 1]] (SS.mk [some zz10, some (zz15 key), some (Value.slice (some (Addr.mk 1 0 (some 3000))) zz5 0), none, none, none, some zz7, some zz11, some zz12, some (Value.bool true), some (zz15 (↑(rkC zz9 key) : Int)), some (Value.pointer (some (Addr.mk 6 0 none))), none, none, none, none, none, some (Value.bool true), some zz7, some zz7, some zz10, some (Value.bool zz4), some (Value.bool !zz4), some (Value.bool !zz4), some zz7, some (Value.slice (some (Addr.mk 1 0 (some 3000))) zz5 0), some (Value.bool zz6), some (Value.bool !zz6), some zz7, none, some zz13, some zz10, some zz13, some zz11, some zz12, some (Value.bool true), some (Value.bool true), some zz7, some zz12, some (zz15 key), some (zz15 (↑(rkC zz9 key) : Int)), some zz11, some (zz15 key), some (Value.agg (Array.mk [zz15 key, zz15 0])), some (Value.pointer (some (Addr.mk 6 0 none))), none, none, none, none, none, none, none, none, none, none, none, none, none, none, none, none, none, none, none, none, none, none, none, none, none, none, none, none, none, none, none, none, none, none, none, none, none, none, none, none, none, none, none, none, none, none, none, none, none, none, none, none, none, none, none, none, none, none, none, none, none, none, none, none, none, none, none, none, none, none, none, none, none, none, none, none, none, none, none, none, none, none, none, none, none, none, none, none, none, none, none, none, none, none, none, none, none, none, none, none, none, none, none, none, none, none, none, none, none, none, none, none, none, none, none, none, none, none, none, none, none, none, none, none, none, none, none, none, none, none, none, none, none, none, none, none, none, none, none, none, none] [(37, false), (28, false), (24, false), (19, false), (6, false)] [some (Sum.inr (Sum.inr (Sum.inl (Row.mk [zz15 0, zz15 0, zz15 0] zz1 [Col.mk (Acts.i a) [] [], Col.mk (Acts.k a) [] [], Col.mk (Acts.w a) [] []])))), some (Sum.inr (Sum.inr (Sum.inl (Row.mk [zz15 0, zz15 0, zz15 0] zz5 [Col.mk (Acts.i b) [] [], Col.mk (Acts.k b) [] [], Col.mk (Acts.w b) [] []])))), none, some (Sum.inl (76, [Value.pointer (some (Addr.mk 5 0 none)), zz15 (Gv.Ref.i (Prod.fst zz14)), zz15 (Gv.Ref.g (Prod.fst zz14))])), some (Sum.inr (Sum.inl (38, Row.mk [zz15 0, zz15 0] (List.length (ks (TS.l zz8))) [Col.mk (ks (TS.l zz8)) [] [], Col.mk (wsL (TS.l zz8)) [] []]))), some (Sum.inr (Sum.inr (Sum.inr (Rt.pool (Prod.snd (Prod.snd zz14)))))), some (Sum.inl (76, [Value.pointer (some (Addr.mk 5 0 none)), zz15 (Gv.Ref.i (Prod.fst (Prod.snd zz14))), zz15 (Gv.Ref.g (Prod.fst (Prod.snd zz14)))]))])))) ∧ ((!zz4) = true → Vc True ∧ Post (G (Value.bool true) [some (Sum.inr (Sum.inr (Sum.inl (Row.mk [zz15 0, zz15 0, zz15 0] zz1 [Col.mk (Acts.i a) [] [], Col.mk (Acts.k a) [] [], Col.mk (Acts.w a) [] []])))), some (Sum.inr (Sum.inr (Sum.inl (Row.mk [zz15 0, zz15 0, zz15 0] zz5 [Col.mk (Acts.i b) [] [], Col.mk (Acts.k b) [] [], Col.mk (Acts.w b) [] []]))))]))) ∧ (false = true → Vc True ∧ Post (G (Value.bool true) [some (Sum.inr (Sum.inr (Sum.inl (Row.mk [zz15 0, zz15 0, zz15 0] zz1 [Col.mk (Acts.i a) [] [], Col.mk (Acts.k a) [] [], Col.mk (Acts.w a) [] []])))), some (Sum.inr (Sum.inr (Sum.inl (Row.mk [zz15 0, zz15 0, zz15 0] zz5 [Col.mk (Acts.i b) [] [], Col.mk (Acts.k b) [] [], Col.mk (Acts.w b) [] []]))))]))) ?_ (by kernel_rfl)
  intro zz15 zz1 zz2 zz3 zz4 zz5 zz6 zz7 zz8 zz9 zz10 zz11 zz12 zz13 zz14; subst zz14 zz13 zz12 zz11 zz10 zz9 zz8 zz7 zz6 zz5 zz4 zz3 zz2 zz1 zz15
  have c1 : cut a.i 0 a.i.length = a.i := cut_all _
  have c2 : cut a.k 0 a.i.length = a.k := cut_eq ha.k
  have c3 : cut a.w 0 a.i.length = a.w := cut_eq ha.w
  have d1 : cut b.i 0 b.i.length = b.i := cut_all _
  have d2 : cut b.k 0 b.i.length = b.k := cut_eq hb.k
  have d3 : cut b.w 0 b.i.length = b.w := cut_eq hb.w
  simp only [c1, c2, c3, d1, d2, d3]
  refine ⟨⟨trivial⟩, ⟨fun _ => ⟨⟨⟨by omega, trivial⟩, trivial, trivial, ha.w, by omega⟩, ⟨fun h => ⟨⟨⟨by omega, trivial⟩, trivial, trivial, hb.w, by omega⟩, ⟨fun _ => ⟨⟨trivial⟩, ⟨hG _⟩⟩, fun h' => ?_⟩⟩, fun _ => ⟨⟨trivial⟩, ⟨hG _⟩⟩⟩⟩, (fun h => by cases h)⟩⟩
  obtain ⟨hla, hma⟩ := small_of (m := 50) ha.w (by simpa using h) (by decide)
  obtain ⟨hlb, hmb⟩ := small_of (m := 20) hb.w (by simpa using h') (by decide)
  clear h h'
  have hS := made_ok (mo := 200) ha.k ha.w (by omega) hma a.i.length (Nat.le_refl _)
  generalize madeS 200 a.i a.k a.w a.i.length = S at hS ⊢
  obtain ⟨hS1, hS2, hS3, hS4⟩ := hS
  have few : S.alike.Few := by show S.n < 100000; omega
  have l0 : (ks S.l).length = S.l.length := List.length_map ..
  have d0 : cut (ks S.l) 0 S.l.length = ks S.l := cut_eq l0
  have hl : S.l.length ≤ 50 := by omega
  have hkl : rk S.l key ≤ S.l.length := by have := rkC_le (ks S.l) key; rwa [List.length_map] at this
  have hp : T7 S.n S.alike.m S.alike.r S.l 200 := by
    have h1 := S.alike.ok
    have h2 : S.alike.c = 200 := by show S.c = 200; rw [hS2]; omega
    rw [h2] at h1
    exact h1
  obtain ⟨_, x, y, m', e1, e2⟩ := hp.split (K := 5000) (e := ⟨key, 0⟩) (by omega)
  simp only [d0, e1]
  refine ⟨⟨⟨by omega, trivial⟩, trivial, trivial, ha.k, ha.w, by omega, hma⟩, ⟨(fun h => by cases h), fun _ => ⟨⟨⟨by omega, trivial⟩, l0.symm, l0.symm, by omega⟩, ⟨⟨few⟩, ?_⟩⟩⟩⟩
  refine At.fit [1, 2, 7, 8, 10, 11] [.int .i64 key, .slice (some ⟨1, 0, some 3000⟩) b.i.length 0, .pointer (some ⟨2, 0, none⟩), .slice (some ⟨3, 0, some 2000⟩) S.l.length 0, .int .i64 (rk S.l key : Nat), .pointer (some ⟨5, 0, none⟩)] [some (.inr (.inr (.inl (actsRow a)))), some (.inr (.inr (.inl (actsRow b)))), cT 4 x, rE (ks S.l) (wsL S.l), pT m', cT 4 y] 186 ⟨rfl, rfl, Nat.le_add_left 2 4⟩ ⟨[0, 1, 3, 4, 5, 6], rfl, ⟨rfl, rfl, .inl rfl, ⟨_, rfl, .inl rfl⟩, rfl, .inl rfl, trivial⟩, rfl, rfl, rfl, rfl⟩ ?_
  refine parts2 rfl hp.srt hl (by omega) e2 fun m1 p1 => parts3 hb hmb (by omega) rfl hp.srt hl (by omega) p1 fun s hs' => parts4 (by omega) hkl hl (by omega) s hs' fun r m2 p2 => parts5 (by omega) hkl s hs' (parts6 hG ?_ ?_ p2)
  · have := hs'.la; have := hs'.i; rw [List.length_append]; omega
  · have := hs'.i; omega
end Go.Proofs.Ytclagkjjgmeifaa.G7


/- grove: the law GroveParts, called. -/
namespace Go.Proofs.Ytclagkjjgmeifaa.G7
open Go.RowKit Go.Proofs.Ytclagkjjgmeifaa.Rx
set_option linter.unusedVariables false
set_option linter.unusedSimpArgs false
set_option maxRecDepth 100000
theorem acts_of {r : Row} (hr : r.tm = [.int .i64 0, .int .i64 0, .int .i64 0]) (hw : wfCols [.int .i64 0, .int .i64 0, .int .i64 0] r.cols r.n) : ∃ a : Acts, a.Ok ∧ r = actsRow a ∧ r.n = a.i.length := by
  obtain ⟨tm, n, cols⟩ := r
  simp only at hr
  subst hr
  match cols, hw with
  | [c1, c2, c3], hw =>
    obtain ⟨⟨h1, l1, _⟩, ⟨h2, l2, _⟩, ⟨h3, l3, _⟩, _⟩ := hw
    refine ⟨⟨c1.i, c2.i, c3.i⟩, ⟨by simp only at *; omega, by simp only at *; omega⟩, ?_, ?_⟩
    · simp only at l1
      rw [actsRow, l1, ← h1, ← h2, ← h3]
    · simp only at *; omega
theorem parts_law {key : Int} {p q : Rx.Place} {r t : Row} {W : World} (hr : r.tm = [.int .i64 0, .int .i64 0, .int .i64 0]) (hw : wfCols [.int .i64 0, .int .i64 0, .int .i64 0] r.cols r.n) (hv : ViewOk W p r)
    (hr' : t.tm = [.int .i64 0, .int .i64 0, .int .i64 0]) (hw' : wfCols [.int .i64 0, .int .i64 0, .int .i64 0] t.cols t.n) (hv' : ViewOk W q t) :
    Calls Try.prog 6 #[ren (viewsE [(p, r), (q, t)]) (.slice (some ⟨0, 0, some 3000⟩) r.n 0), .int .i64 key, ren (viewsE [(p, r), (q, t)]) (.slice (some ⟨1, 0, some 3000⟩) t.n 0)] W fun e W' => e = .returned (.bool true) ∧ Below W.heap.size W W' := by
  obtain ⟨a, ha, e1, n1⟩ := acts_of hr hw
  obtain ⟨b, hb, e2, n2⟩ := acts_of hr' hw'
  rw [n1, n2]
  subst e1 e2
  have := law_calls (D := D2) (fn := Try.f6) (root := codeOf Try.f6) (args := [.slice (some ⟨0, 0, some 3000⟩) a.i.length 0, .int .i64 key, .slice (some ⟨1, 0, some 3000⟩) b.i.length 0]) [(p, actsRow a), (q, actsRow b)] Try.func6 (by kernel_rfl) (by simpa using ⟨hv, hv'⟩) rfl
    (parts_run (a := a) (b := b) (key := key) ha hb fun _ => rfl)
  simpa using this
end Go.Proofs.Ytclagkjjgmeifaa.G7


