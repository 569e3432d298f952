/- arena: what the laws call: Rest, ref, awake. -/
import Derived.Test.YtloibbakklenbaaArRel
namespace Go.Proofs.Ytloibbakklenbaa.Ar
open Go.Proofs.Ytloibbakklenbaa.Rx
set_option linter.unusedVariables false
set_option linter.unusedSimpArgs false
set_option maxRecDepth 100000
def restI (a n : Int) : Int := ((a.tmod n) + n).tmod n
theorem rest_bounds {a n : Int} (h : 0 < n) : 0 ≤ restI a n ∧ restI a n < n := by
  have h1 : 0 ≤ a.tmod n + n := by have := Int.tmod_lt_of_pos a h; have := Int.lt_tmod_of_pos a h; omega
  exact ⟨Int.tmod_nonneg _ h1, Int.tmod_lt_of_pos _ h⟩
def restP : Prim Rs := fun args hh => match args, hh with
  | [.int .i64 a, .int .i64 n], [] => some ⟨0 < n ∧ n < 1000000, .int .i64 (restI a n), none, hh, [], []⟩
  | _, _ => none
theorem rest_ok : ConOk D Try.prog 11 (con1 restP) := by
  refine con1_ok (prim_at (fn := Try.f11) (root := codeOf Try.f11) (by kernel_rfl) (by kernel_rfl) (by kernel_rfl) fun args hh x hx => ?_)
  unfold restP at hx
  split at hx
  · rename_i a n
    injection hx with hx
    subst hx
    refine ⟨by first | exact Nat.le_refl _ | exact Nat.zero_le _, noLit rfl, (fun hw => by first | rfl | cases hw), fun _ hv => ?_⟩
    generalize hG : Rx.Ends (R := Rs) _ _ = G
    refine rx_ok (T := []) trivial mixed 200 ?_
    refine as_text (q := Vc (n ≠ (0 : Int)) ∧ Vc (fits (Int.tmod a n + n)) ∧ Vc (n ≠ (0 : Int)) ∧ Post (G (Value.int IntKind.i64 (Int.tmod (Int.tmod a n + n) n)) [])) ?_ (by kernel_rfl)
    subst hG
    have h1 := Int.tmod_lt_of_pos a hv.1
    have h2 := Int.lt_tmod_of_pos a hv.1
    refine ⟨⟨by omega⟩, ⟨⟨by omega, by omega⟩⟩, ⟨by omega⟩, ⟨⟨[], rfl, rfl, trivial, rfl, rfl, rfl, rfl⟩⟩⟩
  · cases hx
/-- an act's handle -/
def refI (ts : List Int) (told : Bool) (x i : Int) : Int := if told = true ∧ ts.length ≠ 0 then ts.getD (restI i ts.length).toNat 0 else x
def TR : Tab Rs := [(11, liftC zN 2 (con1 restP))]
theorem TR_ok : TabOk D Try.prog TR := ⟨liftC_ok _ _ rest_ok, trivial⟩
def refP : Prim Rs := fun args hh => match args, hh with
  | [.slice (some ⟨0, 0, some 2000⟩) n _, .agg ⟨[.int .i64 k, .int .i64 v, .bool told, .int .i64 i, .int .i64 g]⟩], [some (.inr (.inr (.inl ⟨[.int .i64 0, .int .i64 0], n', [⟨x, [], []⟩, ⟨y, [], []⟩]⟩)))] => some ⟨n = x.length ∧ n' = x.length ∧ y.length = x.length ∧ n < 1000000, .agg ⟨[.int .i64 (refI x told i i), .int .i64 (refI y told g i)]⟩, none, hh, [], []⟩
  | _, _ => none
theorem ref_ok : ConOk D Try.prog 10 (con1 refP) := by
  refine con1_ok (prim_at (fn := Try.f10) (root := codeOf Try.f10) (by kernel_rfl) (by kernel_rfl) (by kernel_rfl) fun args hh x hx => ?_)
  unfold refP at hx
  split at hx
  · rename_i n cp k v told i g n' x y
    injection hx with hx
    subst hx
    refine ⟨by first | exact Nat.le_refl _ | exact Nat.zero_le _, noLit rfl, (fun hw => by first | rfl | cases hw), fun _ hv => ?_⟩
    obtain ⟨rfl, rfl, v2, v3⟩ := hv
    generalize hG : Rx.Ends (R := Rs) _ _ = G
    refine rx_ok (T := TR) TR_ok mixed 200 ?_
    refine as_text (q := ((!told) = false → (((↑(List.length x) : Int) == (0 : Int)) = true → Post (G (Value.agg (Array.mk [Value.int IntKind.i64 i, Value.int IntKind.i64 g])) [some (Sum.inr (Sum.inr (Sum.inl (Row.mk [Value.int IntKind.i64 0, Value.int IntKind.i64 0] (List.length x) [Col.mk x [] [], Col.mk y [] []])))), some (Sum.inl (33, [Value.int IntKind.i64 k, Value.int IntKind.i64 v, Value.bool told, Value.int IntKind.i64 i, Value.int IntKind.i64 g])), some (Sum.inl (30, [Value.int IntKind.i64 i, Value.int IntKind.i64 g]))])) ∧ (((↑(List.length x) : Int) == (0 : Int)) = false → Vc ((0 : Int) < (↑(List.length x) : Int) ∧ (↑(List.length x) : Int) < (1000000 : Int)) ∧ Vc ((0 : Int) ≤ restI i (↑(List.length x) : Int) ∧ restI i (↑(List.length x) : Int) < (↑(List.length x) : Int) ∧ 0 + List.length x ≤ List.length x) ∧ Vc (0 + Int.toNat (restI i (↑(List.length x) : Int)) < List.length x) ∧ Post (G (Value.agg (Array.mk [Value.int IntKind.i64 (List.getD x (0 + Int.toNat (restI i (↑(List.length x) : Int))) (0 : Int)), Value.int IntKind.i64 (List.getD y (0 + Int.toNat (restI i (↑(List.length x) : Int))) (0 : Int))])) [some (Sum.inr (Sum.inr (Sum.inl (Row.mk [Value.int IntKind.i64 0, Value.int IntKind.i64 0] (List.length x) [Col.mk x [] [], Col.mk y [] []])))), some (Sum.inl (33, [Value.int IntKind.i64 k, Value.int IntKind.i64 v, Value.bool told, Value.int IntKind.i64 i, Value.int IntKind.i64 g])), some (Sum.inl (30, [Value.int IntKind.i64 (List.getD x (0 + Int.toNat (restI i (↑(List.length x) : Int))) (0 : Int)), Value.int IntKind.i64 (List.getD y (0 + Int.toNat (restI i (↑(List.length x) : Int))) (0 : Int))]))]))) ∧ ((!told) = true → Post (G (Value.agg (Array.mk [Value.int IntKind.i64 i, Value.int IntKind.i64 g])) [some (Sum.inr (Sum.inr (Sum.inl (Row.mk [Value.int IntKind.i64 0, Value.int IntKind.i64 0] (List.length x) [Col.mk x [] [], Col.mk y [] []])))), some (Sum.inl (33, [Value.int IntKind.i64 k, Value.int IntKind.i64 v, Value.bool told, Value.int IntKind.i64 i, Value.int IntKind.i64 g])), some (Sum.inl (30, [Value.int IntKind.i64 i, Value.int IntKind.i64 g]))]))) ?_ (by kernel_rfl)
    subst hG
    have hb := fun h => rest_bounds (a := i) (n := x.length) h
    repeat' (first | apply And.intro | apply Vc.mk | apply fits.mk | intro h | apply Post.mk)
    all_goals (try simp only [decide_eq_true_eq, decide_eq_false_iff_not, Nat.zero_add, ge_iff_le, Int.not_le, Int.not_lt, Int.toNat_natCast, beq_iff_eq, beq_eq_false_iff_ne, Bool.not_eq_true', Bool.not_eq_false'] at *)
    all_goals first | omega | (apply congrArg Value.bool; assumption) | exact ⟨rfl, by omega⟩ | exact rfl | (simp [*, -List.getD_eq_getElem?_getD]; done) | skip
    · refine ⟨⟨[0], ?_, rfl, by simp [Pulls, pullB, nth, at2, dnL, dnV, mvL, mvV, mvA, mvQ_lt, blt_true, blt_false, RowLe, colI, colB], rfl, rfl, rfl, rfl⟩⟩
      have h0 : x.length = 0 := by omega
      simp [mvV, mvL, dnV, dnL, refI, h0, v2]
    · refine ⟨⟨[0], ?_, rfl, by simp [Pulls, pullB, nth, at2, dnL, dnV, mvL, mvV, mvA, mvQ_lt, blt_true, blt_false, RowLe, colI, colB], rfl, rfl, rfl, rfl⟩⟩
      have h0 : ¬ x.length = 0 := by omega
      have h1 : told = true := by assumption
      simp only [mvV, mvL, dnV, dnL, refI, v2, h0, h1, ne_eq, not_false_eq_true, and_self, if_true]
    · refine ⟨⟨[0], ?_, rfl, by simp [Pulls, pullB, nth, at2, dnL, dnV, mvL, mvV, mvA, mvQ_lt, blt_true, blt_false, RowLe, colI, colB], rfl, rfl, rfl, rfl⟩⟩
      have h1 : told = false := by assumption
      simp [mvV, mvL, dnV, dnL, refI, h1]
  · cases hx
def PM.okB (m : PM) (n : Nat) : Bool := Nat.beq m.gens.length m.vs.length && Nat.beq m.live.length m.vs.length && m.free.all (fun f => decide (0 ≤ f) && decide (f < m.vs.length)) && Nat.ble m.vs.length n && Nat.ble m.free.length n && m.gens.all (fun g => decide (0 ≤ g) && decide (g ≤ n)) && decide (0 ≤ m.visits) && decide (m.visits ≤ n) && decide (-n ≤ m.held) && decide (m.held ≤ n)
theorem PM.ok_of {m : PM} {n : Nat} (h : m.okB n = true) : m.Ok n := by
  simp only [PM.okB, Bool.and_eq_true, List.all_eq_true, Nat.ble_eq, decide_eq_true_eq] at h
  obtain ⟨⟨⟨⟨⟨⟨⟨⟨⟨h1, h2⟩, h3⟩, h4⟩, h5⟩, h6⟩, h7⟩, h8⟩, h9⟩, h10⟩ := h
  exact ⟨Nat.eq_of_beq_eq_true h1, Nat.eq_of_beq_eq_true h2, h3, h4, h5, h6, ⟨h7, h8⟩, ⟨h9, h10⟩⟩
def oneRow : Nat → Bool := fun _ => true
def TL : Tab Rs := [(11, liftC zN 2 (con1 restP)), (10, liftC oneRow 2 (con1 refP)),
  (8, liftC zN 2 (con1 newP)), (12, liftC zN 2 (con1 putP)), (14, liftC zN 2 (con1 getP)), (16, liftC zN 2 (con1 setP)), (18, liftC zN 2 (con1 dropP)),
  (20, liftC zN 2 (con1 lenP)), (22, liftC zN 2 (con1 capP)), (23, liftC zN 2 (con1 visitsP)),
  (9, liftC zN 2 (con1 rnewP)), (13, liftC zN 2 (con1 rputP)), (15, liftC zN 2 (con1 rgetP)), (17, liftC zN 2 (con1 rsetP)), (19, liftC zN 2 (con1 rdropP)),
  (21, liftC zN 2 (con1 rlenP)), (1000000000, rdCon L)]
theorem TL_ok : TabOk D Try.prog TL := ⟨liftC_ok _ _ rest_ok, liftC_ok _ _ ref_ok, liftC_ok _ _ new_ok, liftC_ok _ _ put_ok, liftC_ok _ _ get_ok, liftC_ok _ _ set_ok, liftC_ok _ _ drop_ok, liftC_ok _ _ len_ok, liftC_ok _ _ cap_ok, liftC_ok _ _ visits_ok,
  liftC_ok _ _ rnew_ok, liftC_ok _ _ rput_ok, liftC_ok _ _ rget_ok, liftC_ok _ _ rset_ok, liftC_ok _ _ rdrop_ok, liftC_ok _ _ rlen_ok, rdCon_ok, trivial⟩
def awakeP : Prim Rs := fun args hh => match args, hh with
  | [], [] => some ⟨True, .bool true, none, hh, [], []⟩
  | _, _ => none
theorem awake_ok : ConOk D Try.prog 7 (con1 awakeP) := by
  refine con1_ok (prim_at (fn := Try.f7) (root := codeOf Try.f7) (by kernel_rfl) (by kernel_rfl) (by kernel_rfl) fun args hh x hx => ?_)
  unfold awakeP at hx
  split at hx
  · injection hx with hx
    subst hx
    refine ⟨by first | exact Nat.le_refl _ | exact Nat.zero_le _, noLit rfl, (fun hw => by first | rfl | cases hw), fun _ hv => ?_⟩
    generalize hG : Rx.Ends (R := Rs) _ _ = G
    refine rx_ok (T := TL) TL_ok mixed 200 ?_
    refine as_text (q := Vc True ∧ Vc (PM.Ok (PM.mk [] [] [] [] (0 : Int) (5 : Int) (0 : Int)) 10000) ∧ Vc (PM.Ok (PM.mk [(7 : Int)] [(1 : Int)] [true] [] (1 : Int) (5 : Int) (0 : Int)) 10000) ∧ Vc (PM.Ok (PM.mk [(7 : Int), (8 : Int)] [(1 : Int), (1 : Int)] [true, true] [] (2 : Int) (5 : Int) (0 : Int)) 10000) ∧ Vc (PM.Ok (PM.mk [(0 : Int), (8 : Int)] [(1 : Int), (1 : Int)] [false, true] [(0 : Int)] (1 : Int) (5 : Int) (1 : Int)) 10000) ∧ (true = true → (true = true → (true = true → (true = true → (true = true → (true = true → (true = true → Post (G (Value.bool true) [some (Sum.inr (Sum.inr (Sum.inr (Rs.pool (PM.mk [(9 : Int), (8 : Int)] [(2 : Int), (1 : Int)] [true, true] [] (2 : Int) (5 : Int) (1 : Int)))))), some (Sum.inl (30, [Value.int IntKind.i64 0, Value.int IntKind.i64 1])), some (Sum.inl (30, [Value.int IntKind.i64 1, Value.int IntKind.i64 1])), some (Sum.inl (30, [Value.int IntKind.i64 0, Value.int IntKind.i64 2]))])) ∧ (true = false → Post (G (Value.bool false) [some (Sum.inr (Sum.inr (Sum.inr (Rs.pool (PM.mk [(9 : Int), (8 : Int)] [(2 : Int), (1 : Int)] [true, true] [] (2 : Int) (5 : Int) (1 : Int)))))), some (Sum.inl (30, [Value.int IntKind.i64 0, Value.int IntKind.i64 1])), some (Sum.inl (30, [Value.int IntKind.i64 1, Value.int IntKind.i64 1])), some (Sum.inl (30, [Value.int IntKind.i64 0, Value.int IntKind.i64 2]))]))) ∧ (true = false → Post (G (Value.bool false) [some (Sum.inr (Sum.inr (Sum.inr (Rs.pool (PM.mk [(9 : Int), (8 : Int)] [(2 : Int), (1 : Int)] [true, true] [] (2 : Int) (5 : Int) (1 : Int)))))), some (Sum.inl (30, [Value.int IntKind.i64 0, Value.int IntKind.i64 1])), some (Sum.inl (30, [Value.int IntKind.i64 1, Value.int IntKind.i64 1])), some (Sum.inl (30, [Value.int IntKind.i64 0, Value.int IntKind.i64 2]))]))) ∧ (true = false → Post (G (Value.bool false) [some (Sum.inr (Sum.inr (Sum.inr (Rs.pool (PM.mk [(9 : Int), (8 : Int)] [(2 : Int), (1 : Int)] [true, true] [] (2 : Int) (5 : Int) (1 : Int)))))), some (Sum.inl (30, [Value.int IntKind.i64 0, Value.int IntKind.i64 1])), some (Sum.inl (30, [Value.int IntKind.i64 1, Value.int IntKind.i64 1])), some (Sum.inl (30, [Value.int IntKind.i64 0, Value.int IntKind.i64 2]))]))) ∧ (true = false → Post (G (Value.bool false) [some (Sum.inr (Sum.inr (Sum.inr (Rs.pool (PM.mk [(9 : Int), (8 : Int)] [(2 : Int), (1 : Int)] [true, true] [] (2 : Int) (5 : Int) (1 : Int)))))), some (Sum.inl (30, [Value.int IntKind.i64 0, Value.int IntKind.i64 1])), some (Sum.inl (30, [Value.int IntKind.i64 1, Value.int IntKind.i64 1])), some (Sum.inl (30, [Value.int IntKind.i64 0, Value.int IntKind.i64 2]))]))) ∧ (true = false → Post (G (Value.bool false) [some (Sum.inr (Sum.inr (Sum.inr (Rs.pool (PM.mk [(9 : Int), (8 : Int)] [(2 : Int), (1 : Int)] [true, true] [] (2 : Int) (5 : Int) (1 : Int)))))), some (Sum.inl (30, [Value.int IntKind.i64 0, Value.int IntKind.i64 1])), some (Sum.inl (30, [Value.int IntKind.i64 1, Value.int IntKind.i64 1])), some (Sum.inl (30, [Value.int IntKind.i64 0, Value.int IntKind.i64 2]))]))) ∧ (true = false → Post (G (Value.bool false) [some (Sum.inr (Sum.inr (Sum.inr (Rs.pool (PM.mk [(9 : Int), (8 : Int)] [(2 : Int), (1 : Int)] [true, true] [] (2 : Int) (5 : Int) (1 : Int)))))), some (Sum.inl (30, [Value.int IntKind.i64 0, Value.int IntKind.i64 1])), some (Sum.inl (30, [Value.int IntKind.i64 1, Value.int IntKind.i64 1])), some (Sum.inl (30, [Value.int IntKind.i64 0, Value.int IntKind.i64 2]))]))) ∧ (true = false → Post (G (Value.bool false) [some (Sum.inr (Sum.inr (Sum.inr (Rs.pool (PM.mk [(9 : Int), (8 : Int)] [(2 : Int), (1 : Int)] [true, true] [] (2 : Int) (5 : Int) (1 : Int)))))), some (Sum.inl (30, [Value.int IntKind.i64 0, Value.int IntKind.i64 1])), some (Sum.inl (30, [Value.int IntKind.i64 1, Value.int IntKind.i64 1])), some (Sum.inl (30, [Value.int IntKind.i64 0, Value.int IntKind.i64 2]))]))) ?_ (by kernel_rfl)
    subst hG
    repeat' (first | apply And.intro | apply Vc.mk | apply fits.mk | intro h | apply Post.mk)
    all_goals first | exact trivial | exact PM.ok_of rfl | (exfalso; revert h; decide) | exact rfl | skip
    all_goals exact ⟨⟨[], rfl, rfl, trivial, rfl, rfl, rfl, rfl⟩⟩
  · cases hx
end Go.Proofs.Ytloibbakklenbaa.Ar
