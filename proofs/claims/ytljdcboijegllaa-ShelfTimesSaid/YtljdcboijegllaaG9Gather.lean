/- grove: a pool of nodes of slots: its functions: gather. -/
import Derived.Test.YtljdcboijegllaaG9Pick
namespace Go.Proofs.Ytljdcboijegllaa.G9
open Go.Proofs.Ytljdcboijegllaa.Rx
set_option linter.unusedVariables false
set_option linter.unusedSimpArgs false
set_option maxRecDepth 100000
def gatherP  (k : Nat) : Prim Rs := fun args hh => match args, hh with
  | [.pointer (some ⟨0, 0, none⟩), .slice (some ⟨1, 0, some 4000⟩) n cp, .agg ⟨[.int .i64 ri, .int .i64 rg]⟩], [some (.inl (59, [.pointer (some ⟨2, 0, none⟩), .int .i64 ti, .int .i64 tg])), some (.inr (.inl (32, ⟨[.int .i64 0, .int .i64 0, .bool false, .int .i64 0], n2, [⟨a0, [], []⟩, ⟨a1, [], []⟩, ⟨[], a2, []⟩, ⟨a3, [], []⟩]⟩))), some (.inr (.inr (.inr (.pool m))))] => some ⟨(PP m ∧ n2 = n ∧ a0.length = n ∧ a1.length = n ∧ a2.length = n ∧ a3.length = n ∧ n + (Gv.gather Sh.O9 k m ⟨ri, rg⟩).1.length < 900000) ∧ Gv.Deep Sh.O9 k m ⟨ri, rg⟩, .slice (some ⟨3, 0, some 4000⟩) (n + (Gv.gather Sh.O9 k m ⟨ri, rg⟩).1.length) (if (Gv.gather Sh.O9 k m ⟨ri, rg⟩).1.length = 0 then cp else 0), none, [some (.inl (59, [.pointer (some ⟨2, 0, none⟩), .int .i64 ti, .int .i64 tg])), none, some (.inr (.inr (.inr (.pool (Gv.gather Sh.O9 k m ⟨ri, rg⟩).2)))), some (.inr (.inl (32, ⟨[.int .i64 0, .int .i64 0, .bool false, .int .i64 0], (n + (Gv.gather Sh.O9 k m ⟨ri, rg⟩).1.length), [⟨(a0 ++ (Gv.gather Sh.O9 k m ⟨ri, rg⟩).1.map fun e => e.it.k), [], []⟩, ⟨(a1 ++ (Gv.gather Sh.O9 k m ⟨ri, rg⟩).1.map fun e => e.it.i), [], []⟩, ⟨[], (a2 ++ (Gv.gather Sh.O9 k m ⟨ri, rg⟩).1.map fun e => e.eaten), []⟩, ⟨(a3 ++ (Gv.gather Sh.O9 k m ⟨ri, rg⟩).1.map fun e => e.time), [], []⟩]⟩)))], [], [(0, 0)]⟩
  | _, _ => none
def TGather (k : Nat) : Tab Rs := [(34, liftC zN 2 (con1 lookP)), (43, liftC zN 2 (con1 (gatherP k)))]
theorem gather_ok : ∀ k : Nat, ConOk D Try.prog 43 (con1 (gatherP k))
  | 0 => by
    refine con1_ok (prim_at (fn := Try.f43) (root := codeOf Try.f43) (by kernel_rfl) (by kernel_rfl) (by kernel_rfl) fun args hh x hx => ?_)
    unfold gatherP at hx
    split at hx
    · rename_i n cp ri rg ti tg n2 a0 a1 a2 a3 m
      injection hx with hx
      subst hx
      refine ⟨by first | exact Nat.le_refl _ | exact Nat.zero_le _ | exact Nat.le_succ _, noLit rfl, (fun hw => by first | rfl | cases hw), fun _ hv => ?_⟩
      exact False.elim (And.right hv)
    · cases hx
  | k + 1 => by
    have ih := gather_ok k
    refine con1_ok (prim_at (fn := Try.f43) (root := codeOf Try.f43) (by kernel_rfl) (by kernel_rfl) (by kernel_rfl) fun args hh x hx => ?_)
    unfold gatherP at hx
    split at hx
    · rename_i n cp ri rg ti tg n2 a0 a1 a2 a3 m
      injection hx with hx
      subst hx
      refine ⟨by first | exact Nat.le_refl _ | exact Nat.zero_le _ | exact Nat.le_succ _, noLit rfl, (fun hw => by first | rfl | cases hw), fun _ hv => ?_⟩
      obtain ⟨⟨hp, rfl, ha0, ha1, ha2, ha3, hb⟩, hd⟩ := hv
      generalize hG : Rx.Ends (R := Rs) _ _ = G
      refine rx_ok (T := (TGather k)) (show TabOk D Try.prog (TGather k) from ⟨liftC_ok _ _ look_ok, liftC_ok _ _ ih, trivial⟩) mixed 200 ?_
      refine as_text (q := let zz9 := Value.int IntKind.i64; let zz1 := (Gv.lk Sh.O9 m (Gv.Ref.mk ri rg)); let zz2 := (Gv.see m (Gv.Ref.mk ri rg)); let zz3 := (Gv.Node.e zz1); let zz4 := (Sh.Sl.it zz3); let zz5 := (Prod.fst (Gv.gather Sh.O9 k zz2 (Gv.Node.l zz1))); let zz6 := (n2 + List.length zz5); let zz7 := (Prod.snd (Gv.gather Sh.O9 k zz2 (Gv.Node.l zz1))); let zz8 := (Prod.fst (Gv.gather Sh.O9 k zz7 (Gv.Node.r zz1))); Vc (PP m) ∧ ((Gv.Node.h zz1 == (0 : Int)) = true → Post (G (Value.slice (some (Addr.mk 1 0 (some 4000))) n2 cp) [some (Sum.inl (59, [Value.pointer (some (Addr.mk 2 0 none)), zz9 ti, zz9 tg])), some (Sum.inr (Sum.inl (32, Row.mk [zz9 0, zz9 0, Value.bool false, zz9 0] n2 [Col.mk a0 [] [], Col.mk a1 [] [], Col.mk [] a2 [], Col.mk a3 [] []]))), some (Sum.inr (Sum.inr (Sum.inr (Rs.pool zz2)))), some (Sum.inl (54, [zz9 ri, zz9 rg])), some (Sum.inr (Sum.inl (32, Row.mk [zz9 0, zz9 0, Value.bool false, zz9 0] 0 [Col.mk [] [] [], Col.mk [] [] [], Col.mk [] [] [], Col.mk [] [] []]))), some (Sum.inl (63, [zz9 (Wv.It.k zz4), zz9 (Wv.It.i zz4), Value.bool (Sh.Sl.eaten zz3), zz9 (Sh.Sl.time zz3), zz9 (Gv.Ref.i (Gv.Node.l zz1)), zz9 (Gv.Ref.g (Gv.Node.l zz1)), zz9 (Gv.Ref.i (Gv.Node.r zz1)), zz9 (Gv.Ref.g (Gv.Node.r zz1)), zz9 (Gv.Part.n (Gv.Node.all zz1)), zz9 (Sh.Sz.n (Gv.Part.sum (Gv.Node.all zz1))), zz9 (Gv.Node.h zz1)]))])) ∧ ((Gv.Node.h zz1 == (0 : Int)) = false → Vc ((PP zz2 ∧ n2 = n2 ∧ List.length a0 = n2 ∧ List.length a1 = n2 ∧ List.length a2 = n2 ∧ List.length a3 = n2 ∧ n2 + List.length zz5 < 900000) ∧ Gv.Deep Sh.O9 k zz2 (Gv.Node.l zz1)) ∧ Vc (0 + zz6 ≤ n2 + List.length zz5 ∧ 1 ≤ 1 ∧ (n2 + List.length zz5 + 1) * 32 ≤ 140737488355328 ∧ n2 + List.length zz5 + 1 ≤ 140737488355328) ∧ Vc ((PP zz7 ∧ n2 + List.length zz5 + 1 = n2 + List.length zz5 + 1 ∧ List.length (cut (a0 ++ List.map (fun e => Wv.It.k (Sh.Sl.it e)) zz5) 0 zz6 ++ cut [Wv.It.k zz4] 0 1) = n2 + List.length zz5 + 1 ∧ List.length (cut (a1 ++ List.map (fun e => Wv.It.i (Sh.Sl.it e)) zz5) 0 zz6 ++ cut [Wv.It.i zz4] 0 1) = n2 + List.length zz5 + 1 ∧ List.length (cut (a2 ++ List.map (fun e => Sh.Sl.eaten e) zz5) 0 zz6 ++ cut [Sh.Sl.eaten zz3] 0 1) = n2 + List.length zz5 + 1 ∧ List.length (cut (a3 ++ List.map (fun e => Sh.Sl.time e) zz5) 0 zz6 ++ cut [Sh.Sl.time zz3] 0 1) = n2 + List.length zz5 + 1 ∧ n2 + List.length zz5 + 1 + List.length zz8 < 900000) ∧ Gv.Deep Sh.O9 k zz7 (Gv.Node.r zz1)) ∧ Post (G (Value.slice (some (Addr.mk 9 0 (some 4000))) (n2 + List.length zz5 + 1 + List.length zz8) (if List.length zz8 = 0 then 0 else 0)) [some (Sum.inl (59, [Value.pointer (some (Addr.mk 2 0 none)), zz9 ti, zz9 tg])), none, some (Sum.inr (Sum.inr (Sum.inr (Rs.pool (Prod.snd (Gv.gather Sh.O9 k zz7 (Gv.Node.r zz1))))))), some (Sum.inl (54, [zz9 ri, zz9 rg])), some (Sum.inr (Sum.inl (32, Row.mk [zz9 0, zz9 0, Value.bool false, zz9 0] 0 [Col.mk [] [] [], Col.mk [] [] [], Col.mk [] [] [], Col.mk [] [] []]))), some (Sum.inl (63, [zz9 (Wv.It.k zz4), zz9 (Wv.It.i zz4), Value.bool (Sh.Sl.eaten zz3), zz9 (Sh.Sl.time zz3), zz9 (Gv.Ref.i (Gv.Node.l zz1)), zz9 (Gv.Ref.g (Gv.Node.l zz1)), zz9 (Gv.Ref.i (Gv.Node.r zz1)), zz9 (Gv.Ref.g (Gv.Node.r zz1)), zz9 (Gv.Part.n (Gv.Node.all zz1)), zz9 (Sh.Sz.n (Gv.Part.sum (Gv.Node.all zz1))), zz9 (Gv.Node.h zz1)])), none, some (Sum.inr (Sum.inl (32, Row.mk [zz9 0, zz9 0, Value.bool false, zz9 0] 1 [Col.mk [Wv.It.k zz4] [] [], Col.mk [Wv.It.i zz4] [] [], Col.mk [] [Sh.Sl.eaten zz3] [], Col.mk [Sh.Sl.time zz3] [] []]))), none, some (Sum.inr (Sum.inl (32, Row.mk [zz9 0, zz9 0, Value.bool false, zz9 0] (n2 + List.length zz5 + 1 + List.length zz8) [Col.mk (cut (a0 ++ List.map (fun e => Wv.It.k (Sh.Sl.it e)) zz5) 0 zz6 ++ cut [Wv.It.k zz4] 0 1 ++ List.map (fun e => Wv.It.k (Sh.Sl.it e)) zz8) [] [], Col.mk (cut (a1 ++ List.map (fun e => Wv.It.i (Sh.Sl.it e)) zz5) 0 zz6 ++ cut [Wv.It.i zz4] 0 1 ++ List.map (fun e => Wv.It.i (Sh.Sl.it e)) zz8) [] [], Col.mk [] (cut (a2 ++ List.map (fun e => Sh.Sl.eaten e) zz5) 0 zz6 ++ cut [Sh.Sl.eaten zz3] 0 1 ++ List.map (fun e => Sh.Sl.eaten e) zz8) [], Col.mk (cut (a3 ++ List.map (fun e => Sh.Sl.time e) zz5) 0 zz6 ++ cut [Sh.Sl.time zz3] 0 1 ++ List.map (fun e => Sh.Sl.time e) zz8) [] []])))]))) ?_ (by kernel_rfl)
      intro zz9 zz1 zz2 zz3 zz4 zz5 zz6 zz7 zz8; subst zz8 zz7 zz6 zz5 zz4 zz3 zz2 zz1 zz9
      simp only [Gv.Deep] at hd
      subst hG
      have c1 : ∀ x : Int, cut [x] 0 1 = [x] := fun x => rfl
      have c2 : ∀ x : Bool, cut [x] 0 1 = [x] := fun x => rfl
      have e0 : (Gv.lk Sh.O9 m (⟨ri, rg⟩ : Gv.Ref)).h = 0 → Gv.gather Sh.O9 (k + 1) m (⟨ri, rg⟩ : Gv.Ref) = ([], Gv.see m (⟨ri, rg⟩ : Gv.Ref)) := fun h => by rw [Gv.gather, if_pos h]
      have e1 : (Gv.lk Sh.O9 m (⟨ri, rg⟩ : Gv.Ref)).h ≠ 0 → Gv.gather Sh.O9 (k + 1) m (⟨ri, rg⟩ : Gv.Ref) = ((Gv.gather Sh.O9 k (Gv.see m (⟨ri, rg⟩ : Gv.Ref)) (Gv.lk Sh.O9 m (⟨ri, rg⟩ : Gv.Ref)).l).1 ++ (Gv.lk Sh.O9 m (⟨ri, rg⟩ : Gv.Ref)).e :: (Gv.gather Sh.O9 k (Gv.gather Sh.O9 k (Gv.see m (⟨ri, rg⟩ : Gv.Ref)) (Gv.lk Sh.O9 m (⟨ri, rg⟩ : Gv.Ref)).l).2 (Gv.lk Sh.O9 m (⟨ri, rg⟩ : Gv.Ref)).r).1, (Gv.gather Sh.O9 k (Gv.gather Sh.O9 k (Gv.see m (⟨ri, rg⟩ : Gv.Ref)) (Gv.lk Sh.O9 m (⟨ri, rg⟩ : Gv.Ref)).l).2 (Gv.lk Sh.O9 m (⟨ri, rg⟩ : Gv.Ref)).r).2) := fun h => by rw [Gv.gather, if_neg h]
      have hb2 : (Gv.lk Sh.O9 m (⟨ri, rg⟩ : Gv.Ref)).h ≠ 0 → n2 + ((Gv.gather Sh.O9 k (Gv.see m (⟨ri, rg⟩ : Gv.Ref)) (Gv.lk Sh.O9 m (⟨ri, rg⟩ : Gv.Ref)).l).1.length + ((Gv.gather Sh.O9 k (Gv.gather Sh.O9 k (Gv.see m (⟨ri, rg⟩ : Gv.Ref)) (Gv.lk Sh.O9 m (⟨ri, rg⟩ : Gv.Ref)).l).2 (Gv.lk Sh.O9 m (⟨ri, rg⟩ : Gv.Ref)).r).1.length + 1)) < 900000 := fun h => by rw [e1 h] at hb; simpa using hb
      generalize hx : Gv.gather Sh.O9 k (Gv.see m (⟨ri, rg⟩ : Gv.Ref)) (Gv.lk Sh.O9 m (⟨ri, rg⟩ : Gv.Ref)).l = x at *
      generalize hy : Gv.gather Sh.O9 k x.2 (Gv.lk Sh.O9 m (⟨ri, rg⟩ : Gv.Ref)).r = y at *
      have hxp : PP x.2 := by rw [← hx]; exact Gv.gather_ok.2 (Gv.see_ok.2 hp)
      have hd2 : ∀ q, Gv.Deep Sh.O9 k x.2 q ↔ Gv.Deep Sh.O9 k m q := fun q => by rw [← hx, Gv.Deep_gather, Gv.Deep_see]
      simp only [cut_eq (show (a0 ++ x.1.map fun e => e.it.k).length = n2 + x.1.length by simp [ha0]), cut_eq (show (a1 ++ x.1.map fun e => e.it.i).length = n2 + x.1.length by simp [ha1]), cut_eq (show (a2 ++ x.1.map fun e => e.eaten).length = n2 + x.1.length by simp [ha2]), cut_eq (show (a3 ++ x.1.map fun e => e.time).length = n2 + x.1.length by simp [ha3]), c1, c2, Gv.Deep_see, hd2]
      repeat' (first | apply And.intro | apply Vc.mk | apply fits.mk | intro h | apply Post.mk)
      all_goals (try simp only [decide_eq_true_eq, decide_eq_false_iff_not, Nat.zero_add, ge_iff_le, Int.not_le, Int.not_lt, Int.toNat_natCast, beq_iff_eq, beq_eq_false_iff_ne, bne_iff_ne, bne_eq_false_iff_eq, Bool.not_eq_true', Bool.not_eq_false'] at *)
      all_goals first | contradiction | omega | (apply congrArg Value.bool; assumption) | exact congrArg Value.bool (decide_eq_true (by assumption)) | exact congrArg Value.bool (decide_eq_false (Int.not_lt.mpr (by assumption))) | exact ⟨rfl, by omega⟩ | exact rfl | (simp [*, -List.getD_eq_getElem?_getD]; done) | skip
      all_goals first | omega | assumption | exact Gv.see_ok.2 hp | (rcases hd with hd | hd; exfalso; omega; first | exact hd.1 | exact hd.2) | (have := hb2 (by assumption); omega) | (simp; omega) | skip
      · have h0 : (Gv.lk Sh.O9 m (⟨ri, rg⟩ : Gv.Ref)).h = 0 := by assumption
        rw [e0 h0]
        simp only [List.length_nil, if_true]
        refine ⟨[0, 1, 2, 1], ?_, rfl, ?_, rfl, rfl, rfl, (by kernel_rfl)⟩
        · rfl
        · simp [Pulls, pullB, nth, at2, dnL, dnV, mvL, mvV, mvA, mvQ_lt, blt_true, blt_false, RowLe, colI, colB]
      · have h0 : (Gv.lk Sh.O9 m (⟨ri, rg⟩ : Gv.Ref)).h ≠ 0 := by assumption
        rw [e1 h0]
        have e2 : n2 + (x.1 ++ (Gv.lk Sh.O9 m (⟨ri, rg⟩ : Gv.Ref)).e :: y.1).length = n2 + x.1.length + 1 + y.1.length := by simp; omega
        have e3 : (x.1 ++ (Gv.lk Sh.O9 m (⟨ri, rg⟩ : Gv.Ref)).e :: y.1).length ≠ 0 := by simp
        simp only [e2, if_neg e3, ite_self]
        refine ⟨[0, 1, 2, 9], ?_, rfl, ?_, rfl, rfl, rfl, (by kernel_rfl)⟩
        · rfl
        · simp [Pulls, pullB, nth, at2, dnL, dnV, mvL, mvV, mvA, mvQ_lt, blt_true, blt_false, RowLe, colI, colB]
          all_goals first | rfl | omega | skip
    · cases hx
end Go.Proofs.Ytljdcboijegllaa.G9
