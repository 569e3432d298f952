/- Symbolic runs: contracts on things that stand for things. Nothing of the program. -/
import Derived.Test.YtegekenkfomlbaaRxC
namespace Go.Proofs.Ytegekenkfomlbaa.Rx
open Go.RowKit Go.Proofs.Ytegekenkfomlbaa.State
set_option linter.unusedVariables false
set_option linter.unusedSimpArgs false
section
variable {R R0 : Type} {D0 : Res R0} {L : Lay R R0} {P : Program}
/-- what a contract on things says: out of one on what they stand for -/
structure Up (L : Lay R R0) (c : Con R0) (args : List Value) (hh : Hp R) (x : Out R) : Prop where
  ex : ∃ x0, way c true (mvL (off L hh) args) (unf L hh) ∧ c.go true (mvL (off L hh) args) (unf L hh) = some x0 ∧ x0.vc ∧ x0.hp = unf L x.hp ∧ x0.v = mvV (off L x.hp) x.v
  off : allLt (fun b => Nat.beq (Rx.off L x.hp b) (Rx.off L hh b)) hh.length = true
  ins : hpIn x.hp.length x.hp = true
theorem res_up {f : FuncId} {c : Con R0} {spec : Prim R} (hc : ConOk D0 P f c)
    (H : ∀ args hh x, spec args hh = some x → hh.length ≤ x.hp.length ∧ (∀ b, x.lit = some b → x.v = .bool b) ∧ (x.wr = [] → x.hp = hh) ∧ (x.vc → Up L c args hh x)) :
    ConOk (resOf D0 L) P f (con1 spec) := by
  refine con1_ok ⟨(hc true).known, fun args hh x _ hx C ρ ft w hm hv hi => ?_, fun args hh x hx => (H args hh x hx).1, fun args hh x hx => (H args hh x hx).2.1, fun args hh x hx => (H args hh x hx).2.2.1⟩
  obtain ⟨_, _, _, h4⟩ := H args hh x hx
  obtain ⟨⟨x0, q0, q1, q2, q3, q4⟩, q5, q6⟩ := h4 hv
  obtain ⟨ρ1, ft1, o1, o2⟩ := hm.open_
  have hargs : args.map (ren ρ) = (mvL (off L hh) args).map (ren ρ1) := by
    rw [map_ren_mv, ← renL_eq, ← renL_eq]
    exact (renL_congr (n := hh.length) (fun b hb => o1 b hb) args hi).symm
  rw [hargs]
  have hin : inbL (unf L hh).length (mvL (off L hh) args) = true := inbL_mv (n := hh.length) (fun b hb => by
    have := off_lt (L := L) hh (b := b) (i := 0) hb (width_pos _)
    simpa using this) args hi
  refine ((hc true).run _ _ x0 q0 q1 C ρ1 ft1 w o2 q2 hin).mono fun e w' ⟨ρ', ft', g1, g2, g3⟩ => ?_
  rw [q3] at g3
  refine ⟨_, _, fun b hb => ?_, ?_, g3.close_ q6⟩
  · show ρ' (off L x.hp b) = ρ b
    have h6 : off L hh b < (unf L hh).length := by
      have := off_lt (L := L) hh (b := b) (i := 0) hb (width_pos _)
      simpa using this
    have := allLt_get q5 hb
    rw [Nat.eq_of_beq_eq_true this, g1 _ h6, o1 b hb]
  · rw [g2, q4, ren_mv]
end
end Go.Proofs.Ytegekenkfomlbaa.Rx
