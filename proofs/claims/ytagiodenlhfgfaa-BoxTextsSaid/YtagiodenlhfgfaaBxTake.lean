/- box: Take, step by step: a communication is a step of the machine's. -/
import Derived.Test.YtagiodenlhfgfaaBxRes
import Derived.Test.YtagiodenlhfgfaaChecked
import Derived.KernelRfl
import Derived.Laws.Rows
namespace Go.Proofs.Ytagiodenlhfgfaa.Bx
open Go.RowKit Go.Conc Go.Proofs.Ytagiodenlhfgfaa.State
set_option linter.unusedVariables false
set_option linter.unusedSimpArgs false
set_option maxRecDepth 100000
theorem take_some_int {m : BX} {b c s r : Nat} {gs : List Nat} {w : World} (x : Int) (h : BoxAt m b c s r gs w) (g : Nat) (gs' : List Nat) (hg : gs = g :: gs') (hv : w.heap[g]? = some (.cells #[.int .i64 x] 3 (0, 0))) :
    Calls Try.prog 14 #[.pointer (some ⟨b, 0, none⟩)] w fun e w' => e = .returned (.tuple #[.int .i64 x, .bool true]) ∧ w' = w.setChan c m.cap (ptrs gs') false s (r + 1) false := by
  subst hg
  refine calls_of_loneTo fun cs => ?_
  have e : Frame.enter Try.prog 14 #[.pointer (some ⟨b, 0, none⟩)] .normal = (base 14).at ⟨#[.pointer (some ⟨b, 0, none⟩), undef, undef, undef, undef, undef, undef, undef, undef, undef, undef, undef, undef, undef, undef, undef, undef, undef], []⟩ [.code (Try.f14.body.getD .skip)] := by
    simp [Frame.enter, Frame.at, Try.func14, base, Try.f14]
  rw [e]
  have h0 : w.cell? ⟨b, 0, none⟩ = some (.chan (some c)) := by
    rw [cells_of h.self]; simp
  have hne : c ≠ g := fun e => by subst e; rw [h.chan] at hv; cases hv
  have h2 : (w.setChan c m.cap (ptrs gs') false s (r + 1) false).cell? ⟨g, 0, none⟩ = some (.int .i64 x) := by
    rw [cells_of ((setChan_other _ _ _ _ _ _ _ _ _ hne).trans hv)]; simp
  have ep : ptrs (g :: gs') = #[.pointer (some ⟨g, 0, none⟩)] ++ ptrs gs' := by simp [ptrs]
  have e1 : (ptrs (g :: gs')).extract 1 (ptrs (g :: gs')).size = ptrs gs' := by
    apply Array.ext'
    simp [ptrs]
    exact List.take_of_length_le (by simp)
  have e2 : (ptrs (g :: gs')).getD 0 undef = .pointer (some ⟨g, 0, none⟩) := by simp [ptrs]
  clear ep
  refine LoneTo.goes (n := 60) ?_
  simp only [Try.f14, Option.getD_some]
  s_c stepG_seq
  s_reg
  s_op
  s_op
  s_c stepG_region_end
  s_c stepG_seq
  s_reg
  s_op
  s_op
  s_op
  s_op
  s_c stepG_region_end
  s_c stepG_seq
  s_reg
  s_stop
  refine LoneTo.step (step_lone_select_recv_buf (c := c) (z := .pointer none) (cap := m.cap) (buf := ptrs (g :: gs')) (closed := false) (s := s) (r := r) (tm := false)
    (stepG_comm (cases := #[rcase c (.pointer none)]) (blocking := false) (shape := .select) (w' := w) rfl rfl (by decide) (by simp [go_sem, execOp, rcase, Act.eval])) h.chan (by simp [ptrs])) ?_
  rw [e1, e2]
  clear e1 e2
  rw [Frame.finish_at]
  walk_nrm
  refine LoneTo.goes (n := 40) ?_
  s_op
  s_op
  s_c stepG_region_end
  s_c stepG_block
  s_cond true
  s_c stepG_seq
  s_reg
  s_op
  s_op
  s_c stepG_region_end
  s_c stepG_seq
  s_reg
  s_op
  s_op
  s_op
  s_op
  s_op
  s_c stepG_region_end
  s_c stepG_ret'
  s_stop
  exact LoneTo.done ⟨.returned (.tuple #[.int .i64 x, .bool true]), _, rfl, ⟨rfl, rfl⟩, rfl, rfl, rfl, rfl, _, Try.func14, by simp [results, Try.f14, Frame.at]⟩
theorem take_none_int {m : BX} {b c s r : Nat} {gs : List Nat} {w : World} (h : BoxAt m b c s r gs w) (hg : gs = []) :
    Calls Try.prog 14 #[.pointer (some ⟨b, 0, none⟩)] w fun e w' => e = .returned (.tuple #[.int .i64 0, .bool false]) ∧ w' = w := by
  subst hg
  refine calls_of_loneTo fun cs => ?_
  have e : Frame.enter Try.prog 14 #[.pointer (some ⟨b, 0, none⟩)] .normal = (base 14).at ⟨#[.pointer (some ⟨b, 0, none⟩), undef, undef, undef, undef, undef, undef, undef, undef, undef, undef, undef, undef, undef, undef, undef, undef, undef], []⟩ [.code (Try.f14.body.getD .skip)] := by
    simp [Frame.enter, Frame.at, Try.func14, base, Try.f14]
  rw [e]
  have h0 : w.cell? ⟨b, 0, none⟩ = some (.chan (some c)) := by
    rw [cells_of h.self]; simp
  refine LoneTo.goes (n := 60) ?_
  simp only [Try.f14, Option.getD_some]
  s_c stepG_seq
  s_reg
  s_op
  s_op
  s_c stepG_region_end
  s_c stepG_seq
  s_reg
  s_op
  s_op
  s_op
  s_op
  s_c stepG_region_end
  s_c stepG_seq
  s_reg
  s_stop
  refine LoneTo.step (step_lone_select_default (c := c) (z := .pointer none) (cap := m.cap) (s := s) (r := r) (tm := false)
    (stepG_comm (cases := #[rcase c (.pointer none)]) (blocking := false) (shape := .select) (w' := w) rfl rfl (by decide) (by simp [go_sem, execOp, rcase, Act.eval])) (by simpa [ptrs] using h.chan)) ?_
  rw [Frame.finish_at]
  walk_nrm
  refine LoneTo.goes (n := 40) ?_
  s_op
  s_op
  s_c stepG_region_end
  s_c stepG_block
  s_cond false
  s_c stepG_seq
  s_reg
  s_op
  s_c stepG_region_end
  s_c stepG_seq
  s_reg
  s_op
  s_op
  s_op
  s_c stepG_region_end
  s_c stepG_ret'
  s_stop
  exact LoneTo.done ⟨.returned (.tuple #[.int .i64 0, .bool false]), _, rfl, ⟨rfl, rfl⟩, rfl, rfl, rfl, rfl, _, Try.func14, by simp [results, Try.f14, Frame.at]⟩
theorem take_some_string {m : BX} {b c s r : Nat} {gs : List Nat} {w : World} (x : ByteArray) (h : BoxAt m b c s r gs w) (g : Nat) (gs' : List Nat) (hg : gs = g :: gs') (hv : w.heap[g]? = some (.cells #[.string x] 9 (0, 0))) :
    Calls Try.prog 30 #[.pointer (some ⟨b, 0, none⟩)] w fun e w' => e = .returned (.tuple #[.string x, .bool true]) ∧ w' = w.setChan c m.cap (ptrs gs') false s (r + 1) false := by
  subst hg
  refine calls_of_loneTo fun cs => ?_
  have e : Frame.enter Try.prog 30 #[.pointer (some ⟨b, 0, none⟩)] .normal = (base 30).at ⟨#[.pointer (some ⟨b, 0, none⟩), undef, undef, undef, undef, undef, undef, undef, undef, undef, undef, undef, undef, undef, undef, undef, undef, undef], []⟩ [.code (Try.f30.body.getD .skip)] := by
    simp [Frame.enter, Frame.at, Try.func30, base, Try.f30]
  rw [e]
  have h0 : w.cell? ⟨b, 0, none⟩ = some (.chan (some c)) := by
    rw [cells_of h.self]; simp
  have hne : c ≠ g := fun e => by subst e; rw [h.chan] at hv; cases hv
  have h2 : (w.setChan c m.cap (ptrs gs') false s (r + 1) false).cell? ⟨g, 0, none⟩ = some (.string x) := by
    rw [cells_of ((setChan_other _ _ _ _ _ _ _ _ _ hne).trans hv)]; simp
  have ep : ptrs (g :: gs') = #[.pointer (some ⟨g, 0, none⟩)] ++ ptrs gs' := by simp [ptrs]
  have e1 : (ptrs (g :: gs')).extract 1 (ptrs (g :: gs')).size = ptrs gs' := by
    apply Array.ext'
    simp [ptrs]
    exact List.take_of_length_le (by simp)
  have e2 : (ptrs (g :: gs')).getD 0 undef = .pointer (some ⟨g, 0, none⟩) := by simp [ptrs]
  clear ep
  refine LoneTo.goes (n := 60) ?_
  simp only [Try.f30, Option.getD_some]
  s_c stepG_seq
  s_reg
  s_op
  s_op
  s_c stepG_region_end
  s_c stepG_seq
  s_reg
  s_op
  s_op
  s_op
  s_op
  s_c stepG_region_end
  s_c stepG_seq
  s_reg
  s_stop
  refine LoneTo.step (step_lone_select_recv_buf (c := c) (z := .pointer none) (cap := m.cap) (buf := ptrs (g :: gs')) (closed := false) (s := s) (r := r) (tm := false)
    (stepG_comm (cases := #[rcase c (.pointer none)]) (blocking := false) (shape := .select) (w' := w) rfl rfl (by decide) (by simp [go_sem, execOp, rcase, Act.eval])) h.chan (by simp [ptrs])) ?_
  rw [e1, e2]
  clear e1 e2
  rw [Frame.finish_at]
  walk_nrm
  refine LoneTo.goes (n := 40) ?_
  s_op
  s_op
  s_c stepG_region_end
  s_c stepG_block
  s_cond true
  s_c stepG_seq
  s_reg
  s_op
  s_op
  s_c stepG_region_end
  s_c stepG_seq
  s_reg
  s_op
  s_op
  s_op
  s_op
  s_op
  s_c stepG_region_end
  s_c stepG_ret'
  s_stop
  exact LoneTo.done ⟨.returned (.tuple #[.string x, .bool true]), _, rfl, ⟨rfl, rfl⟩, rfl, rfl, rfl, rfl, _, Try.func30, by simp [results, Try.f30, Frame.at]⟩
theorem take_none_string {m : BX} {b c s r : Nat} {gs : List Nat} {w : World} (h : BoxAt m b c s r gs w) (hg : gs = []) :
    Calls Try.prog 30 #[.pointer (some ⟨b, 0, none⟩)] w fun e w' => e = .returned (.tuple #[.string ⟨#[]⟩, .bool false]) ∧ w' = w := by
  subst hg
  refine calls_of_loneTo fun cs => ?_
  have e : Frame.enter Try.prog 30 #[.pointer (some ⟨b, 0, none⟩)] .normal = (base 30).at ⟨#[.pointer (some ⟨b, 0, none⟩), undef, undef, undef, undef, undef, undef, undef, undef, undef, undef, undef, undef, undef, undef, undef, undef, undef], []⟩ [.code (Try.f30.body.getD .skip)] := by
    simp [Frame.enter, Frame.at, Try.func30, base, Try.f30]
  rw [e]
  have h0 : w.cell? ⟨b, 0, none⟩ = some (.chan (some c)) := by
    rw [cells_of h.self]; simp
  refine LoneTo.goes (n := 60) ?_
  simp only [Try.f30, Option.getD_some]
  s_c stepG_seq
  s_reg
  s_op
  s_op
  s_c stepG_region_end
  s_c stepG_seq
  s_reg
  s_op
  s_op
  s_op
  s_op
  s_c stepG_region_end
  s_c stepG_seq
  s_reg
  s_stop
  refine LoneTo.step (step_lone_select_default (c := c) (z := .pointer none) (cap := m.cap) (s := s) (r := r) (tm := false)
    (stepG_comm (cases := #[rcase c (.pointer none)]) (blocking := false) (shape := .select) (w' := w) rfl rfl (by decide) (by simp [go_sem, execOp, rcase, Act.eval])) (by simpa [ptrs] using h.chan)) ?_
  rw [Frame.finish_at]
  walk_nrm
  refine LoneTo.goes (n := 40) ?_
  s_op
  s_op
  s_c stepG_region_end
  s_c stepG_block
  s_cond false
  s_c stepG_seq
  s_reg
  s_op
  s_c stepG_region_end
  s_c stepG_seq
  s_reg
  s_op
  s_op
  s_op
  s_c stepG_region_end
  s_c stepG_ret'
  s_stop
  exact LoneTo.done ⟨.returned (.tuple #[.string ⟨#[]⟩, .bool false]), _, rfl, ⟨rfl, rfl⟩, rfl, rfl, rfl, rfl, _, Try.func30, by simp [results, Try.f30, Frame.at]⟩
end Go.Proofs.Ytagiodenlhfgfaa.Bx
