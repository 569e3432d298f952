/- box: Offer, step by step: a communication is a step of the machine's. -/
import Derived.Test.YtagiodenlhfgfaaBxRes
import Derived.Test.YtagiodenlhfgfaaChecked
import Derived.KernelRfl
import Derived.Laws.Rows
namespace Go.Proofs.Ytagiodenlhfgfaa.Bx
open Go.RowKit Go.Conc Go.Proofs.Ytagiodenlhfgfaa.State
set_option linter.unusedVariables false
set_option linter.unusedSimpArgs false
set_option maxRecDepth 100000
theorem res_s0 (a : Nat) (u z : Value) : commResult #[scase a u z] .select ((0 : Nat) : Int) undef false = .tuple #[goInt 0, .bool false] := by
  simp [commResult, scase, List.zipIdx_cons]
theorem offer_closed_int {m : BX} {b c s r : Nat} {gs : List Nat} {w : World} (x : Int) (h : BoxAt m b c s r gs w) (hc : m.closed = true) :
    Calls Try.prog 12 #[.pointer (some ⟨b, 0, none⟩), .int .i64 x] w fun e w' => e = .returned (.bool false) ∧ w' = (w.alloc (.cells #[.int .i64 x] 3)) := by
  refine calls_of_loneTo fun cs => ?_
  have e : Frame.enter Try.prog 12 #[.pointer (some ⟨b, 0, none⟩), .int .i64 x] .normal = (base 12).at ⟨#[.pointer (some ⟨b, 0, none⟩), .int .i64 x, undef, undef, undef, undef, undef, undef, undef, undef, undef, undef, undef, undef, undef, undef], []⟩ [.code (Try.f12.body.getD .skip)] := by
    simp [Frame.enter, Frame.at, Try.func12, base, Try.f12]
  rw [e]
  have hb := lt_some h.self
  have hch : (w.alloc (.cells #[.int .i64 x] 3)).heap[c]? = some (.chan m.cap (ptrs gs) false s r false) := (alloc_old (lt_some h.chan)).trans h.chan
  have h0 : (w.alloc (.cells #[.int .i64 x] 3)).cell? ⟨b, 0, none⟩ = some (.chan (some c)) := by
    rw [cells_of ((alloc_old hb).trans h.self)]; simp
  have h1 : (w.alloc (.cells #[.int .i64 x] 3)).cell? ⟨b, 1, none⟩ = some (.bool true) := by
    rw [cells_of ((alloc_old hb).trans h.self)]; simp [hc]
  refine LoneTo.goes (n := 60) ?_
  simp only [Try.f12, Option.getD_some]
  clear hch
  s_c stepG_seq
  s_reg
  s_op
  s_op
  s_c stepG_region_end
  s_c stepG_seq
  s_c stepG_seq
  s_reg
  s_op
  s_op
  s_op
  s_op
  s_c stepG_region_end
  s_cond true
  s_c stepG_seq
  s_reg
  s_op
  s_c stepG_region_end
  s_c stepG_ret'
  s_stop
  exact LoneTo.done ⟨.returned (.bool false), _, rfl, ⟨rfl, rfl⟩, rfl, rfl, rfl, rfl, _, Try.func12, by simp [results, Try.f12, Frame.at]⟩
theorem offer_room_int {m : BX} {b c s r : Nat} {gs : List Nat} {w : World} (x : Int) (h : BoxAt m b c s r gs w) (hc : m.closed = false) (hr : gs.length < m.cap) :
    Calls Try.prog 12 #[.pointer (some ⟨b, 0, none⟩), .int .i64 x] w fun e w' => e = .returned (.bool true) ∧ w' = (w.alloc (.cells #[.int .i64 x] 3)).setChan c m.cap ((ptrs gs).push (.pointer (some ⟨w.heap.size, 0, none⟩))) false (s + 1) r false := by
  refine calls_of_loneTo fun cs => ?_
  have e : Frame.enter Try.prog 12 #[.pointer (some ⟨b, 0, none⟩), .int .i64 x] .normal = (base 12).at ⟨#[.pointer (some ⟨b, 0, none⟩), .int .i64 x, undef, undef, undef, undef, undef, undef, undef, undef, undef, undef, undef, undef, undef, undef], []⟩ [.code (Try.f12.body.getD .skip)] := by
    simp [Frame.enter, Frame.at, Try.func12, base, Try.f12]
  rw [e]
  have hb := lt_some h.self
  have hch : (w.alloc (.cells #[.int .i64 x] 3)).heap[c]? = some (.chan m.cap (ptrs gs) false s r false) := (alloc_old (lt_some h.chan)).trans h.chan
  have h0 : (w.alloc (.cells #[.int .i64 x] 3)).cell? ⟨b, 0, none⟩ = some (.chan (some c)) := by
    rw [cells_of ((alloc_old hb).trans h.self)]; simp
  have h1 : (w.alloc (.cells #[.int .i64 x] 3)).cell? ⟨b, 1, none⟩ = some (.bool false) := by
    rw [cells_of ((alloc_old hb).trans h.self)]; simp [hc]
  refine LoneTo.goes (n := 60) ?_
  simp only [Try.f12, Option.getD_some]
  s_c stepG_seq
  s_reg
  s_op
  s_op
  s_c stepG_region_end
  s_c stepG_seq
  s_c stepG_seq
  s_reg
  s_op
  s_op
  s_op
  s_op
  s_c stepG_region_end
  s_cond false
  s_c stepG_skip
  s_c stepG_seq
  s_reg
  s_op
  s_op
  s_op
  s_op
  s_c stepG_region_end
  s_c stepG_seq
  s_reg
  s_stop
  refine LoneTo.step (step_lone_select_send_room (c := c) (v := .pointer (some ⟨w.heap.size, 0, none⟩)) (z' := .pointer none) (cap := m.cap) (buf := ptrs gs) (s := s) (r := r) (tm := false)
    (stepG_comm (cases := #[scase c (.pointer (some ⟨w.heap.size, 0, none⟩)) (.pointer none)]) (blocking := false) (shape := .select) (w' := (w.alloc (.cells #[.int .i64 x] 3))) rfl rfl (by decide) (by simp [go_sem, execOp, scase, Act.eval])) hch (by simpa [ptrs] using hr)) ?_
  rw [Frame.finish_at]
  walk_nrm
  refine LoneTo.goes (n := 40) ?_
  s_op
  s_op
  s_c stepG_region_end
  s_c stepG_block
  s_cond true
  s_c stepG_seq
  s_reg
  s_op
  s_c stepG_region_end
  s_c stepG_ret'
  s_stop
  exact LoneTo.done ⟨.returned (.bool true), _, rfl, ⟨rfl, rfl⟩, rfl, rfl, rfl, rfl, _, Try.func12, by simp [results, Try.f12, Frame.at]⟩
theorem offer_full_int {m : BX} {b c s r : Nat} {gs : List Nat} {w : World} (x : Int) (h : BoxAt m b c s r gs w) (hc : m.closed = false) (hr : m.cap ≤ gs.length) :
    Calls Try.prog 12 #[.pointer (some ⟨b, 0, none⟩), .int .i64 x] w fun e w' => e = .returned (.bool false) ∧ w' = (w.alloc (.cells #[.int .i64 x] 3)) := by
  refine calls_of_loneTo fun cs => ?_
  have e : Frame.enter Try.prog 12 #[.pointer (some ⟨b, 0, none⟩), .int .i64 x] .normal = (base 12).at ⟨#[.pointer (some ⟨b, 0, none⟩), .int .i64 x, undef, undef, undef, undef, undef, undef, undef, undef, undef, undef, undef, undef, undef, undef], []⟩ [.code (Try.f12.body.getD .skip)] := by
    simp [Frame.enter, Frame.at, Try.func12, base, Try.f12]
  rw [e]
  have hb := lt_some h.self
  have hch : (w.alloc (.cells #[.int .i64 x] 3)).heap[c]? = some (.chan m.cap (ptrs gs) false s r false) := (alloc_old (lt_some h.chan)).trans h.chan
  have h0 : (w.alloc (.cells #[.int .i64 x] 3)).cell? ⟨b, 0, none⟩ = some (.chan (some c)) := by
    rw [cells_of ((alloc_old hb).trans h.self)]; simp
  have h1 : (w.alloc (.cells #[.int .i64 x] 3)).cell? ⟨b, 1, none⟩ = some (.bool false) := by
    rw [cells_of ((alloc_old hb).trans h.self)]; simp [hc]
  refine LoneTo.goes (n := 60) ?_
  simp only [Try.f12, Option.getD_some]
  s_c stepG_seq
  s_reg
  s_op
  s_op
  s_c stepG_region_end
  s_c stepG_seq
  s_c stepG_seq
  s_reg
  s_op
  s_op
  s_op
  s_op
  s_c stepG_region_end
  s_cond false
  s_c stepG_skip
  s_c stepG_seq
  s_reg
  s_op
  s_op
  s_op
  s_op
  s_c stepG_region_end
  s_c stepG_seq
  s_reg
  s_stop
  refine LoneTo.step (step_lone_select_send_full (c := c) (v := .pointer (some ⟨w.heap.size, 0, none⟩)) (z' := .pointer none) (cap := m.cap) (buf := ptrs gs) (s := s) (r := r) (tm := false)
    (stepG_comm (cases := #[scase c (.pointer (some ⟨w.heap.size, 0, none⟩)) (.pointer none)]) (blocking := false) (shape := .select) (w' := (w.alloc (.cells #[.int .i64 x] 3))) rfl rfl (by decide) (by simp [go_sem, execOp, scase, Act.eval])) hch (by simpa [ptrs] using hr)) ?_
  rw [Frame.finish_at]
  walk_nrm
  refine LoneTo.goes (n := 40) ?_
  s_op
  s_op
  s_c stepG_region_end
  s_c stepG_block
  s_cond false
  s_c stepG_seq
  s_reg
  s_op
  s_c stepG_region_end
  s_c stepG_ret'
  s_stop
  exact LoneTo.done ⟨.returned (.bool false), _, rfl, ⟨rfl, rfl⟩, rfl, rfl, rfl, rfl, _, Try.func12, by simp [results, Try.f12, Frame.at]⟩
theorem offer_closed_string {m : BX} {b c s r : Nat} {gs : List Nat} {w : World} (x : ByteArray) (h : BoxAt m b c s r gs w) (hc : m.closed = true) :
    Calls Try.prog 25 #[.pointer (some ⟨b, 0, none⟩), .string x] w fun e w' => e = .returned (.bool false) ∧ w' = (w.alloc (.cells #[.string x] 9)) := by
  refine calls_of_loneTo fun cs => ?_
  have e : Frame.enter Try.prog 25 #[.pointer (some ⟨b, 0, none⟩), .string x] .normal = (base 25).at ⟨#[.pointer (some ⟨b, 0, none⟩), .string x, undef, undef, undef, undef, undef, undef, undef, undef, undef, undef, undef, undef, undef, undef], []⟩ [.code (Try.f25.body.getD .skip)] := by
    simp [Frame.enter, Frame.at, Try.func25, base, Try.f25]
  rw [e]
  have hb := lt_some h.self
  have hch : (w.alloc (.cells #[.string x] 9)).heap[c]? = some (.chan m.cap (ptrs gs) false s r false) := (alloc_old (lt_some h.chan)).trans h.chan
  have h0 : (w.alloc (.cells #[.string x] 9)).cell? ⟨b, 0, none⟩ = some (.chan (some c)) := by
    rw [cells_of ((alloc_old hb).trans h.self)]; simp
  have h1 : (w.alloc (.cells #[.string x] 9)).cell? ⟨b, 1, none⟩ = some (.bool true) := by
    rw [cells_of ((alloc_old hb).trans h.self)]; simp [hc]
  refine LoneTo.goes (n := 60) ?_
  simp only [Try.f25, Option.getD_some]
  clear hch
  s_c stepG_seq
  s_reg
  s_op
  s_op
  s_c stepG_region_end
  s_c stepG_seq
  s_c stepG_seq
  s_reg
  s_op
  s_op
  s_op
  s_op
  s_c stepG_region_end
  s_cond true
  s_c stepG_seq
  s_reg
  s_op
  s_c stepG_region_end
  s_c stepG_ret'
  s_stop
  exact LoneTo.done ⟨.returned (.bool false), _, rfl, ⟨rfl, rfl⟩, rfl, rfl, rfl, rfl, _, Try.func25, by simp [results, Try.f25, Frame.at]⟩
theorem offer_room_string {m : BX} {b c s r : Nat} {gs : List Nat} {w : World} (x : ByteArray) (h : BoxAt m b c s r gs w) (hc : m.closed = false) (hr : gs.length < m.cap) :
    Calls Try.prog 25 #[.pointer (some ⟨b, 0, none⟩), .string x] w fun e w' => e = .returned (.bool true) ∧ w' = (w.alloc (.cells #[.string x] 9)).setChan c m.cap ((ptrs gs).push (.pointer (some ⟨w.heap.size, 0, none⟩))) false (s + 1) r false := by
  refine calls_of_loneTo fun cs => ?_
  have e : Frame.enter Try.prog 25 #[.pointer (some ⟨b, 0, none⟩), .string x] .normal = (base 25).at ⟨#[.pointer (some ⟨b, 0, none⟩), .string x, undef, undef, undef, undef, undef, undef, undef, undef, undef, undef, undef, undef, undef, undef], []⟩ [.code (Try.f25.body.getD .skip)] := by
    simp [Frame.enter, Frame.at, Try.func25, base, Try.f25]
  rw [e]
  have hb := lt_some h.self
  have hch : (w.alloc (.cells #[.string x] 9)).heap[c]? = some (.chan m.cap (ptrs gs) false s r false) := (alloc_old (lt_some h.chan)).trans h.chan
  have h0 : (w.alloc (.cells #[.string x] 9)).cell? ⟨b, 0, none⟩ = some (.chan (some c)) := by
    rw [cells_of ((alloc_old hb).trans h.self)]; simp
  have h1 : (w.alloc (.cells #[.string x] 9)).cell? ⟨b, 1, none⟩ = some (.bool false) := by
    rw [cells_of ((alloc_old hb).trans h.self)]; simp [hc]
  refine LoneTo.goes (n := 60) ?_
  simp only [Try.f25, Option.getD_some]
  s_c stepG_seq
  s_reg
  s_op
  s_op
  s_c stepG_region_end
  s_c stepG_seq
  s_c stepG_seq
  s_reg
  s_op
  s_op
  s_op
  s_op
  s_c stepG_region_end
  s_cond false
  s_c stepG_skip
  s_c stepG_seq
  s_reg
  s_op
  s_op
  s_op
  s_op
  s_c stepG_region_end
  s_c stepG_seq
  s_reg
  s_stop
  refine LoneTo.step (step_lone_select_send_room (c := c) (v := .pointer (some ⟨w.heap.size, 0, none⟩)) (z' := .pointer none) (cap := m.cap) (buf := ptrs gs) (s := s) (r := r) (tm := false)
    (stepG_comm (cases := #[scase c (.pointer (some ⟨w.heap.size, 0, none⟩)) (.pointer none)]) (blocking := false) (shape := .select) (w' := (w.alloc (.cells #[.string x] 9))) rfl rfl (by decide) (by simp [go_sem, execOp, scase, Act.eval])) hch (by simpa [ptrs] using hr)) ?_
  rw [Frame.finish_at]
  walk_nrm
  refine LoneTo.goes (n := 40) ?_
  s_op
  s_op
  s_c stepG_region_end
  s_c stepG_block
  s_cond true
  s_c stepG_seq
  s_reg
  s_op
  s_c stepG_region_end
  s_c stepG_ret'
  s_stop
  exact LoneTo.done ⟨.returned (.bool true), _, rfl, ⟨rfl, rfl⟩, rfl, rfl, rfl, rfl, _, Try.func25, by simp [results, Try.f25, Frame.at]⟩
theorem offer_full_string {m : BX} {b c s r : Nat} {gs : List Nat} {w : World} (x : ByteArray) (h : BoxAt m b c s r gs w) (hc : m.closed = false) (hr : m.cap ≤ gs.length) :
    Calls Try.prog 25 #[.pointer (some ⟨b, 0, none⟩), .string x] w fun e w' => e = .returned (.bool false) ∧ w' = (w.alloc (.cells #[.string x] 9)) := by
  refine calls_of_loneTo fun cs => ?_
  have e : Frame.enter Try.prog 25 #[.pointer (some ⟨b, 0, none⟩), .string x] .normal = (base 25).at ⟨#[.pointer (some ⟨b, 0, none⟩), .string x, undef, undef, undef, undef, undef, undef, undef, undef, undef, undef, undef, undef, undef, undef], []⟩ [.code (Try.f25.body.getD .skip)] := by
    simp [Frame.enter, Frame.at, Try.func25, base, Try.f25]
  rw [e]
  have hb := lt_some h.self
  have hch : (w.alloc (.cells #[.string x] 9)).heap[c]? = some (.chan m.cap (ptrs gs) false s r false) := (alloc_old (lt_some h.chan)).trans h.chan
  have h0 : (w.alloc (.cells #[.string x] 9)).cell? ⟨b, 0, none⟩ = some (.chan (some c)) := by
    rw [cells_of ((alloc_old hb).trans h.self)]; simp
  have h1 : (w.alloc (.cells #[.string x] 9)).cell? ⟨b, 1, none⟩ = some (.bool false) := by
    rw [cells_of ((alloc_old hb).trans h.self)]; simp [hc]
  refine LoneTo.goes (n := 60) ?_
  simp only [Try.f25, Option.getD_some]
  s_c stepG_seq
  s_reg
  s_op
  s_op
  s_c stepG_region_end
  s_c stepG_seq
  s_c stepG_seq
  s_reg
  s_op
  s_op
  s_op
  s_op
  s_c stepG_region_end
  s_cond false
  s_c stepG_skip
  s_c stepG_seq
  s_reg
  s_op
  s_op
  s_op
  s_op
  s_c stepG_region_end
  s_c stepG_seq
  s_reg
  s_stop
  refine LoneTo.step (step_lone_select_send_full (c := c) (v := .pointer (some ⟨w.heap.size, 0, none⟩)) (z' := .pointer none) (cap := m.cap) (buf := ptrs gs) (s := s) (r := r) (tm := false)
    (stepG_comm (cases := #[scase c (.pointer (some ⟨w.heap.size, 0, none⟩)) (.pointer none)]) (blocking := false) (shape := .select) (w' := (w.alloc (.cells #[.string x] 9))) rfl rfl (by decide) (by simp [go_sem, execOp, scase, Act.eval])) hch (by simpa [ptrs] using hr)) ?_
  rw [Frame.finish_at]
  walk_nrm
  refine LoneTo.goes (n := 40) ?_
  s_op
  s_op
  s_c stepG_region_end
  s_c stepG_block
  s_cond false
  s_c stepG_seq
  s_reg
  s_op
  s_c stepG_region_end
  s_c stepG_ret'
  s_stop
  exact LoneTo.done ⟨.returned (.bool false), _, rfl, ⟨rfl, rfl⟩, rfl, rfl, rfl, rfl, _, Try.func25, by simp [results, Try.f25, Frame.at]⟩
end Go.Proofs.Ytagiodenlhfgfaa.Bx
