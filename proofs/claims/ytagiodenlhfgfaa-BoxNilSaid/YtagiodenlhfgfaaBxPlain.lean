/- box: the calls that communicate nothing, step by step: a communication is a step of the machine's. -/
import Derived.Test.YtagiodenlhfgfaaBxRes
import Derived.Test.YtagiodenlhfgfaaChecked
import Derived.KernelRfl
import Derived.Laws.Rows
namespace Go.Proofs.Ytagiodenlhfgfaa.Bx
open Go.RowKit Go.Conc Go.Proofs.Ytagiodenlhfgfaa.State
set_option linter.unusedVariables false
set_option linter.unusedSimpArgs false
set_option maxRecDepth 100000
theorem len_at_int {m : BX} {b c s r : Nat} {gs : List Nat} {w : World} (h : BoxAt m b c s r gs w) :
    Calls Try.prog 21 #[.pointer (some ⟨b, 0, none⟩)] w fun e w' => e = .returned (.int .i64 gs.length) ∧ w' = w := by
  refine calls_of_loneTo fun cs => ?_
  have e : Frame.enter Try.prog 21 #[.pointer (some ⟨b, 0, none⟩)] .normal = (base 21).at ⟨#[.pointer (some ⟨b, 0, none⟩), undef, undef, undef, undef, undef, undef, undef], []⟩ [.code (Try.f21.body.getD .skip)] := by
    simp [Frame.enter, Frame.at, Try.func21, base, Try.f21]
  rw [e]
  have h0 : w.cell? ⟨b, 0, none⟩ = some (.chan (some c)) := by
    rw [cells_of h.self]; simp
  have hl := fun ty => run_len_chan (P := Try.prog) 60 ty Try.underlying60 h.chan
  have hs : (ptrs gs).size = gs.length := by simp [ptrs]
  refine LoneTo.goes (n := 60) ?_
  simp only [Try.f21, Option.getD_some]
  s_c stepG_seq
  s_reg
  s_op
  s_c stepG_region_end
  s_c stepG_seq
  s_reg
  s_op
  s_op
  s_op
  s_op
  s_op
  s_op
  s_c stepG_region_end
  s_c stepG_ret'
  s_stop
  exact LoneTo.done ⟨.returned (.int .i64 gs.length), _, rfl, ⟨rfl, rfl⟩, rfl, rfl, rfl, rfl, _, Try.func21, by simp [results, Try.f21, Frame.at]⟩
theorem cap_at_int {m : BX} {b c s r : Nat} {gs : List Nat} {w : World} (h : BoxAt m b c s r gs w) :
    Calls Try.prog 10 #[.pointer (some ⟨b, 0, none⟩)] w fun e w' => e = .returned (.int .i64 m.cap) ∧ w' = w := by
  refine calls_of_loneTo fun cs => ?_
  have e : Frame.enter Try.prog 10 #[.pointer (some ⟨b, 0, none⟩)] .normal = (base 10).at ⟨#[.pointer (some ⟨b, 0, none⟩), undef, undef, undef, undef, undef, undef, undef], []⟩ [.code (Try.f10.body.getD .skip)] := by
    simp [Frame.enter, Frame.at, Try.func10, base, Try.f10]
  rw [e]
  have h0 : w.cell? ⟨b, 0, none⟩ = some (.chan (some c)) := by
    rw [cells_of h.self]; simp
  have hl := fun ty => run_cap_chan (P := Try.prog) 60 ty Try.underlying60 h.chan
  refine LoneTo.goes (n := 60) ?_
  simp only [Try.f10, Option.getD_some]
  s_c stepG_seq
  s_reg
  s_op
  s_c stepG_region_end
  s_c stepG_seq
  s_reg
  s_op
  s_op
  s_op
  s_op
  s_op
  s_op
  s_c stepG_region_end
  s_c stepG_ret'
  s_stop
  exact LoneTo.done ⟨.returned (.int .i64 m.cap), _, rfl, ⟨rfl, rfl⟩, rfl, rfl, rfl, rfl, _, Try.func10, by simp [results, Try.f10, Frame.at]⟩
theorem closed_at_int {m : BX} {b c s r : Nat} {gs : List Nat} {w : World} (h : BoxAt m b c s r gs w) :
    Calls Try.prog 22 #[.pointer (some ⟨b, 0, none⟩)] w fun e w' => e = .returned (.bool m.closed) ∧ w' = w := by
  refine calls_of_loneTo fun cs => ?_
  have e : Frame.enter Try.prog 22 #[.pointer (some ⟨b, 0, none⟩)] .normal = (base 22).at ⟨#[.pointer (some ⟨b, 0, none⟩), undef, undef, undef, undef, undef, undef], []⟩ [.code (Try.f22.body.getD .skip)] := by
    simp [Frame.enter, Frame.at, Try.func22, base, Try.f22]
  rw [e]
  have h0 : w.cell? ⟨b, 1, none⟩ = some (.bool m.closed) := by
    rw [cells_of h.self]; simp
  refine LoneTo.goes (n := 60) ?_
  simp only [Try.f22, Option.getD_some]
  s_c stepG_seq
  s_reg
  s_op
  s_c stepG_region_end
  s_c stepG_seq
  s_reg
  s_op
  s_op
  s_op
  s_op
  s_op
  s_c stepG_region_end
  s_c stepG_ret'
  s_stop
  exact LoneTo.done ⟨.returned (.bool m.closed), _, rfl, ⟨rfl, rfl⟩, rfl, rfl, rfl, rfl, _, Try.func22, by simp [results, Try.f22, Frame.at]⟩
theorem close_at_int {m : BX} {b c s r : Nat} {gs : List Nat} {w : World} (h : BoxAt m b c s r gs w) :
    Calls Try.prog 16 #[.pointer (some ⟨b, 0, none⟩)] w fun e w' => e = .returned (.bool (!m.closed)) ∧ w' = w.setCell ⟨b, 1, none⟩ (.bool true) := by
  refine calls_of_loneTo fun cs => ?_
  have e : Frame.enter Try.prog 16 #[.pointer (some ⟨b, 0, none⟩)] .normal = (base 16).at ⟨#[.pointer (some ⟨b, 0, none⟩), undef, undef, undef, undef, undef, undef, undef, undef, undef, undef, undef, undef], []⟩ [.code (Try.f16.body.getD .skip)] := by
    simp [Frame.enter, Frame.at, Try.func16, base, Try.f16]
  rw [e]
  have h0 : w.cell? ⟨b, 1, none⟩ = some (.bool m.closed) := by
    rw [cells_of h.self]; simp
  have h1 : w.frozen? ⟨b, 1, none⟩ = false := by
    simp [World.frozen?, h.self, World.shape?]
  refine LoneTo.goes (n := 60) ?_
  simp only [Try.f16, Option.getD_some]
  s_c stepG_seq
  s_reg
  s_op
  s_c stepG_region_end
  s_c stepG_seq
  s_reg
  s_op
  s_op
  s_op
  s_op
  s_op
  s_op
  s_c stepG_region_end
  s_c stepG_seq
  s_reg
  s_op
  s_op
  s_op
  s_op
  s_c stepG_region_end
  s_c stepG_seq
  s_reg
  s_op
  s_op
  s_c stepG_region_end
  s_c stepG_ret'
  s_stop
  exact LoneTo.done ⟨.returned (.bool (!m.closed)), _, rfl, ⟨rfl, rfl⟩, rfl, rfl, rfl, rfl, _, Try.func16, by simp [results, Try.f16, Frame.at]⟩
theorem new_at_int (x : Int) (w : World) :
    Calls Try.prog 8 #[.int .i64 x] w fun e w' => e = .returned (.pointer (some ⟨w.heap.size + 1, 0, none⟩)) ∧ w' = (w.alloc (.chan (min (max x 1) 1000).toNat #[] false 0 0 false)).alloc (.cells #[.chan (some w.heap.size), .bool false] 62) := by
  refine calls_of_loneTo fun cs => ?_
  have e : Frame.enter Try.prog 8 #[.int .i64 x] .normal = (base 8).at ⟨#[.int .i64 x, undef, undef, undef, undef, undef, undef, undef, undef], []⟩ [.code (Try.f8.body.getD .skip)] := by
    simp [Frame.enter, Frame.at, Try.func8, base, Try.f8]
  rw [e]
  have hm : ∀ (n : Int), 1 ≤ n → n ≤ 1000 → (Instr.makeChan 60 (.int .i64 n)).run Try.prog w = .ok (.chan (some w.heap.size)) (w.alloc (.chan n.toNat #[] false 0 0 false)) := fun n h1 h2 => by
    have h : (Try.prog.info? 63).map (·.bytes) = some 8 := by kernel_rfl
    obtain ⟨i, hi, hb⟩ := Option.map_eq_some_iff.1 h
    have := run_makeChan (P := Try.prog) (w := w) Try.underlying60 hi .i64 n.toNat (by omega) (by rw [hb]; omega)
    rwa [show ((n.toNat : Nat) : Int) = n by omega] at this
  refine LoneTo.goes (n := 60) ?_
  simp only [Try.f8, Option.getD_some]
  s_c stepG_seq
  s_reg
  s_op
  s_c stepG_region_end
  s_c stepG_seq
  s_reg
  s_op
  s_op
  s_op
  have en : (if 1000 < if x < 1 then 1 else x then 1000 else if x < 1 then 1 else x) = min (max x 1) 1000 := by
    by_cases h1 : x < 1
    · rw [if_pos h1]; simp; omega
    · rw [if_neg h1]; split <;> omega
  have hm1 := hm (min (max x 1) 1000) (by omega) (by omega)
  rw [en]
  clear hm en
  s_op
  s_op
  s_op
  s_op
  s_c stepG_region_end
  s_c stepG_ret'
  s_stop
  exact LoneTo.done ⟨.returned (.pointer (some ⟨w.heap.size + 1, 0, none⟩)), _, rfl, ⟨rfl, rfl⟩, rfl, rfl, rfl, rfl, _, Try.func8, by simp [results, Try.f8, Frame.at]⟩
theorem len_at_string {m : BX} {b c s r : Nat} {gs : List Nat} {w : World} (h : BoxAt m b c s r gs w) :
    Calls Try.prog 28 #[.pointer (some ⟨b, 0, none⟩)] w fun e w' => e = .returned (.int .i64 gs.length) ∧ w' = w := by
  refine calls_of_loneTo fun cs => ?_
  have e : Frame.enter Try.prog 28 #[.pointer (some ⟨b, 0, none⟩)] .normal = (base 28).at ⟨#[.pointer (some ⟨b, 0, none⟩), undef, undef, undef, undef, undef, undef, undef], []⟩ [.code (Try.f28.body.getD .skip)] := by
    simp [Frame.enter, Frame.at, Try.func28, base, Try.f28]
  rw [e]
  have h0 : w.cell? ⟨b, 0, none⟩ = some (.chan (some c)) := by
    rw [cells_of h.self]; simp
  have hl := fun ty => run_len_chan (P := Try.prog) 65 ty Try.underlying65 h.chan
  have hs : (ptrs gs).size = gs.length := by simp [ptrs]
  refine LoneTo.goes (n := 60) ?_
  simp only [Try.f28, Option.getD_some]
  s_c stepG_seq
  s_reg
  s_op
  s_c stepG_region_end
  s_c stepG_seq
  s_reg
  s_op
  s_op
  s_op
  s_op
  s_op
  s_op
  s_c stepG_region_end
  s_c stepG_ret'
  s_stop
  exact LoneTo.done ⟨.returned (.int .i64 gs.length), _, rfl, ⟨rfl, rfl⟩, rfl, rfl, rfl, rfl, _, Try.func28, by simp [results, Try.f28, Frame.at]⟩
theorem closed_at_string {m : BX} {b c s r : Nat} {gs : List Nat} {w : World} (h : BoxAt m b c s r gs w) :
    Calls Try.prog 27 #[.pointer (some ⟨b, 0, none⟩)] w fun e w' => e = .returned (.bool m.closed) ∧ w' = w := by
  refine calls_of_loneTo fun cs => ?_
  have e : Frame.enter Try.prog 27 #[.pointer (some ⟨b, 0, none⟩)] .normal = (base 27).at ⟨#[.pointer (some ⟨b, 0, none⟩), undef, undef, undef, undef, undef, undef], []⟩ [.code (Try.f27.body.getD .skip)] := by
    simp [Frame.enter, Frame.at, Try.func27, base, Try.f27]
  rw [e]
  have h0 : w.cell? ⟨b, 1, none⟩ = some (.bool m.closed) := by
    rw [cells_of h.self]; simp
  refine LoneTo.goes (n := 60) ?_
  simp only [Try.f27, Option.getD_some]
  s_c stepG_seq
  s_reg
  s_op
  s_c stepG_region_end
  s_c stepG_seq
  s_reg
  s_op
  s_op
  s_op
  s_op
  s_op
  s_c stepG_region_end
  s_c stepG_ret'
  s_stop
  exact LoneTo.done ⟨.returned (.bool m.closed), _, rfl, ⟨rfl, rfl⟩, rfl, rfl, rfl, rfl, _, Try.func27, by simp [results, Try.f27, Frame.at]⟩
theorem close_at_string {m : BX} {b c s r : Nat} {gs : List Nat} {w : World} (h : BoxAt m b c s r gs w) :
    Calls Try.prog 26 #[.pointer (some ⟨b, 0, none⟩)] w fun e w' => e = .returned (.bool (!m.closed)) ∧ w' = w.setCell ⟨b, 1, none⟩ (.bool true) := by
  refine calls_of_loneTo fun cs => ?_
  have e : Frame.enter Try.prog 26 #[.pointer (some ⟨b, 0, none⟩)] .normal = (base 26).at ⟨#[.pointer (some ⟨b, 0, none⟩), undef, undef, undef, undef, undef, undef, undef, undef, undef, undef, undef, undef], []⟩ [.code (Try.f26.body.getD .skip)] := by
    simp [Frame.enter, Frame.at, Try.func26, base, Try.f26]
  rw [e]
  have h0 : w.cell? ⟨b, 1, none⟩ = some (.bool m.closed) := by
    rw [cells_of h.self]; simp
  have h1 : w.frozen? ⟨b, 1, none⟩ = false := by
    simp [World.frozen?, h.self, World.shape?]
  refine LoneTo.goes (n := 60) ?_
  simp only [Try.f26, Option.getD_some]
  s_c stepG_seq
  s_reg
  s_op
  s_c stepG_region_end
  s_c stepG_seq
  s_reg
  s_op
  s_op
  s_op
  s_op
  s_op
  s_op
  s_c stepG_region_end
  s_c stepG_seq
  s_reg
  s_op
  s_op
  s_op
  s_op
  s_c stepG_region_end
  s_c stepG_seq
  s_reg
  s_op
  s_op
  s_c stepG_region_end
  s_c stepG_ret'
  s_stop
  exact LoneTo.done ⟨.returned (.bool (!m.closed)), _, rfl, ⟨rfl, rfl⟩, rfl, rfl, rfl, rfl, _, Try.func26, by simp [results, Try.f26, Frame.at]⟩
theorem new_at_string (x : Int) (w : World) :
    Calls Try.prog 24 #[.int .i64 x] w fun e w' => e = .returned (.pointer (some ⟨w.heap.size + 1, 0, none⟩)) ∧ w' = (w.alloc (.chan (min (max x 1) 1000).toNat #[] false 0 0 false)).alloc (.cells #[.chan (some w.heap.size), .bool false] 67) := by
  refine calls_of_loneTo fun cs => ?_
  have e : Frame.enter Try.prog 24 #[.int .i64 x] .normal = (base 24).at ⟨#[.int .i64 x, undef, undef, undef, undef, undef, undef, undef, undef], []⟩ [.code (Try.f24.body.getD .skip)] := by
    simp [Frame.enter, Frame.at, Try.func24, base, Try.f24]
  rw [e]
  have hm : ∀ (n : Int), 1 ≤ n → n ≤ 1000 → (Instr.makeChan 65 (.int .i64 n)).run Try.prog w = .ok (.chan (some w.heap.size)) (w.alloc (.chan n.toNat #[] false 0 0 false)) := fun n h1 h2 => by
    have h : (Try.prog.info? 68).map (·.bytes) = some 8 := by kernel_rfl
    obtain ⟨i, hi, hb⟩ := Option.map_eq_some_iff.1 h
    have := run_makeChan (P := Try.prog) (w := w) Try.underlying65 hi .i64 n.toNat (by omega) (by rw [hb]; omega)
    rwa [show ((n.toNat : Nat) : Int) = n by omega] at this
  refine LoneTo.goes (n := 60) ?_
  simp only [Try.f24, Option.getD_some]
  s_c stepG_seq
  s_reg
  s_op
  s_c stepG_region_end
  s_c stepG_seq
  s_reg
  s_op
  s_op
  s_op
  have en : (if 1000 < if x < 1 then 1 else x then 1000 else if x < 1 then 1 else x) = min (max x 1) 1000 := by
    by_cases h1 : x < 1
    · rw [if_pos h1]; simp; omega
    · rw [if_neg h1]; split <;> omega
  have hm1 := hm (min (max x 1) 1000) (by omega) (by omega)
  rw [en]
  clear hm en
  s_op
  s_op
  s_op
  s_op
  s_c stepG_region_end
  s_c stepG_ret'
  s_stop
  exact LoneTo.done ⟨.returned (.pointer (some ⟨w.heap.size + 1, 0, none⟩)), _, rfl, ⟨rfl, rfl⟩, rfl, rfl, rfl, rfl, _, Try.func24, by simp [results, Try.f24, Frame.at]⟩
end Go.Proofs.Ytagiodenlhfgfaa.Bx
