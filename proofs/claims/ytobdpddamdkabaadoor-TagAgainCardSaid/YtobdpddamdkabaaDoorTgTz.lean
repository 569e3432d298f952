/- math/bits.TrailingZeros64, by the program's own table. -/
import Derived.Test.YtobdpddamdkabaaDoorTgBit
import Derived.Test.YtobdpddamdkabaaDoorTgMap
import Derived.Test.YtobdpddamdkabaaDoorRxC
import Derived.WalkSpells
namespace Go.Proofs.YtobdpddamdkabaaDoor.Tg
open Go.RowKit Go.Proofs.YtobdpddamdkabaaDoor.State Go.Proofs.YtobdpddamdkabaaDoor.Rx
set_option linter.unusedVariables false
set_option linter.unusedSimpArgs false
theorem bits_and (a b : Int) (ha : 0 ≤ a) (ha' : a < 18446744073709551616) (hb : 0 ≤ b) (hb' : b < 18446744073709551616) : bits .and .u64 a b = ((a.toNat &&& b.toNat : Nat) : Int) := by
  obtain ⟨a, rfl⟩ := Int.eq_ofNat_of_zero_le ha
  obtain ⟨b, rfl⟩ := Int.eq_ofNat_of_zero_le hb
  have h1 : a < 18446744073709551616 := by omega
  have h2 : b < 18446744073709551616 := by omega
  have e : bits .and .u64 (a : Int) (b : Int) = IntKind.u64.wrap (((BitVec.ofInt 64 (a : Int) &&& BitVec.ofInt 64 (b : Int)).toNat : Nat) : Int) := rfl
  rw [e, BitVec.toNat_and, ofInt_nat a h1, ofInt_nat b h2, wrap_nat _ (Nat.and_lt_two_pow (n := 64) a h2)]
  rfl
theorem wrap_u64 (n : Int) : IntKind.u64.wrap n = n % 18446744073709551616 := by simp [IntKind.wrap, IntKind.bits, IntKind.signed]
theorem low_bits (x : Int) (h0 : 0 < x) (h1 : x < 18446744073709551616) : bits .and .u64 x (IntKind.u64.wrap (-x)) = 2 ^ tzN x.toNat := by
  have e : IntKind.u64.wrap (-x) = ((18446744073709551616 - x.toNat : Nat) : Int) := by rw [wrap_u64]; omega
  rw [e, bits_and x _ (by omega) h1 (by omega) (by omega), Int.toNat_natCast]
  have := low_bit (x := x.toNat) (by omega) (by omega)
  rw [this]; simp
theorem deBruijn : ∀ k : Fin 64, bruijn.getD ((((2 : Int) ^ k.val * 285870213051353865) % 18446744073709551616) / 288230376151711744).toNat 0 = k.val ∧ 0 ≤ (((2 : Int) ^ k.val * 285870213051353865) % 18446744073709551616) / 288230376151711744 ∧ (((2 : Int) ^ k.val * 285870213051353865) % 18446744073709551616) / 288230376151711744 < 64 := by decide +kernel
theorem tz_calls (x : Int) (h0 : 0 ≤ x) (h1 : x < 18446744073709551616) (w : World) (hg : GlobO w.heap[0]?) :
    Calls Tryd.prog 62 #[.int .u64 x] w fun e w' => e = .returned (.int .i64 (tz x)) ∧ w = w' := by
  by_cases hx : x = 0
  · subst hx
    have ht : tz 0 = 64 := by decide
    rw [ht]
    go_enter Tryd.func62, Tryd.ntmps62
    go_wp2
    go_ret
    exact ⟨rfl, rfl⟩
  · have hb : (x == 0) = false := beq_eq_false_iff_ne.2 hx
    have hk := tzN_some (x := x.toNat) (by omega) (by omega)
    obtain ⟨d1, d2, d3⟩ := deBruijn ⟨tzN x.toNat, hk⟩
    have hl := low_bits x (by omega) h1
    obtain ⟨arr, t, fz, ha, hat⟩ := hg
    have hc : ∀ j, j < 64 → w.cell? ⟨0, j, none⟩ = some (.int .u8 (bruijn.getD j 0)) := fun j hj => by
      rw [cell_of_row w 0 j arr t fz ha]; exact hat j hj
    simp only [← wrap_u64] at d1 d2 d3
    have hcj := hc (IntKind.u64.wrap ((2 : Int) ^ tzN x.toNat * 285870213051353865) / 288230376151711744).toNat (by omega)
    rw [d1] at hcj
    clear hc hat
    have hw : wrap64 (tzN x.toNat : Int) = tzN x.toNat := by unfold wrap64; omega
    have hr : tz x = tzN x.toNat := rfl
    go_enter Tryd.func62, Tryd.ntmps62
    go_wp2
    · go_ret
      exact ⟨rfl, rfl⟩
/-- as a contract, on whatever heap -/
def tzP {R : Type} : Prim R := fun args hh => match args with
  | [.int .u64 x] => some ⟨0 ≤ x ∧ x < 18446744073709551616, .int .i64 (tz x), none, hh, [], []⟩
  | _ => none
theorem tz_ok {R : Type} {D : Res R} : ConOk D Tryd.prog 62 (con1 tzP) := by
  refine con1_ok ⟨⟨Tryd.f62, by kernel_rfl, by kernel_rfl, by kernel_rfl⟩, fun args h x _ hx C ρ ft w hm hv hi => ?_, fun args h x hx => ?_, fun args h x hx b hb => ?_, fun args h x hx _ => ?_⟩
  · unfold tzP at hx
    split at hx
    · injection hx with hx
      subst hx
      have hg : GlobO w.heap[0]? := (hm.gl.next hm.kept fun k hk => Or.inl hk).out trivial |>.1
      refine (tz_calls _ hv.1 hv.2 w hg).mono fun e w' ⟨h1, h2⟩ => ?_
      subst h2
      exact ⟨ρ, ft, fun _ _ => rfl, h1, hm⟩
    · cases hx
  all_goals
    unfold tzP at hx
    split at hx
    · injection hx with hx
      subst hx
      first | exact Nat.le_refl _ | cases hb | rfl
    · cases hx
end Go.Proofs.YtobdpddamdkabaaDoor.Tg
