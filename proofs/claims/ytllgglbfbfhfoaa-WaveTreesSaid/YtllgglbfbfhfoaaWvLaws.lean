/- wave: the laws WaveSums, WaveAbove, WaveParts. -/
import Derived.Test.YtllgglbfbfhfoaaWvLaw
import Derived.Test.YtllgglbfbfhfoaaRefR
namespace Go.Proofs.Ytllgglbfbfhfoaa.Wv
open Go.Proofs.Ytllgglbfbfhfoaa.Rx
set_option linter.unusedVariables false
set_option linter.unusedSimpArgs false
set_option maxRecDepth 100000
set_option maxHeartbeats 8000000
/-- what marks come to, cell by cell -/
def swL (s : Sw) : List Value := [.int .i64 s.c.n, .int .i64 s.c.s, .int .i64 s.c.l, .int .i64 s.w.n, .int .i64 s.w.s, .int .i64 s.w.l, .int .i64 s.d, .int .i64 s.f, .int .i64 s.m.k, .int .i64 s.m.i, .bool s.gf, .int .i64 s.g.k, .int .i64 s.g.i, .bool s.lf, .int .i64 s.l.k, .int .i64 s.l.i]
def z1 : Nat → Bool := fun j => Nat.beq j 1
theorem cutL {x : List Mk} {a n : Nat} (h : a + n ≤ x.length) : (cut x a n).length = n := by unfold cut; rw [List.length_take, List.length_drop]; omega
end Go.Proofs.Ytllgglbfbfhfoaa.Wv
