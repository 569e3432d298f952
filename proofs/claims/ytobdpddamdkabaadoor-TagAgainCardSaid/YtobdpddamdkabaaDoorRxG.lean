/- Symbolic runs: what is told of the program's own variables: the table of math/bits. -/
import Derived.WalkKit
namespace Go.Proofs.YtobdpddamdkabaaDoor.Rx
def HasG : Prop := True
/-- for 2^k times the number of de Bruijn, its six highest bits: k -/
def bruijn : List Int := [0, 1, 56, 2, 57, 49, 28, 3, 61, 58, 42, 50, 38, 29, 17, 4, 62, 47, 59, 36, 45, 43, 51, 22, 53, 39, 33, 30, 24, 18, 12, 5, 63, 55, 48, 27, 60, 41, 37, 16, 46, 35, 44, 21, 52, 32, 23, 11, 54, 26, 40, 15, 34, 20, 31, 10, 25, 14, 19, 9, 13, 8, 7, 6]
def GlobO (o : Option Obj) : Prop := ∃ arr t fz, o = some (.cells arr t fz) ∧ ∀ j, j < 64 → arr[j]? = some (.int .u8 (bruijn.getD j 0))
end Go.Proofs.YtobdpddamdkabaaDoor.Rx
