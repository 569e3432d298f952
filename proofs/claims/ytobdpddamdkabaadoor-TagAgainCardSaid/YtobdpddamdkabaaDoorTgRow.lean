/- tag: a list of operations as a row. -/
import Derived.Test.YtobdpddamdkabaaDoorTgRes
namespace Go.Proofs.YtobdpddamdkabaaDoor.Tg
open Go.Proofs.YtobdpddamdkabaaDoor.Rx
def tmL : List Value := [.int .i64 0, .int .i64 0, .int .i64 0, .bool false, .int .i64 0, .int .i64 0]
def colsL (L : List Ls) : List Col := [colI (L.map (·.ix)), colI (L.map (·.gn)), colI (L.map (·.tm)), colB (L.map (·.ins)), colI (L.map (·.key)), colI (L.map (·.id))]
def rowL (L : List Ls) : Row := ⟨tmL, L.length, colsL L⟩
end Go.Proofs.YtobdpddamdkabaaDoor.Tg
