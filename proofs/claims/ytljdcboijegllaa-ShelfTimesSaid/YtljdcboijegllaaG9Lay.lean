/- grove: a pool of nodes of slots: where it lies. -/
import Derived.Test.YtljdcboijegllaaGvFn
import Derived.Test.YtljdcboijegllaaShSl
namespace Go.Proofs.Ytljdcboijegllaa.G9
open Go.Proofs.Ytljdcboijegllaa.Rx
set_option linter.unusedVariables false
set_option linter.unusedSimpArgs false
set_option maxRecDepth 100000
abbrev Nd := Gv.Node Sh.Sl Sh.Sz
abbrev Pl := Gv.PM Nd
def ndL (n : Nd) : List Value := [.int .i64 n.e.it.k, .int .i64 n.e.it.i, .bool n.e.eaten, .int .i64 n.e.time, .int .i64 n.l.i, .int .i64 n.l.g, .int .i64 n.r.i, .int .i64 n.r.g, .int .i64 n.all.n, .int .i64 n.all.sum.n, .int .i64 n.h]
def cellTm : List Value := [.int .i64 0, .int .i64 0, .bool false, .int .i64 0, .int .i64 0, .int .i64 0, .int .i64 0, .int .i64 0, .int .i64 0, .int .i64 0, .int .i64 0, .int .i64 0, .bool false]
def layPool (m : Pl) : Hp Empty :=
  [some (.inl (87, [.slice (some ⟨1, 0, some 13000⟩) m.vs.length 0, .slice (some ⟨2, 0, some 1000⟩) m.free.length 0, .int .i64 m.held, .int .i64 m.cap, .int .i64 m.visits])),
   some (.inr (.inl (83, ⟨[.int .i64 0, .int .i64 0, .bool false, .int .i64 0, .int .i64 0, .int .i64 0, .int .i64 0, .int .i64 0, .int .i64 0, .int .i64 0, .int .i64 0, .int .i64 0, .bool false], m.vs.length, [colI (m.vs.map fun n => n.e.it.k), colI (m.vs.map fun n => n.e.it.i), colB (m.vs.map fun n => n.e.eaten), colI (m.vs.map fun n => n.e.time), colI (m.vs.map fun n => n.l.i), colI (m.vs.map fun n => n.l.g), colI (m.vs.map fun n => n.r.i), colI (m.vs.map fun n => n.r.g), colI (m.vs.map fun n => n.all.n), colI (m.vs.map fun n => n.all.sum.n), colI (m.vs.map fun n => n.h), colI m.gens, colB m.live]⟩))),
   some (.inr (.inl (3, ⟨[.int .i64 0], m.free.length, [colI m.free]⟩)))]
end Go.Proofs.Ytljdcboijegllaa.G9
