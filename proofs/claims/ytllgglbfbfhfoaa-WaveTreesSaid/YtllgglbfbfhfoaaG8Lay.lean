/- grove: a pool of nodes of marks: where it lies. -/
import Derived.Test.YtllgglbfbfhfoaaGvFn
import Derived.Test.YtllgglbfbfhfoaaWvSw
namespace Go.Proofs.Ytllgglbfbfhfoaa.G8
open Go.Proofs.Ytllgglbfbfhfoaa.Rx
set_option linter.unusedVariables false
set_option linter.unusedSimpArgs false
set_option maxRecDepth 100000
abbrev Nd := Gv.Node Wv.Mk Wv.Sw
abbrev Pl := Gv.PM Nd
def ndL (n : Nd) : List Value := [.int .i64 n.e.t, .bool n.e.ins, .int .i64 n.e.it.k, .int .i64 n.e.it.i, .bool n.e.here, .bool n.e.tf, .int .i64 n.e.tk.k, .int .i64 n.e.tk.i, .int .i64 n.l.i, .int .i64 n.l.g, .int .i64 n.r.i, .int .i64 n.r.g, .int .i64 n.all.n, .int .i64 n.all.sum.c.n, .int .i64 n.all.sum.c.s, .int .i64 n.all.sum.c.l, .int .i64 n.all.sum.w.n, .int .i64 n.all.sum.w.s, .int .i64 n.all.sum.w.l, .int .i64 n.all.sum.d, .int .i64 n.all.sum.f, .int .i64 n.all.sum.m.k, .int .i64 n.all.sum.m.i, .bool n.all.sum.gf, .int .i64 n.all.sum.g.k, .int .i64 n.all.sum.g.i, .bool n.all.sum.lf, .int .i64 n.all.sum.l.k, .int .i64 n.all.sum.l.i, .int .i64 n.h]
def cellTm : List Value := [.int .i64 0, .bool false, .int .i64 0, .int .i64 0, .bool false, .bool false, .int .i64 0, .int .i64 0, .int .i64 0, .int .i64 0, .int .i64 0, .int .i64 0, .int .i64 0, .int .i64 0, .int .i64 0, .int .i64 0, .int .i64 0, .int .i64 0, .int .i64 0, .int .i64 0, .int .i64 0, .int .i64 0, .int .i64 0, .bool false, .int .i64 0, .int .i64 0, .bool false, .int .i64 0, .int .i64 0, .int .i64 0, .int .i64 0, .bool false]
def layPool (m : Pl) : Hp Empty :=
  [some (.inl (94, [.slice (some ⟨1, 0, some 32000⟩) m.vs.length 0, .slice (some ⟨2, 0, some 1000⟩) m.free.length 0, .int .i64 m.held, .int .i64 m.cap, .int .i64 m.visits])),
   some (.inr (.inl (97, ⟨[.int .i64 0, .bool false, .int .i64 0, .int .i64 0, .bool false, .bool false, .int .i64 0, .int .i64 0, .int .i64 0, .int .i64 0, .int .i64 0, .int .i64 0, .int .i64 0, .int .i64 0, .int .i64 0, .int .i64 0, .int .i64 0, .int .i64 0, .int .i64 0, .int .i64 0, .int .i64 0, .int .i64 0, .int .i64 0, .bool false, .int .i64 0, .int .i64 0, .bool false, .int .i64 0, .int .i64 0, .int .i64 0, .int .i64 0, .bool false], m.vs.length, [colI (m.vs.map fun n => n.e.t), colB (m.vs.map fun n => n.e.ins), colI (m.vs.map fun n => n.e.it.k), colI (m.vs.map fun n => n.e.it.i), colB (m.vs.map fun n => n.e.here), colB (m.vs.map fun n => n.e.tf), colI (m.vs.map fun n => n.e.tk.k), colI (m.vs.map fun n => n.e.tk.i), colI (m.vs.map fun n => n.l.i), colI (m.vs.map fun n => n.l.g), colI (m.vs.map fun n => n.r.i), colI (m.vs.map fun n => n.r.g), colI (m.vs.map fun n => n.all.n), colI (m.vs.map fun n => n.all.sum.c.n), colI (m.vs.map fun n => n.all.sum.c.s), colI (m.vs.map fun n => n.all.sum.c.l), colI (m.vs.map fun n => n.all.sum.w.n), colI (m.vs.map fun n => n.all.sum.w.s), colI (m.vs.map fun n => n.all.sum.w.l), colI (m.vs.map fun n => n.all.sum.d), colI (m.vs.map fun n => n.all.sum.f), colI (m.vs.map fun n => n.all.sum.m.k), colI (m.vs.map fun n => n.all.sum.m.i), colB (m.vs.map fun n => n.all.sum.gf), colI (m.vs.map fun n => n.all.sum.g.k), colI (m.vs.map fun n => n.all.sum.g.i), colB (m.vs.map fun n => n.all.sum.lf), colI (m.vs.map fun n => n.all.sum.l.k), colI (m.vs.map fun n => n.all.sum.l.i), colI (m.vs.map fun n => n.h), colI m.gens, colB m.live]⟩))),
   some (.inr (.inl (3, ⟨[.int .i64 0], m.free.length, [colI m.free]⟩)))]
end Go.Proofs.Ytllgglbfbfhfoaa.G8
