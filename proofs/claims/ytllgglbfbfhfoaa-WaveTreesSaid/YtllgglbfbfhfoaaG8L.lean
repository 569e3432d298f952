/- grove: marks, and what they come to, cell by cell. -/
import Derived.Test.YtllgglbfbfhfoaaG8Lay
namespace Go.Proofs.Ytllgglbfbfhfoaa.G8
open Go.Proofs.Ytllgglbfbfhfoaa.Rx
set_option linter.unusedVariables false
def ptL (p : Gv.Part Wv.Sw) : List Value := [.int .i64 p.n, .int .i64 p.sum.c.n, .int .i64 p.sum.c.s, .int .i64 p.sum.c.l, .int .i64 p.sum.w.n, .int .i64 p.sum.w.s, .int .i64 p.sum.w.l, .int .i64 p.sum.d, .int .i64 p.sum.f, .int .i64 p.sum.m.k, .int .i64 p.sum.m.i, .bool p.sum.gf, .int .i64 p.sum.g.k, .int .i64 p.sum.g.i, .bool p.sum.lf, .int .i64 p.sum.l.k, .int .i64 p.sum.l.i]
def elL (e : Wv.Mk) : List Value := [.int .i64 e.t, .bool e.ins, .int .i64 e.it.k, .int .i64 e.it.i, .bool e.here, .bool e.tf, .int .i64 e.tk.k, .int .i64 e.tk.i]
def smL (s : Wv.Sw) : List Value := [.int .i64 s.c.n, .int .i64 s.c.s, .int .i64 s.c.l, .int .i64 s.w.n, .int .i64 s.w.s, .int .i64 s.w.l, .int .i64 s.d, .int .i64 s.f, .int .i64 s.m.k, .int .i64 s.m.i, .bool s.gf, .int .i64 s.g.k, .int .i64 s.g.i, .bool s.lf, .int .i64 s.l.k, .int .i64 s.l.i]
end Go.Proofs.Ytllgglbfbfhfoaa.G8
