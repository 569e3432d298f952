/- grove: the kind of slots. -/
import Derived.Test.YtljdcboijegllaaShLst
namespace Go.Proofs.Ytljdcboijegllaa.G9
abbrev k9 : Gv.Kd Sh.Sl Sh.Sz := Sh.k9
end Go.Proofs.Ytljdcboijegllaa.G9
