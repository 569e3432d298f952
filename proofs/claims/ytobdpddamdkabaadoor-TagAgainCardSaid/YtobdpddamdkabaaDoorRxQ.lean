/- Symbolic runs: a run and its text at once (a goal that is a run itself may be computed where nobody asks for it). -/
import Derived.Test.YtobdpddamdkabaaDoorRxP
namespace Go.Proofs.YtobdpddamdkabaaDoor.Rx
open Go.RowKit Go.Proofs.YtobdpddamdkabaaDoor.State
set_option linter.unusedVariables false
theorem rx_okQ {R : Type} {D : Res R} {P : Program} {T : Tab R} (hT : TabOk D P T) (hmx : P.follows .mixedOrders = true) {root : Code} {n0 : Nat} {k : Exit → SS R → Prop} (n : Nat) {todo : List (It R)} {σ : SS R} {q : Prop} (hq : q)
    (e : rx D P T root n0 k n todo σ = q) : At D P root n0 k todo σ := rx_ok hT hmx n (by rw [e]; exact hq)
theorem rxS_okQ {R : Type} {D : Res R} {P : Program} {T : Tab R} (S : List (List Nat)) (hT : TabOk D P T) (hmx : P.follows .mixedOrders = true) {root : Code} {n0 : Nat} {k : Exit → SS R → Prop} (n : Nat) {todo : List (It R)} {σ : SS R} {q : Prop} (hq : q)
    (e : rxS S D P T root n0 k n todo σ = q) : At D P root n0 k todo σ := rxS_ok S hT hmx n (by rw [e]; exact hq)
theorem rxK_okQ {R : Type} {D : Res R} {P : Program} {T : Tab R} (S : List (List Nat × List Nat)) (hT : TabOk D P T) (hmx : P.follows .mixedOrders = true) {root : Code} {n0 : Nat} {k : Exit → SS R → Prop} (n : Nat) {todo : List (It R)} {σ : SS R} {q : Prop} (hq : q)
    (e : rxK S D P T root n0 k n todo σ = q) : At D P root n0 k todo σ := rxK_ok S hT hmx n (by rw [e]; exact hq)
end Go.Proofs.YtobdpddamdkabaaDoor.Rx
