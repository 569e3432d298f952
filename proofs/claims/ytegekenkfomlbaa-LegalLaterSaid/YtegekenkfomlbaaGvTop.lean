/- grove: the calls of a tree, as plain functions on a pool and a root. -/
import Derived.Test.YtegekenkfomlbaaGvD
namespace Go.Proofs.Ytegekenkfomlbaa.Gv
open Go.Proofs.Ytegekenkfomlbaa.Rx
set_option linter.unusedVariables false
section
variable {E A : Type} (O : Ops E A)
def fresh (e : E) : Node E A := ⟨e, r0, r0, one O e, 1⟩
def putF (K : Nat) (m : Po E A) (root : Ref) (e : E) : Bool × Ref × Po E A :=
  if (replace O K m root e).1 = true then (true, root, (replace O K m root e).2)
  else if (replace O K m root e).2.held = (replace O K m root e).2.cap then (false, root, put (zn O) (replace O K m root e).2 (fresh O e))
  else (true, (hang O K (put (zn O) (replace O K m root e).2 (fresh O e)) root (putR (zn O) (replace O K m root e).2) e).1, (hang O K (put (zn O) (replace O K m root e).2 (fresh O e)) root (putR (zn O) (replace O K m root e).2) e).2)
def PutD (K : Nat) (m : Po E A) (root : Ref) (e : E) : Prop :=
  Deep O K m root ∧ ((replace O K m root e).2.held ≠ (replace O K m root e).2.cap → POk 100000 (put (zn O) (replace O K m root e).2 (fresh O e)) ∧ Deep O K (put (zn O) (replace O K m root e).2 (fresh O e)) root)
def atF (K : Nat) (m : Po E A) (root : Ref) (i : Int) : (E × Bool) × Po E A :=
  if i < 0 ∨ i ≥ (lk O m root).all.n then ((O.e0, false), see m root)
  else (((nthF O K (see m root) (lk O m root) i).1, true), (nthF O K (see m root) (lk O m root) i).2)
def AtD (K : Nat) (m : Po E A) (root : Ref) (i : Int) : Prop := ¬ i < 0 → ¬ i ≥ (lk O m root).all.n → NthE O K (see m root) (lk O m root) i
/-- both trees' last and first elements, and the pool -/
def endsF (K : Nat) (m : Po E A) (rt ro : Ref) : (E × Bool) × (E × Bool) × Po E A :=
  ((atF O K (see m rt) rt (W ((lk O m rt).all.n - 1))).1, (atF O K (atF O K (see m rt) rt (W ((lk O m rt).all.n - 1))).2 ro 0).1, (atF O K (atF O K (see m rt) rt (W ((lk O m rt).all.n - 1))).2 ro 0).2)
def joinF (K : Nat) (m : Po E A) (rt ro : Ref) : Bool × Ref × Ref × Po E A :=
  if (endsF O K m rt ro).1.2 = true ∧ (endsF O K m rt ro).2.1.2 = true ∧ O.cmp (endsF O K m rt ro).1.1 (endsF O K m rt ro).2.1.1 ≥ 0 then (false, rt, ro, (endsF O K m rt ro).2.2)
  else (true, (glue O K (endsF O K m rt ro).2.2 rt ro).1, r0, (glue O K (endsF O K m rt ro).2.2 rt ro).2)
def JoinD (K : Nat) (m : Po E A) (rt ro : Ref) : Prop :=
  AtD O K (see m rt) rt (W ((lk O m rt).all.n - 1)) ∧ AtD O K (atF O K (see m rt) rt (W ((lk O m rt).all.n - 1))).2 ro 0 ∧
    POk 100000 (atF O K (see m rt) rt (W ((lk O m rt).all.n - 1))).2 ∧ POk 100000 (endsF O K m rt ro).2.2 ∧
    (¬ ((endsF O K m rt ro).1.2 = true ∧ (endsF O K m rt ro).2.1.2 = true ∧ O.cmp (endsF O K m rt ro).1.1 (endsF O K m rt ro).2.1.1 ≥ 0) → GlueD O K (endsF O K m rt ro).2.2 rt ro)
/-- an element, whether it was there, what is left, the pool -/
def dropF (K : Nat) (m : Po E A) (root : Ref) (e : E) : E × Bool × Ref × Po E A :=
  ((lk O (pick O K K m root e).2.2 (pick O K K m root e).2.1).e, has (pick O K K m root e).2.2 (pick O K K m root e).2.1, (pick O K K m root e).1, drop (zn O) (pick O K K m root e).2.2 (pick O K K m root e).2.1)
end
end Go.Proofs.Ytegekenkfomlbaa.Gv
