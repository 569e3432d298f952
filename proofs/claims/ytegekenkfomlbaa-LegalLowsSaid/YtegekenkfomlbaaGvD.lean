/- grove: what between asks of a pool. -/
import Derived.Test.YtegekenkfomlbaaGvOk
namespace Go.Proofs.Ytegekenkfomlbaa.Gv
open Go.Proofs.Ytegekenkfomlbaa.Rx
set_option linter.unusedVariables false
section
variable {E A : Type} (O : Ops E A)
/-- as many rounds suffice -/
def BetE : Nat → Po E A → Node E A → Int → Int → Prop
  | 0, _, _, _, _ => False
  | k + 1, m, n, from_, to =>
    ¬ mx from_ 0 ≥ mn to n.all.n → ¬ (mx from_ 0 = 0 ∧ mn to n.all.n = n.all.n) →
      BetE k (see m n.l) (lk O m n.l) (mx from_ 0) (mn to n.all.n) ∧
      (¬ mn to n.all.n ≤ W ((lk O m n.l).all.n + 1) →
        BetE k (see (between O k (see m n.l) (lk O m n.l) (mx from_ 0) (mn to n.all.n)).2 n.r) (lk O (between O k (see m n.l) (lk O m n.l) (mx from_ 0) (mn to n.all.n)).2 n.r)
          (W (W (mx from_ 0 - (lk O m n.l).all.n) - 1)) (W (W (mn to n.all.n - (lk O m n.l).all.n) - 1)))
/-- as many rounds of a loop suffice -/
def FindE : Nat → Po E A → Node E A → E → Prop
  | 0, _, _, _ => False
  | k + 1, m, n, e => n.h > 0 → O.cmp e n.e ≠ 0 → (O.cmp e n.e < 0 → FindE k (see m n.l) (lk O m n.l) e) ∧ (¬ O.cmp e n.e < 0 → FindE k (see m n.r) (lk O m n.r) e)
def RankE : Nat → Po E A → Node E A → E → Int → Prop
  | 0, _, _, _, _ => False
  | k + 1, m, n, e, c => n.h > 0 → (O.cmp e n.e ≤ 0 → RankE k (see m n.l) (lk O m n.l) e c) ∧ (¬ O.cmp e n.e ≤ 0 → RankE k (see m n.r) (lk O m n.r) e (W (c + W (n.all.n - (lk O m n.r).all.n))))
def NthE : Nat → Po E A → Node E A → Int → Prop
  | 0, _, _, _ => False
  | k + 1, m, n, i => i ≠ (lk O m n.l).all.n → (i < (lk O m n.l).all.n → NthE k (see m n.l) (lk O m n.l) i) ∧
    (¬ i < (lk O m n.l).all.n → NthE k (see (see m n.l) n.r) (lk O (see m n.l) n.r) (W (i - W ((lk O m n.l).all.n + 1))))
theorem DeepN_of {O : Ops E A} : ∀ {k : Nat} {m m' : Po E A} {r : Ref}, Deep O k m r → (∀ s, lk O m' s = lk O m s) → DeepN O k m' (lk O m r)
  | 0, _, _, _, h, _ => h
  | k + 1, m, m', r, h, hl => by
    rcases h with h | h
    · exact .inl h
    · exact .inr ⟨(Deep_of hl).2 h.1, (Deep_of hl).2 h.2⟩
end
end Go.Proofs.Ytegekenkfomlbaa.Gv
