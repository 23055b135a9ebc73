/- Contracts of the account's own last, Next, chosen, Flow. -/
import Derived.Test.YtoelidndnajedabMAcT
import Derived.Test.YtoelidndnajedabMAcO
import Derived.Test.YtoelidndnajedabMG3
set_option linter.unusedSimpArgs false
set_option linter.unusedVariables false
set_option linter.unusedSimpArgs false
set_option linter.unusedVariables false
namespace Go.Proofs.Ytoelidndnajedab
open Go.RowKit Go.Lib Go.Proofs

/-- A test that is called with one entry. -/
def EntTest (f : Nat) (lb : Array Value) (p : Ent → Bool) (xs : List Ent) (Old : World → Prop) : Prop :=
  ∀ x ∈ xs, ∀ W, Old W → Calls Try.prog f (#[.agg x.cells.toArray] ++ lb) W fun e W' => e = .returned (.bool (p x)) ∧ Below W.heap.size W W'
theorem ent_one (x : Ent) : ∀ u ∈ x.cells, u.oneCell' = true := entF.one x
theorem filter_take_snoc {p : Ent → Bool} {es : List Ent} {k : Nat} (hk : k < es.length) : (es.take (k + 1)).filter p = (es.take k).filter p ++ (if p (entAt es k) = true then [entAt es k] else []) := by
  rw [List.take_succ_eq_append_getElem hk, List.filter_append, entAt_get hk]
  congr 1
  cases hp : p es[k] <;> simp [hp]

end Go.Proofs.Ytoelidndnajedab
