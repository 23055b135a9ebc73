/- slices.IndexFunc and ContainsFunc at Clm, for every predicate that returns; for rows of up to 10^6 elements. -/
import Derived.Test.YtebgfbcojhmdlaaDoorAaM
import Derived.Test.YtebgfbcojhmdlaaDoorSfun
set_option linter.unusedSimpArgs false
set_option linter.unusedVariables false
namespace Go.Proofs.YtebgfbcojhmdlaaDoor
open Go.RowKit Go.Lib Go.Proofs

/-- A predicate that is called with one Clm. -/
def clmPred (f : Nat) (lb : Array Value) (p : Clm → Bool) (xs : List Clm) (Old : World → Prop) : Prop :=
  ∀ x ∈ xs, ∀ W, Old W → Calls Tryd.prog f (#[.agg (clmC x).toArray] ++ lb) W fun e W' => e = .returned (.bool (p x)) ∧ Below W.heap.size W W'

end Go.Proofs.YtebgfbcojhmdlaaDoor
