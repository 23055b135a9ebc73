/- A right tax; of no function of the program; no condition. -/
import Derived.Test.YtebgfbcojhmdlaaDoorTaX
import Derived.Test.YtebgfbcojhmdlaaDoorClParts
set_option linter.unusedSimpArgs false
set_option linter.unusedVariables false
namespace Go.Proofs.YtebgfbcojhmdlaaDoor
open Go.RowKit Go.Lib Go.Proofs

/-- A right tax, with a base of at most ten millions. -/
structure TxG (t : Tx) : Prop where
  code : 0 < (partsN t.code).length ∧ t.code.size ≤ 1000000
  payer : 1 ≤ t.payer ∧ t.payer ≤ 1000000
  base : 0 ≤ t.base ∧ t.base ≤ 10000000
  den : 1 ≤ t.den ∧ t.den ≤ 1000000
  num : 0 ≤ t.num ∧ t.num ≤ t.den
  fst : 0 ≤ t.fst ∧ t.fst ≤ 10000
  evr : 1 ≤ t.evr ∧ t.evr ≤ 60
  tms : 1 ≤ t.tms ∧ t.tms ≤ 10

end Go.Proofs.YtebgfbcojhmdlaaDoor
