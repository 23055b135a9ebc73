/- accrual.percent, money.Percent, receipt.Claim of a right claim. -/
import Derived.Test.YtebgfbcojhmdlaaDoorSfClm
import Derived.Test.YtebgfbcojhmdlaaDoorClParts
import Derived.Test.YtebgfbcojhmdlaaDoorPut
import Derived.Test.YtebgfbcojhmdlaaDoorSrc
import Derived.Test.YtebgfbcojhmdlaaDoorMonF
import Derived.Deep.DeepCutAuto
set_option linter.unusedSimpArgs false
set_option linter.unusedVariables false
namespace Go.Proofs.YtebgfbcojhmdlaaDoor
open Go.RowKit Go.Lib Go.Proofs

/-! ### A right claim -/
structure ClmOk (c : Clm) : Prop where
  id : 1 ≤ c.id ∧ c.id ≤ 1000000
  payer : 1 ≤ c.payer ∧ c.payer ≤ 1000000
  amt : 1 ≤ c.amt ∧ c.amt ≤ 1000000000000
  opn : 0 ≤ c.opn ∧ c.opn ≤ c.amt
  day : 0 ≤ c.day ∧ c.day ≤ 36000
  code : c.code = ⟨#[49]⟩

theorem parts_one : partsN ⟨#[49]⟩ = [1] := by kernel_rfl

end Go.Proofs.YtebgfbcojhmdlaaDoor
