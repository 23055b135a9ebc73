/- Contracts of auction.Pay, reopening.Given (at the chapter's example) and reopening.Cost, for securities that are right. -/
import Derived.Test.YtblidmkkbcobgaaMCoup
import Derived.Test.YtblidmkkbcobgaaMG3
set_option linter.unusedSimpArgs false
set_option linter.unusedVariables false
set_option linter.unusedSimpArgs false
set_option linter.unusedVariables false
namespace Go.Proofs.Ytblidmkkbcobgaa
open Go.RowKit Go.Lib Go.Proofs

def payI (a p : Int) : Int := (2 * a * p + 100000) / 200000
theorem pay_in {a p : Int} (a0 : 0 ≤ a) (a1 : a ≤ 1000000) (p0 : 0 ≤ p) (p1 : p ≤ 200000) : 0 ≤ 2 * a * p ∧ 2 * a * p ≤ 400000000000 ∧ 0 ≤ payI a p ∧ payI a p ≤ 2000001 := by
  have h0 : 0 ≤ 2 * a * p := Int.mul_nonneg (by omega) p0
  have h1 : 2 * a * p ≤ 2000000 * 200000 := Int.mul_le_mul (by omega) p1 p0 (by decide)
  unfold payI
  omega

def costI (s : Sec) (d a p : Int) : Int := payI a p + accruedI s a d

end Go.Proofs.Ytblidmkkbcobgaa
