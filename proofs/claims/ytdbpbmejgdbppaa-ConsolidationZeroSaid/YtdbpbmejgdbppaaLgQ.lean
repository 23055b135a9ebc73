/- Contracts of package ledger's closures on days, and of Of. -/
import Derived.Test.YtdbpbmejgdbppaaLgO
set_option linter.unusedSimpArgs false
set_option linter.unusedVariables false
namespace Go.Proofs.Ytdbpbmejgdbppaa
open Go.RowKit Go.Lib Go.Proofs Go.Maps

set_option maxHeartbeats 400000 in
theorem lgBalancesC_any (d day : Int) (b : Nat) (w : World) (h : w.cell? ⟨b, 0, none⟩ = some (.int .i64 day)) :
    Calls Try.prog 44 #[.int .i64 d, .pointer (some ⟨b, 0, none⟩)] w fun e w' => e = .returned (.bool (decide (d ≤ day))) ∧ Below w.heap.size w w' := by
  by_cases hd : d ≤ day
  · rw [decide_eq_true hd]
    go_enter Try.func44, Try.ntmps44
    go_wp2
    go_ret
    exact ⟨rfl, Below.refl _ _⟩
  · rw [decide_eq_false hd]
    go_enter Try.func44, Try.ntmps44
    go_wp2
    go_ret
    exact ⟨rfl, Below.refl _ _⟩
abbrev byDay (day : Int) : Int → Bool := fun d => decide (d ≤ day)
abbrev ereDay (day : Int) : Int → Bool := fun d => decide (d < day)
abbrev amidDay (lo hi : Int) : Int → Bool := fun d => decide (lo ≤ d) && decide (d ≤ hi)

end Go.Proofs.Ytdbpbmejgdbppaa
