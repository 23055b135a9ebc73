/- What liquidity.Right asks of the plans of positions: none is empty, and each position's day finds its own. -/
import Derived.Test.YthajkhonapjihabLqY
set_option linter.unusedSimpArgs false
set_option linter.unusedVariables false
namespace Go.Proofs.Ythajkhonapjihab
open Go.RowKit Go.Lib Go.Proofs

set_option maxRecDepth 100000 in
set_option maxHeartbeats 1000000 in
theorem lqRightC_ok (d : Int) {r p : Int} (h : r ≠ 0 ∨ p ≠ 0) (w : World) : Calls Try.prog 58 #[.agg #[.int .i64 d, .int .i64 r, .int .i64 p]] w fun e w' => e = .returned (.bool false) ∧ Below w.heap.size w w' := by
  by_cases hr : r = 0
  · have hp : p ≠ 0 := by omega
    subst hr
    have hpb : (p == 0) = false := by rw [beq_eq_false_iff_ne]; exact hp
    go_enter Try.func58, Try.ntmps58
    go_wp2
    go_ret
    exact ⟨rfl, below_alloc w _⟩
  · have hrb : (r == 0) = false := by rw [beq_eq_false_iff_ne]; exact hr
    go_enter Try.func58, Try.ntmps58
    go_wp2
    go_ret
    exact ⟨rfl, below_alloc w _⟩

/-- Where a position's day stands among the days of the plans, its own plan stands. -/
theorem plan_at {b : Bnd} {l : List Pos} (h : (daysP l).Pairwise (· < ·)) {x : Pos} (hx : x ∈ l) (hd : x.day ∈ daysL (plansM b l)) :
    ∃ k, ∃ hk : k < (plansM b l).length, (daysL (plansM b l)).countP (fun d => decide (d < x.day)) = k ∧ (plansM b l)[k] = ⟨x.day, decR b x.amt, decP b x.amt⟩ := by
  obtain ⟨k, hk, he⟩ := List.getElem_of_mem hd
  have hk' : k < (plansM b l).length := by rw [daysL_len] at hk; exact hk
  refine ⟨k, hk', ?_, ?_⟩
  · rw [← he]
    exact count_at _ (plans_pair b h) k hk
  · obtain ⟨y, hy, hp, _⟩ := plans_mem (List.getElem_mem hk')
    have h1 : (plansM b l)[k].day = x.day := by rw [← he]; simp [daysL]
    rw [hp] at h1
    obtain rfl := day_inj h hy hx h1
    exact hp

end Go.Proofs.Ythajkhonapjihab
