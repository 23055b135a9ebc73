/- Contracts of package ledger's closures on days, and of Of. -/
import Derived.Test.YtoccnindkimjdaaMLgO
set_option linter.unusedSimpArgs false
set_option linter.unusedVariables false
set_option linter.unusedSimpArgs false
set_option linter.unusedVariables false
namespace Go.Proofs.Ytoccnindkimjdaa
open Go.RowKit Go.Lib Go.Proofs Go.Maps

set_option maxHeartbeats 400000 in
theorem lgStatementC3_any (d day : Int) (b : Nat) (w : World) (h : w.cell? ⟨b, 0, none⟩ = some (.int .i64 day)) :
    Calls Try.prog 76 #[.int .i64 d, .pointer (some ⟨b, 0, none⟩)] w fun e w' => e = .returned (.bool (decide (d ≤ day))) ∧ Below w.heap.size w w' := by
  by_cases hd : d ≤ day
  · rw [decide_eq_true hd]
    go_enter Try.func76, Try.ntmps76
    go_wp2
    go_ret
    exact ⟨rfl, Below.refl _ _⟩
  · rw [decide_eq_false hd]
    go_enter Try.func76, Try.ntmps76
    go_wp2
    go_ret
    exact ⟨rfl, Below.refl _ _⟩
set_option maxHeartbeats 400000 in
theorem lgStatementC1_any (d day : Int) (b : Nat) (w : World) (h : w.cell? ⟨b, 0, none⟩ = some (.int .i64 day)) :
    Calls Try.prog 74 #[.int .i64 d, .pointer (some ⟨b, 0, none⟩)] w fun e w' => e = .returned (.bool (decide (d < day))) ∧ Below w.heap.size w w' := by
  by_cases hd : d < day
  · rw [decide_eq_true hd]
    go_enter Try.func74, Try.ntmps74
    go_wp2
    go_ret
    exact ⟨rfl, Below.refl _ _⟩
  · rw [decide_eq_false hd]
    go_enter Try.func74, Try.ntmps74
    go_wp2
    go_ret
    exact ⟨rfl, Below.refl _ _⟩
set_option maxHeartbeats 400000 in
theorem lgStatementC2_any (d lo hi : Int) (b c : Nat) (w : World) (h : w.cell? ⟨b, 0, none⟩ = some (.int .i64 lo)) (h2 : w.cell? ⟨c, 0, none⟩ = some (.int .i64 hi)) :
    Calls Try.prog 75 #[.int .i64 d, .pointer (some ⟨b, 0, none⟩), .pointer (some ⟨c, 0, none⟩)] w fun e w' => e = .returned (.bool (decide (lo ≤ d) && decide (d ≤ hi))) ∧ Below w.heap.size w w' := by
  by_cases hd : lo ≤ d
  · rw [decide_eq_true hd]
    by_cases hd2 : d ≤ hi
    · rw [decide_eq_true hd2]
      go_enter Try.func75, Try.ntmps75
      go_wp2
      go_ret
      exact ⟨rfl, Below.refl _ _⟩
    · rw [decide_eq_false hd2]
      go_enter Try.func75, Try.ntmps75
      go_wp2
      go_ret
      exact ⟨rfl, Below.refl _ _⟩
  · rw [decide_eq_false hd]
    go_enter Try.func75, Try.ntmps75
    go_wp2
    go_ret
    exact ⟨rfl, Below.refl _ _⟩

abbrev byDay (day : Int) : Int → Bool := fun d => decide (d ≤ day)
abbrev ereDay (day : Int) : Int → Bool := fun d => decide (d < day)
abbrev amidDay (lo hi : Int) : Int → Bool := fun d => decide (lo ≤ d) && decide (d ≤ hi)

end Go.Proofs.Ytoccnindkimjdaa
