/- The walk of LiquidityCosts: interest adds up over days, is 0 without rates, and never falls with the rate of what is raised; for every tape. -/
import Derived.Test.YthajkhonapjihabLqI
set_option linter.unusedSimpArgs false
set_option linter.unusedVariables false
namespace Go.Proofs.Ythajkhonapjihab
open Go.RowKit Go.Lib Go.Proofs

theorem plansM_in {b : Bnd} (h : BndOk b) : ∀ l : List Pos, ∀ p ∈ plansM b l, 0 ≤ p.raise ∧ p.raise ≤ 1000000000000 ∧ 0 ≤ p.place ∧ p.place ≤ 1000000000000
  | [], p, hp => by simp [plansM] at hp
  | x :: l, p, hp => by
    simp only [plansM, List.mem_append] at hp
    rcases hp with hp | hp
    · unfold planOf at hp
      split at hp
      · rw [List.mem_singleton] at hp
        subst hp
        simp only
        unfold decR decP
        cases hk : okB b x.amt with
        | true =>
          unfold okB at hk
          obtain ⟨h1, h2, _⟩ := enoughB_iff.1 hk
          have := h.mr1
          have := h.mp1
          simp only [if_true]
          omega
        | false => simp
      · simp at hp
    · exact plansM_in h l p hp
theorem plIn_of {b : Bnd} (h : BndOk b) {l : List Pos} (hl : l.length ≤ 8) : PlIn (plansM b l) := ⟨plansM_in h l, by have := plansM_len b l; omega⟩
theorem forDay_zero (a : Int) : forDayI a 0 = 0 := by unfold forDayI; omega
theorem interest_zero : ∀ l : List Pl, interestM 0 0 l = 0
  | [] => rfl
  | p :: l => by simp only [interestM, forDay_zero, interest_zero l]; decide
theorem interest_mono {q1 q2 q : Int} (hq : q1 ≤ q2) : ∀ l : List Pl, (∀ p ∈ l, 0 ≤ p.raise ∧ p.raise ≤ 1000000000000 ∧ 0 ≤ p.place ∧ p.place ≤ 1000000000000) → interestM q1 q l ≤ interestM q2 q l
  | [], _ => by simp [interestM]
  | p :: l, h => by
    have ih := interest_mono (q := q) hq l fun x hx => h x (List.mem_cons_of_mem _ hx)
    obtain ⟨h1, h2, h3, h4⟩ := h p (List.mem_cons_self ..)
    have : 2 * p.raise * q1 ≤ 2 * p.raise * q2 := Int.mul_le_mul_of_nonneg_left hq (by omega)
    simp only [interestM]
    unfold forDayI
    omega

end Go.Proofs.Ythajkhonapjihab
