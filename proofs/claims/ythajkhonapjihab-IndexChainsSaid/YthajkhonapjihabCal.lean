/- Contracts of the functions of package calendar that only compute with numbers; no condition but that the numbers are int64s. -/
import Derived.Test.YthajkhonapjihabBase
import Derived.Test.YthajkhonapjihabCalD
namespace Go.Proofs.Ythajkhonapjihab
open Go.RowKit Go.Lib Go.Proofs

theorem cMonth_yes (d : Int) (w : World) (h : dayB d = true) :
    Calls Try.prog 35 #[.int .i64 d] w fun e w' => e = .returned (.int .i64 (d / 30)) ∧ w = w' := by
  obtain ⟨h0, h1⟩ := dayB_true.1 h
  have H := Lib.hid h
  clear h
  go_enter Try.func35, Try.ntmps35
  go_wp2_with (go_at_call 68; refine (cValid_yes _ H.out).mono ?_; rintro e w' ⟨rfl, rfl⟩)
  go_ret
  exact ⟨rfl, rfl⟩
theorem cMonth_no (d : Int) (w : World) (h : dayB d = false) :
    Calls Try.prog 35 #[.int .i64 d] w fun e w' => e = .returned (.int .i64 (-1)) ∧ w = w' := by
  have H := Lib.hid h
  clear h
  go_enter Try.func35, Try.ntmps35
  go_wp2_with (go_at_call 68; refine (cValid_no _ H.out).mono ?_; rintro e w' ⟨rfl, rfl⟩)
  go_ret
  exact ⟨rfl, rfl⟩

/-- n is a business day. -/
def busB (n : Int) : Bool := decide ((0 ≤ n ∧ n ≤ 36000) ∧ n % 7 < 5)
theorem busB_true {n : Int} : busB n = true ↔ (0 ≤ n ∧ n ≤ 36000) ∧ n % 7 < 5 := decide_eq_true_iff
theorem busB_false {n : Int} : busB n = false ↔ ¬ ((0 ≤ n ∧ n ≤ 36000) ∧ n % 7 < 5) := decide_eq_false_iff_not

/-- The first day that is none of the last two of its week. -/
def nextI (d : Int) : Int := if d % 7 < 5 then d else d + 7 - d % 7
theorem nextI_facts (d : Int) (h : 0 ≤ d) : d ≤ nextI d ∧ nextI d ≤ d + 2 ∧ nextI d % 7 < 5 ∧ ∀ k, d ≤ k → k < nextI d → ¬ k % 7 < 5 := by
  unfold nextI
  split
  · exact ⟨by omega, by omega, by omega, fun k _ _ => by omega⟩
  · exact ⟨by omega, by omega, by omega, fun k _ _ => by omega⟩

/-- How many business days lie before a day. -/
def bbI (d : Int) : Int := d / 7 * 5 + min (d % 7) 5

theorem bbI_mono {a b : Int} (h : a ≤ b) : bbI a ≤ bbI b := by unfold bbI; omega
theorem bbI_bd {a : Int} (h0 : 0 ≤ a) (h : a ≤ 36000) : 0 ≤ bbI a ∧ bbI a ≤ 36000 := by unfold bbI; omega
theorem bbI_succ (d : Int) : bbI (d + 1) = bbI d + if d % 7 < 5 then 1 else 0 := by unfold bbI; split <;> omega

/-- Count: the number, and the error. -/
def countI (a b : Int) : Int × Int := if (dayB a && dayB b) = true then (if b < a then (0, 8) else (bbI b - bbI a, 0)) else (0, 2)

/-- Months: the day, and the error. -/
def monthsI (d n : Int) : Int × Int := if (dayB d && inB n (-36000) 36000) = true then checkedI (d + n * 30) else (0, 2)

end Go.Proofs.Ythajkhonapjihab
