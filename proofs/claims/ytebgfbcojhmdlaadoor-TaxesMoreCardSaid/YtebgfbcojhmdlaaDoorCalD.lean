/- Contracts of calendar.within, Valid, checked, dateOf and Day. -/
import Derived.Test.YtebgfbcojhmdlaaDoorBase
namespace Go.Proofs.YtebgfbcojhmdlaaDoor
open Go.RowKit Go.Lib Go.Proofs

set_option maxHeartbeats 400000 in
theorem cwithin_any (n lo hi : Int) (w : World) :
    Calls Tryd.prog 37 #[.int .i64 n, .int .i64 lo, .int .i64 hi] w fun e w' => e = .returned (.bool (inB n lo hi)) ∧ w = w' := by
  by_cases h1 : lo ≤ n
  · by_cases h2 : n ≤ hi
    · have h : inB n lo hi = true := inB_true.2 ⟨h1, h2⟩
      rw [h]; clear h
      go_enter Tryd.func37, Tryd.ntmps37
      go_wp2
      go_ret
      exact ⟨rfl, rfl⟩
    · have h : inB n lo hi = false := inB_false.2 (fun q => h2 q.2)
      rw [h]; clear h
      go_enter Tryd.func37, Tryd.ntmps37
      go_wp2
      go_ret
      exact ⟨rfl, rfl⟩
  · have h : inB n lo hi = false := inB_false.2 (fun q => h1 q.1)
    rw [h]; clear h
    go_enter Tryd.func37, Tryd.ntmps37
    go_wp2
    go_ret
    exact ⟨rfl, rfl⟩

theorem cwithin_yes {n lo hi : Int} (w : World) (h : inB n lo hi = true) :
    Calls Tryd.prog 37 #[.int .i64 n, .int .i64 lo, .int .i64 hi] w fun e w' => e = .returned (.bool true) ∧ w = w' := by
  have := cwithin_any n lo hi w; rw [h] at this; exact this
theorem cwithin_no {n lo hi : Int} (w : World) (h : inB n lo hi = false) :
    Calls Tryd.prog 37 #[.int .i64 n, .int .i64 lo, .int .i64 hi] w fun e w' => e = .returned (.bool false) ∧ w = w' := by
  have := cwithin_any n lo hi w; rw [h] at this; exact this

/-- n is a day. -/
def dayB (n : Int) : Bool := inB n 0 36000
theorem dayB_true {n : Int} : dayB n = true ↔ 0 ≤ n ∧ n ≤ 36000 := inB_true
theorem dayB_false {n : Int} : dayB n = false ↔ ¬ (0 ≤ n ∧ n ≤ 36000) := inB_false

theorem cValid_any (n : Int) (w : World) :
    Calls Tryd.prog 29 #[.int .i64 n] w fun e w' => e = .returned (.bool (dayB n)) ∧ w = w' := by
  go_enter Tryd.func29, Tryd.ntmps29
  go_wp2_with (go_at_call 37; refine (cwithin_any _ _ _ _).mono ?_; rintro e w' ⟨rfl, rfl⟩)
  go_ret
  exact ⟨rfl, rfl⟩
theorem cValid_yes {n : Int} (w : World) (h : dayB n = true) :
    Calls Tryd.prog 29 #[.int .i64 n] w fun e w' => e = .returned (.bool true) ∧ w = w' := by
  have := cValid_any n w; rw [h] at this; exact this
theorem cValid_no {n : Int} (w : World) (h : dayB n = false) :
    Calls Tryd.prog 29 #[.int .i64 n] w fun e w' => e = .returned (.bool false) ∧ w = w' := by
  have := cValid_any n w; rw [h] at this; exact this

/-- A day, or nothing and ErrRange. -/
def checkedI (n : Int) : Int × Int := if dayB n = true then (n, 0) else (0, 2)

/-- Day: the day, and the error. -/
def dayI (y m d : Int) : Int × Int := if (inB y 0 100 && inB m 1 12 && inB d 1 30) = true then checkedI (y * 360 + (m - 1) * 30 + d - 1) else (0, 2)

theorem checked_yes {n : Int} (h : dayB n = true) : checkedI n = (n, 0) := by unfold checkedI; rw [if_pos h]
theorem checked_no {n : Int} (h : dayB n = false) : checkedI n = (0, 2) := by unfold checkedI; rw [h]; rfl

end Go.Proofs.YtebgfbcojhmdlaaDoor
