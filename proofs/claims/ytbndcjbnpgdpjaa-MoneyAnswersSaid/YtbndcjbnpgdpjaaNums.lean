/- Contracts of the functions of package money, and of its reference, that only compute with numbers; no condition but that the numbers are int64s. -/
import Derived.Test.YtbndcjbnpgdpjaaRows
import Derived.WalkKit
import Derived.WalkSpells
import Derived.WalkLawsBesides
import Derived.Lib.Hide
namespace Go.Proofs.Ytbndcjbnpgdpjaa
open Go.RowKit

/-- n is from lo to hi. -/
def inB (n lo hi : Int) : Bool := decide (lo ≤ n ∧ n ≤ hi)

theorem inB_true {n lo hi : Int} : inB n lo hi = true ↔ lo ≤ n ∧ n ≤ hi := by unfold inB; simp
theorem inB_false {n lo hi : Int} : inB n lo hi = false ↔ ¬ (lo ≤ n ∧ n ≤ hi) := by unfold inB; exact decide_eq_false_iff_not

set_option maxHeartbeats 400000 in
theorem within_any (n lo hi : Int) (w : World) :
    Calls Try.prog 27 #[.int .i64 n, .int .i64 lo, .int .i64 hi] w fun e w' => e = .returned (.bool (inB n lo hi)) ∧ w = w' := by
  by_cases h1 : lo ≤ n
  · by_cases h2 : n ≤ hi
    · have h : inB n lo hi = true := inB_true.2 ⟨h1, h2⟩
      rw [h]; clear h
      go_enter Try.func27, Try.ntmps27
      go_wp2
      go_ret
      exact ⟨rfl, rfl⟩
    · have h : inB n lo hi = false := inB_false.2 (fun q => h2 q.2)
      rw [h]; clear h
      go_enter Try.func27, Try.ntmps27
      go_wp2
      go_ret
      exact ⟨rfl, rfl⟩
  · have h : inB n lo hi = false := inB_false.2 (fun q => h1 q.1)
    rw [h]; clear h
    go_enter Try.func27, Try.ntmps27
    go_wp2
    go_ret
    exact ⟨rfl, rfl⟩

theorem within_yes {n lo hi : Int} (w : World) (h : inB n lo hi = true) :
    Calls Try.prog 27 #[.int .i64 n, .int .i64 lo, .int .i64 hi] w fun e w' => e = .returned (.bool true) ∧ w = w' := by
  have := within_any n lo hi w; rw [h] at this; exact this
theorem within_no {n lo hi : Int} (w : World) (h : inB n lo hi = false) :
    Calls Try.prog 27 #[.int .i64 n, .int .i64 lo, .int .i64 hi] w fun e w' => e = .returned (.bool false) ∧ w = w' := by
  have := within_any n lo hi w; rw [h] at this; exact this

set_option maxHeartbeats 400000 in
theorem weight_any (n : Int) (w : World) :
    Calls Try.prog 28 #[.int .i64 n] w fun e w' => e = .returned (.bool (inB n 0 1000000)) ∧ w = w' := by
  go_enter Try.func28, Try.ntmps28
  go_wp2_with (go_at_call 27; refine (within_any _ _ _ _).mono ?_; rintro e w' ⟨rfl, rfl⟩)
  go_ret
  exact ⟨rfl, rfl⟩

set_option maxHeartbeats 400000 in
theorem Valid_any (n : Int) (w : World) :
    Calls Try.prog 16 #[.int .i64 n] w fun e w' => e = .returned (.bool (inB n 0 1000000000000)) ∧ w = w' := by
  go_enter Try.func16, Try.ntmps16
  go_wp2_with (go_at_call 27; refine (within_any _ _ _ _).mono ?_; rintro e w' ⟨rfl, rfl⟩)
  go_ret
  exact ⟨rfl, rfl⟩

set_option maxHeartbeats 400000 in
theorem Total_any (n : Int) (w : World) :
    Calls Try.prog 18 #[.int .i64 n] w fun e w' => e = .returned (.bool (inB n (-1000000000000000) 1000000000000000)) ∧ w = w' := by
  go_enter Try.func18, Try.ntmps18
  go_wp2_with (go_at_call 27; refine (within_any _ _ _ _).mono ?_; rintro e w' ⟨rfl, rfl⟩)
  go_ret
  exact ⟨rfl, rfl⟩

theorem weight_yes {n : Int} (w : World) (h : inB n 0 1000000 = true) :
    Calls Try.prog 28 #[.int .i64 n] w fun e w' => e = .returned (.bool true) ∧ w = w' := by
  have := weight_any n w; rw [h] at this; exact this
theorem weight_no {n : Int} (w : World) (h : inB n 0 1000000 = false) :
    Calls Try.prog 28 #[.int .i64 n] w fun e w' => e = .returned (.bool false) ∧ w = w' := by
  have := weight_any n w; rw [h] at this; exact this
theorem Valid_yes {n : Int} (w : World) (h : inB n 0 1000000000000 = true) :
    Calls Try.prog 16 #[.int .i64 n] w fun e w' => e = .returned (.bool true) ∧ w = w' := by
  have := Valid_any n w; rw [h] at this; exact this
theorem Valid_no {n : Int} (w : World) (h : inB n 0 1000000000000 = false) :
    Calls Try.prog 16 #[.int .i64 n] w fun e w' => e = .returned (.bool false) ∧ w = w' := by
  have := Valid_any n w; rw [h] at this; exact this

set_option maxHeartbeats 400000 in
/-- Percent where both arguments are within their ranges. -/
theorem Percent_ok (a p : Int) (w : World) (ha : inB a 0 1000000000000 = true) (hp : inB p 0 100 = true) :
    Calls Try.prog 12 #[.int .i64 a, .int .i64 p] w fun e w' => e = .returned (.tuple #[.int .i64 (a * p / 100), .int .i64 0]) ∧ w = w' := by
  obtain ⟨a0, a1⟩ := inB_true.1 ha
  obtain ⟨p0, p1⟩ := inB_true.1 hp
  have h1 : 0 ≤ a * p := Int.mul_nonneg a0 p0
  have h2 : a * p ≤ 1000000000000 * 100 := Int.mul_le_mul a1 p1 p0 (by omega)
  go_enter Try.func12, Try.ntmps12
  go_wp2_with (first | (go_at_call 16; refine (Valid_yes _ ha).mono ?_; rintro e w' ⟨rfl, rfl⟩) | (go_at_call 27; refine (within_yes _ hp).mono ?_; rintro e w' ⟨rfl, rfl⟩))
  go_ret2
  exact ⟨rfl, rfl⟩

/-- Twice the exact share plus a half, over twice the denominator. -/
def shareI (a n d : Int) : Int := (2 * a * n + d) / (2 * d)

set_option maxHeartbeats 400000 in
/-- Share where the arguments are within their ranges and the result is an amount. -/
theorem Share_ok (a n d : Int) (w : World) (ha : inB a 0 1000000000000 = true) (hn : inB n 0 1000000 = true) (hd : inB d 1 1000000 = true) (hs : inB (shareI a n d) 0 1000000000000 = true) :
    Calls Try.prog 14 #[.int .i64 a, .int .i64 n, .int .i64 d] w fun e w' => e = .returned (.tuple #[.int .i64 (shareI a n d), .int .i64 0]) ∧ w = w' := by
  obtain ⟨a0, a1⟩ := inB_true.1 ha
  obtain ⟨n0, n1⟩ := inB_true.1 hn
  obtain ⟨d0, d1⟩ := inB_true.1 hd
  have h1 : 0 ≤ 2 * a * n := Int.mul_nonneg (by omega) n0
  have h2 : 2 * a * n ≤ 2000000000000 * 1000000 := Int.mul_le_mul (by omega) n1 n0 (by omega)
  go_enter Try.func14, Try.ntmps14
  go_wp2_with fail
  refine (Valid_yes _ ha).mono ?_
  rintro e w' ⟨rfl, rfl⟩
  go_wp2_with (first | (go_at_call 28; refine (weight_yes _ hn).mono ?_; rintro e w' ⟨rfl, rfl⟩) | (go_at_call 27; refine (within_yes _ hd).mono ?_; rintro e w' ⟨rfl, rfl⟩) | (go_at_call 16; refine (Valid_yes _ hs).mono ?_; rintro e w' ⟨rfl, rfl⟩))
  go_ret2
  exact ⟨rfl, rfl⟩

set_option maxHeartbeats 400000 in
/-- Share where the arguments are within their ranges and the result is no amount. -/
theorem Share_big (a n d : Int) (w : World) (ha : inB a 0 1000000000000 = true) (hn : inB n 0 1000000 = true) (hd : inB d 1 1000000 = true) (hs : inB (shareI a n d) 0 1000000000000 = false) :
    Calls Try.prog 14 #[.int .i64 a, .int .i64 n, .int .i64 d] w fun e w' => e = .returned (.tuple #[.int .i64 0, .int .i64 2]) ∧ w = w' := by
  obtain ⟨a0, a1⟩ := inB_true.1 ha
  obtain ⟨n0, n1⟩ := inB_true.1 hn
  obtain ⟨d0, d1⟩ := inB_true.1 hd
  have h1 : 0 ≤ 2 * a * n := Int.mul_nonneg (by omega) n0
  have h2 : 2 * a * n ≤ 2000000000000 * 1000000 := Int.mul_le_mul (by omega) n1 n0 (by omega)
  go_enter Try.func14, Try.ntmps14
  go_wp2_with fail
  refine (Valid_yes _ ha).mono ?_
  rintro e w' ⟨rfl, rfl⟩
  go_wp2_with (first | (go_at_call 28; refine (weight_yes _ hn).mono ?_; rintro e w' ⟨rfl, rfl⟩) | (go_at_call 27; refine (within_yes _ hd).mono ?_; rintro e w' ⟨rfl, rfl⟩) | (go_at_call 16; refine (Valid_no _ hs).mono ?_; rintro e w' ⟨rfl, rfl⟩))
  go_ret2
  exact ⟨rfl, rfl⟩

end Go.Proofs.Ytbndcjbnpgdpjaa
