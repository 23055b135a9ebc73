/- money.Share of amounts up to ten millions (as in IxF). -/
import Derived.Test.YtebgfbcojhmdlaaDoorMonF
set_option linter.unusedSimpArgs false
set_option linter.unusedVariables false
namespace Go.Proofs.YtebgfbcojhmdlaaDoor
open Go.RowKit Go.Lib Go.Proofs

set_option maxHeartbeats 400000 in
theorem weight_any (n : Int) (w : World) : Calls Tryd.prog 24 #[.int .i64 n] w fun e w' => e = .returned (.bool (inB n (0) 1000000)) ∧ w = w' := by
  go_enter Tryd.func24, Tryd.ntmps24
  go_wp2_with (go_at_call 25; refine (within_any _ _ _ _).mono ?_; rintro e w' ⟨rfl, rfl⟩)
  go_ret
  exact ⟨rfl, rfl⟩
theorem weight_yes {n : Int} (w : World) (h0 : 0 ≤ n) (h1 : n ≤ 1000000) : Calls Tryd.prog 24 #[.int .i64 n] w fun e w' => e = .returned (.bool true) ∧ w = w' := by
  have := weight_any n w; rw [inB_true.2 ⟨h0, h1⟩] at this; exact this

def scaleI (a n d : Int) : Int := (2 * a * n + d) / (2 * d)
theorem scale_in {a n d : Int} (a0 : 0 ≤ a) (a1 : a ≤ 10000000) (n0 : 0 ≤ n) (n1 : n ≤ 1000000) (d0 : 1 ≤ d) (d1 : d ≤ 1000000) : 0 ≤ 2 * a * n ∧ 2 * a * n ≤ 20000000000000 ∧ 0 ≤ scaleI a n d ∧ scaleI a n d ≤ 20000001000000 ∧ 0 ≤ 2 * d := by
  have h0 : 0 ≤ 2 * a * n := Int.mul_nonneg (by omega) n0
  have h1 : 2 * a * n ≤ 20000000 * 1000000 := Int.mul_le_mul (by omega) n1 n0 (by decide)
  refine ⟨h0, by omega, Int.ediv_nonneg (by omega) (by omega), Int.le_trans (Int.ediv_le_self _ (by omega)) (by omega), by omega⟩

set_option maxHeartbeats 1000000 in
theorem mShare_ok {a n d : Int} (a0 : 0 ≤ a) (a1 : a ≤ 10000000) (n0 : 0 ≤ n) (n1 : n ≤ 1000000) (d0 : 1 ≤ d) (d1 : d ≤ 1000000) (hv : scaleI a n d ≤ 1000000000000) (w : World) :
    Calls Tryd.prog 15 #[.int .i64 a, .int .i64 n, .int .i64 d] w fun e w' => e = .returned (.tuple #[.int .i64 (scaleI a n d), .int .i64 0]) ∧ w = w' := by
  obtain ⟨h0, h1, h2, h3, h4⟩ := scale_in a0 a1 n0 n1 d0 d1
  have hq : scaleI a n d = (2 * a * n + d) / (2 * d) := rfl
  rw [hq] at h2 h3 hv ⊢
  have h5 : 0 ≤ 2 * a * n + d := by omega
  have h6 : (2 * d) ≠ 0 := by omega
  clear hq
  go_enter Tryd.func15, Tryd.ntmps15
  go_wp2_with (first | (go_at_call 23; refine (Valid_yes _ (by omega) (by omega)).mono ?_; rintro e w' ⟨rfl, rfl⟩) | (go_at_call 24; refine (weight_yes _ (by omega) (by omega)).mono ?_; rintro e w' ⟨rfl, rfl⟩) | (go_at_call 25; refine (within_yes _ (by omega) (by omega)).mono ?_; rintro e w' ⟨rfl, rfl⟩))
  go_ret2
  exact ⟨rfl, rfl⟩


end Go.Proofs.YtebgfbcojhmdlaaDoor
