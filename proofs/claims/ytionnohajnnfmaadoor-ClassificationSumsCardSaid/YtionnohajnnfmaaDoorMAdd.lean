/- Contract of money.Add where both numbers and their sum are totals. -/
import Derived.Test.YtionnohajnnfmaaDoorBase
namespace Go.Proofs.YtionnohajnnfmaaDoor
open Go.RowKit Go.Lib Go.Proofs

set_option maxHeartbeats 400000 in
theorem mwithin_yes {n lo hi : Int} (w : World) (h1 : lo ≤ n) (h2 : n ≤ hi) : Calls Tryd.prog 38 #[.int .i64 n, .int .i64 lo, .int .i64 hi] w fun e w' => e = .returned (.bool true) ∧ w = w' := by
  go_enter Tryd.func38, Tryd.ntmps38
  go_wp2
  go_ret
  exact ⟨rfl, rfl⟩

set_option maxHeartbeats 400000 in
theorem mTotal_yes {n : Int} (w : World) (h1 : -1000000000000000 ≤ n) (h2 : n ≤ 1000000000000000) : Calls Tryd.prog 27 #[.int .i64 n] w fun e w' => e = .returned (.bool true) ∧ w = w' := by
  have H1 := Lib.hid (mwithin_yes w h1 h2)
  go_enter Tryd.func27, Tryd.ntmps27
  go_wp2_with fail
  refine (H1.out).mono ?_
  rintro e w' ⟨rfl, rfl⟩
  go_wp2
  go_ret
  exact ⟨rfl, rfl⟩

set_option maxHeartbeats 400000 in
theorem mAdd_yes (a b : Int) (w : World) (a0 : -1000000000000000 ≤ a) (a1 : a ≤ 1000000000000000) (b0 : -1000000000000000 ≤ b) (b1 : b ≤ 1000000000000000) (c0 : -1000000000000000 ≤ a + b) (c1 : a + b ≤ 1000000000000000) :
    Calls Tryd.prog 15 #[.int .i64 a, .int .i64 b] w fun e w' => e = .returned (.tuple #[.int .i64 (a + b), .int .i64 0]) ∧ w = w' := by
  have H1 := Lib.hid (mTotal_yes w a0 a1)
  have H2 := Lib.hid (mTotal_yes w b0 b1)
  have H3 := Lib.hid (mTotal_yes w c0 c1)
  go_enter Tryd.func15, Tryd.ntmps15
  go_wp2_with fail
  refine (H1.out).mono ?_
  rintro e w' ⟨rfl, rfl⟩
  go_wp2_with fail
  refine (H2.out).mono ?_
  rintro e w' ⟨rfl, rfl⟩
  go_wp2_with fail
  refine (H3.out).mono ?_
  rintro e w' ⟨rfl, rfl⟩
  go_wp2
  go_ret2
  exact ⟨rfl, rfl⟩

end Go.Proofs.YtionnohajnnfmaaDoor
