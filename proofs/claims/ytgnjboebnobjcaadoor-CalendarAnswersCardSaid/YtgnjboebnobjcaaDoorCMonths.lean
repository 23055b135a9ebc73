/- The walk of CalendarMonths: going on by months and back again; for every day and all numbers of months from -128 to 127. -/
import Derived.Test.YtgnjboebnobjcaaDoorCalAwake
namespace Go.Proofs.YtgnjboebnobjcaaDoor
open Go.RowKit Go.Lib Go.Proofs

theorem checked_yes {n : Int} (h : dayB n = true) : checkedI n = (n, 0) := by unfold checkedI; rw [if_pos h]
theorem checked_no {n : Int} (h : dayB n = false) : checkedI n = (0, 2) := by unfold checkedI; rw [h]; rfl
theorem months_in {x n : Int} (h : dayB x = true) (h0 : -36000 ≤ n) (h1 : n ≤ 36000) : monthsI x n = checkedI (x + n * 30) := by
  unfold monthsI; rw [if_pos]; rw [h, inB_true.2 ⟨h0, h1⟩]; rfl

set_option maxRecDepth 100000 in
set_option maxHeartbeats 2000000 in
theorem cmonths_any (a n m : Int) (w : World) (ha : 0 ≤ a) (ha1 : a ≤ 65535) (hn : -128 ≤ n) (hn1 : n ≤ 127) (hm : -128 ≤ m) (hm1 : m ≤ 127) :
    Calls Tryd.prog 5 #[.int .u16 a, .int .i8 n, .int .i8 m] w fun e w' => e = .returned (.bool true) ∧ Below w.heap.size w w' := by
  obtain ⟨x, hx⟩ : ∃ x, x = a % 36001 := ⟨_, rfl⟩
  have hx0 : 0 ≤ x := by omega
  have hx1 : x ≤ 36000 := by omega
  have hvx : dayB x = true := dayB_true.2 ⟨hx0, hx1⟩
  have c1 := fun w => cMonths_any x n w
  rw [months_in hvx (by omega) (by omega)] at c1
  have HAW := Lib.hid awake_any
  have HX := Lib.hid hx
  cases hv : dayB (x + n * 30) with
  | false =>
    rw [checked_no hv] at c1
    have hno := dayB_false.1 hv
    have C1 := Lib.hid c1
    clear c1 hvx hv hx
    by_cases hlt : x + 30 * n < 0
    · go_enter Tryd.func5, Tryd.ntmps5
      go_wp2_with fail
      rw [← HX.out]
      refine (C1.out _).mono ?_
      rintro e w1 ⟨rfl, rfl⟩
      go_wp2_with (go_at_call 7; refine (HAW.out _).mono ?_; rintro e w' ⟨rfl, hbel⟩)
      go_ret
      exact ⟨rfl, hbel⟩
    · have hgt : 36000 < x + 30 * n := by omega
      go_enter Tryd.func5, Tryd.ntmps5
      go_wp2_with fail
      rw [← HX.out]
      refine (C1.out _).mono ?_
      rintro e w1 ⟨rfl, rfl⟩
      go_wp2_with (go_at_call 7; refine (HAW.out _).mono ?_; rintro e w' ⟨rfl, hbel⟩)
      go_ret
      exact ⟨rfl, hbel⟩
  | true =>
    rw [checked_yes hv] at c1
    obtain ⟨y, hy⟩ : ∃ y, y = x + n * 30 := ⟨_, rfl⟩
    obtain ⟨y0, y1⟩ := dayB_true.1 hv
    have hvy : dayB y = true := by rw [hy]; exact hv
    have c2 := fun w => cMonths_any y m w
    have c3 := fun w => cMonths_any x (n + m) w
    have c4 := fun w => cMonths_any y (-n) w
    have c5 := fun w => cDate_yes x w hvx
    have c6 := fun w => cDate_yes y w hvy
    rw [months_in hvy (by omega) (by omega)] at c2 c4
    rw [months_in hvx (by omega) (by omega)] at c3
    rw [show x + (n + m) * 30 = y + m * 30 by omega] at c3
    rw [show y + -n * 30 = x by omega, checked_yes hvx] at c4
    rw [← hy] at c1
    rw [show y % 30 + 1 = x % 30 + 1 by omega] at c6
    generalize (checkedI (y + m * 30)).1 = p at *
    generalize (checkedI (y + m * 30)).2 = q at *
    generalize x % 30 + 1 = r at *
    generalize x / 360 = r1 at *
    generalize y / 360 = r2 at *
    generalize x % 360 / 30 + 1 = r3 at *
    generalize y % 360 / 30 + 1 = r4 at *
    have C1 := Lib.hid c1
    have C2 := Lib.hid c2
    have C3 := Lib.hid c3
    have C4 := Lib.hid c4
    have C5 := Lib.hid c5
    have C6 := Lib.hid c6
    clear c1 c2 c3 c4 c5 c6 hvx hvy hv hx hy y0 y1
    go_enter Tryd.func5, Tryd.ntmps5
    go_wp2_with fail
    rw [← HX.out]
    refine (C1.out _).mono ?_
    rintro e w1 ⟨rfl, rfl⟩
    go_wp2_with fail
    refine (C2.out _).mono ?_
    rintro e w1 ⟨rfl, rfl⟩
    go_wp2_with fail
    refine (C3.out _).mono ?_
    rintro e w1 ⟨rfl, rfl⟩
    go_wp2_with fail
    refine (C4.out _).mono ?_
    rintro e w1 ⟨rfl, rfl⟩
    go_wp2_with fail
    refine (C5.out _).mono ?_
    rintro e w1 ⟨rfl, hb1⟩
    go_wp2_with fail
    refine (C6.out _).mono ?_
    rintro e w2 ⟨rfl, hb2⟩
    go_wp2_with (go_at_call 7; refine (HAW.out _).mono ?_; rintro e w' ⟨rfl, hbel⟩)
    go_ret
    exact ⟨rfl, (hb1.trans (hb2.mono hb1.size)).trans (hbel.mono (Nat.le_trans hb1.size hb2.size))⟩

end Go.Proofs.YtgnjboebnobjcaaDoor
