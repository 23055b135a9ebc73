/- The statements' example of a security, and that the chapter's example comes out. -/
import Derived.Test.YtblidmkkbcobgaaMCoup
import Derived.Test.YtblidmkkbcobgaaMSecS
set_option linter.unusedSimpArgs false
set_option linter.unusedVariables false
namespace Go.Proofs.Ytblidmkkbcobgaa
open Go.RowKit Go.Lib Go.Proofs

def halfS : Sec := ⟨1, 1, 0, 720, 5000, 6, false⟩
theorem half_ok : SecOk halfS 6 4 := ⟨by decide, by decide, by decide, by decide, by decide, by decide, by decide, by decide, by decide, by decide, by decide, by decide, by decide⟩

set_option maxHeartbeats 400000 in
theorem half34_any (w : World) : Calls Try.prog 81 #[] w fun e w' => e = .returned (.agg halfS.cells.toArray) ∧ Below w.heap.size w w' := by
  go_enter Try.func81, Try.ntmps81
  go_wp2
  exact retB (heap_alloc_new w _) (fun F hF => by
    have q0 := obj_cell hF 0
    have q1 := obj_cell hF 1
    have q2 := obj_cell hF 2
    have q3 := obj_cell hF 3
    have q4 := obj_cell hF 4
    have q5 := obj_cell hF 5
    have q6 := obj_cell hF 6
    simp [results, Try.results81, go_sem, q0, q1, q2, q3, q4, q5, q6]
    rfl) rfl ⟨rfl, below_alloc w _⟩

set_option maxHeartbeats 1000000 in
theorem sane34_any (w : World) : Calls Try.prog 35 #[] w fun e w' => e = .returned (.bool true) ∧ Below w.heap.size w w' := by
  have HH := Lib.hid half34_any
  have HC := Lib.hid (fun W => cpCoupon_ok half_ok 100000 (by decide) (by decide) W)
  have HA := Lib.hid (fun W => cpAccrued_ok half_ok 100000 270 (by decide) (by decide) (by decide) (by decide) W)
  have HD := Lib.hid (fun W => cpDays_ok half_ok W)
  have HL := Lib.hid (fun W => cpLast_ok half_ok 270 (by decide) (by decide) W)
  rw [show couponI halfS 100000 = 2500 by decide] at HC
  rw [show accruedI halfS 100000 270 = 1250 by decide] at HA
  rw [show lastI halfS 270 = 180 by decide] at HL
  unfold DaysPost at HD
  rw [show (daysM halfS 6 4).length = 4 by decide] at HD
  go_enter Try.func35, Try.ntmps35
  go_wp2_with fail
  refine (HH.out _).mono ?_
  rintro e w1 ⟨rfl, b1⟩
  go_wp2_with fail
  refine (HC.out _).mono ?_
  rintro e w2 ⟨rfl, b2⟩
  have B2 := Lib.hid (b1.trans (b2.mono b1.size))
  clear b1 b2
  go_wp2_with fail
  refine (HH.out _).mono ?_
  rintro e w3 ⟨rfl, b3⟩
  have B3 := Lib.hid (B2.out.trans (b3.mono B2.out.size))
  clear b3 B2
  go_wp2_with fail
  refine (HA.out _).mono ?_
  rintro e w4 ⟨rfl, b4⟩
  have B4 := Lib.hid (B3.out.trans (b4.mono B3.out.size))
  clear b4 B3
  go_wp2_with fail
  refine (HH.out _).mono ?_
  rintro e w5 ⟨rfl, b5⟩
  have B5 := Lib.hid (B4.out.trans (b5.mono B4.out.size))
  clear b5 B4
  go_wp2_with fail
  refine (HD.out _).mono ?_
  rintro e w6 ⟨v, rfl, ho, b6⟩
  obtain ⟨ao, cap, rfl, hcap, _⟩ := owns_gen ho
  have B6 := Lib.hid (B5.out.trans (b6.mono B5.out.size))
  clear b6 B5 ho
  go_wp2_with fail
  refine (HH.out _).mono ?_
  rintro e w7 ⟨rfl, b7⟩
  have B7 := Lib.hid (B6.out.trans (b7.mono B6.out.size))
  clear b7 B6
  go_wp2_with fail
  refine (HL.out _).mono ?_
  rintro e w8 ⟨rfl, b8⟩
  have B8 := Lib.hid (B7.out.trans (b8.mono B7.out.size))
  clear b8 B7
  go_wp2
  go_ret
  exact ⟨rfl, B8.out⟩

/-- Coupons of two parts and of the whole. -/
theorem share_add (u v : Int) (hu : 0 ≤ u) (hv : 0 ≤ v) : shareI u 1200000 + shareI v 1200000 ≥ shareI (u + v) 1200000 - 1 ∧ shareI u 1200000 + shareI v 1200000 ≤ shareI (u + v) 1200000 + 1 ∧ shareI (u + v) 1200000 ≥ shareI u 1200000 ∧ shareI (u + v) 1200000 ≥ shareI v 1200000 ∧ 0 ≤ shareI u 1200000 ∧ 0 ≤ shareI v 1200000 ∧ shareI u 1200000 ≤ u ∧ shareI v 1200000 ≤ v ∧ 0 ≤ shareI (u + v) 1200000 ∧ shareI (u + v) 1200000 ≤ u + v := by
  unfold shareI; omega

end Go.Proofs.Ytblidmkkbcobgaa
