/- accrual.percent, money.Percent, receipt.Claim of a right claim. -/
import Derived.Test.YtknmgkjfopoinaaGreatDoorMG1
import Derived.Test.YtknmgkjfopoinaaGreatDoorMClParts
import Derived.Test.YtknmgkjfopoinaaGreatDoorMG3
import Derived.Deep.DeepCutAuto
set_option linter.unusedSimpArgs false
set_option linter.unusedVariables false
set_option linter.unusedSimpArgs false
set_option linter.unusedVariables false
namespace Go.Proofs.YtknmgkjfopoinaaGreatDoor
open Go.RowKit Go.Lib Go.Proofs

theorem index_a (a b c : Value) (W : World) : (Instr.index 46 (.agg #[a, b, c]) (.int .i64 0)).run Tryz.prog W = .ok a W ∧ (Instr.index 46 (.agg #[a, b, c]) (.int .i64 1)).run Tryz.prog W = .ok b W ∧ (Instr.index 46 (.agg #[a, b, c]) (.int .i64 2)).run Tryz.prog W = .ok c W := ⟨by kernel_rfl, by kernel_rfl, by kernel_rfl⟩

set_option maxRecDepth 100000 in
set_option maxHeartbeats 4000000 in
theorem aapercent_any (d : Int) (w : World) : Calls Tryz.prog 30 #[.int .i64 d] w fun e w' => e = .returned (.int .i64 (pctA d)) ∧ Below w.heap.size w w' := by
  obtain ⟨w1, hw1⟩ : ∃ W, W = (w.alloc (.cells #[.int .i64 90, .int .i64 180, .int .i64 360] 46)).alloc (.cells #[.int .i64 0, .int .i64 25, .int .i64 50] 46) := ⟨_, rfl⟩
  have HB1 : Hid (Below w.heap.size w w1) := Lib.hid (by rw [hw1]; exact (below_alloc w _).trans ((below_alloc _ _).mono (by simp)))
  have HX1 : Hid (w1.heap[w.heap.size + 1]? = some (.cells #[.int .i64 0, .int .i64 25, .int .i64 50] 46 (0, 0))) := Lib.hid (by rw [hw1]; have := heap_alloc_new (w.alloc (.cells #[.int .i64 90, .int .i64 180, .int .i64 360] 46)) (.cells #[.int .i64 0, .int .i64 25, .int .i64 50] 46); simpa using this)
  have HX0 : Hid (w1.heap[w.heap.size]? = some (.cells #[.int .i64 90, .int .i64 180, .int .i64 360] 46 (0, 0))) := Lib.hid (by rw [hw1]; exact alloc1_at w _ _)
  have HW1 := Lib.hid hw1
  have hx0 := HX0.out
  have q0 := obj_cell hx0 0
  have q1 := obj_cell hx0 1
  have q2 := obj_cell hx0 2
  simp at q0 q1 q2
  clear hx0
  have hia := fun W => (index_a (.int .i64 90) (.int .i64 180) (.int .i64 360) W).1
  have hib := fun W => (index_a (.int .i64 90) (.int .i64 180) (.int .i64 360) W).2.1
  have hic := fun W => (index_a (.int .i64 90) (.int .i64 180) (.int .i64 360) W).2.2
  clear hw1
  go_enter Tryz.func30, Tryz.ntmps30
  go_upto_region 2 with fail
  rw [← HW1.out]
  go_wp2
  clear q0 q1 q2
  go_loopw [10] (fun jv wr => ∃ j : Nat, jv = .int .i64 j ∧ j ≤ 3 ∧ (1 ≤ j → 90 < d) ∧ (2 ≤ j → 180 < d) ∧ (3 ≤ j → 360 < d) ∧ Hid (Below w1.heap.size w1 wr)) (fun jv _ => 3 - (RowKit.intOf jv).toNat)
  case atStart => exact ⟨0, rfl, by omega, by omega, by omega, by omega, Lib.hid (Below.refl _ _)⟩
  case round =>
    obtain ⟨j, rfl, hj3, h1, h2, h3, HB⟩ := hrel
    have hx := obj_below HX1.out HB.out
    have p0 := obj_cell hx 0
    have p1 := obj_cell hx 1
    have p2 := obj_cell hx 2
    simp at p0 p1 p2
    have HE := Lib.hid (HB1.out.trans (HB.out.mono HB1.out.size))
    clear hx
    rcases (by omega : j = 0 ∨ j = 1 ∨ j = 2 ∨ j = 3) with rfl | rfl | rfl | rfl
    · by_cases hd : d ≤ 90
      · have hr : pctA d = 0 := by unfold pctA; rw [if_pos hd]
        go_wp2
        go_ret
        exact ⟨by rw [hr]; rfl, HE.out⟩
      · go_wp2
        go_roundw
        case rel => exact ⟨1, rfl, by omega, by omega, by omega, by omega, HB⟩
        case measure => simp [RowKit.intOf]
    · by_cases hd : d ≤ 180
      · have hr : pctA d = 25 := by unfold pctA; rw [if_neg (by omega), if_pos hd]
        go_wp2
        go_ret
        exact ⟨by rw [hr]; rfl, HE.out⟩
      · go_wp2
        go_roundw
        case rel => exact ⟨2, rfl, by omega, by omega, by omega, by omega, HB⟩
        case measure => simp [RowKit.intOf]
    · by_cases hd : d ≤ 360
      · have hr : pctA d = 50 := by unfold pctA; rw [if_neg (by omega), if_neg (by omega), if_pos hd]
        go_wp2
        go_ret
        exact ⟨by rw [hr]; rfl, HE.out⟩
      · go_wp2
        go_roundw
        case rel => exact ⟨3, rfl, by omega, by omega, by omega, by omega, HB⟩
        case measure => simp [RowKit.intOf]
    · have hr : pctA d = 100 := by unfold pctA; rw [if_neg (by omega), if_neg (by omega), if_neg (by omega)]
      go_wp2
      go_ret
      exact ⟨by rw [hr]; rfl, HE.out⟩

set_option maxHeartbeats 1000000 in
theorem pct_ok {n p : Int} (hn : 0 ≤ n ∧ n ≤ 1000000000000) (hp : 0 ≤ p ∧ p ≤ 100) (w : World) : Calls Tryz.prog 29 #[.int .i64 n, .int .i64 p] w fun e w' => e = .returned (.tuple #[.int .i64 (n * p / 100), .int .i64 0]) ∧ w = w' := by
  have hb := mul_pct hn hp
  obtain ⟨m, hm⟩ : ∃ m, n * p = m := ⟨_, rfl⟩
  rw [hm] at hb ⊢
  have hw1 : IntKind.i64.wrap m = m := IntWalk.i64_in _ (by omega)
  have hw2 : wrap64 m = m := by simp only [wrap64]; omega
  have hw3 : wrap64 (m.tdiv 100) = m / 100 := by rw [Int.tdiv_eq_ediv_of_nonneg hb.1]; simp only [wrap64]; omega
  have hw4 : IntKind.i64.wrap (m / 100) = m / 100 := IntWalk.i64_in _ (by omega)
  have hw5 : m.tdiv 100 = m / 100 := Int.tdiv_eq_ediv_of_nonneg hb.1
  go_enter Tryz.func29, Tryz.ntmps29
  go_wp2_with fail
  refine (Valid_yes _ hn.1 hn.2).mono ?_
  rintro e w' ⟨rfl, rfl⟩
  go_wp2_with fail
  refine (within_yes _ hp.1 hp.2).mono ?_
  rintro e w' ⟨rfl, rfl⟩
  go_wp2
  exact bodyPost_ret (v := .tuple #[.int .i64 (m / 100), .int .i64 0]) (by simp [results, Tryz.results29, go_sem]) rfl ⟨rfl, rfl⟩

/-! ### A right claim -/
structure ClmOk (c : Clm) : Prop where
  id : 1 ≤ c.id ∧ c.id ≤ 1000000
  payer : 1 ≤ c.payer ∧ c.payer ≤ 1000000
  amt : 1 ≤ c.amt ∧ c.amt ≤ 1000000000000
  opn : 0 ≤ c.opn ∧ c.opn ≤ c.amt
  day : 0 ≤ c.day ∧ c.day ≤ 36000
  code : c.code = ⟨#[49]⟩

set_option maxHeartbeats 1000000 in
theorem rcwithin_yes {n lo hi : Int} (w : World) (h1 : lo ≤ n) (h2 : n ≤ hi) : Calls Tryz.prog 75 #[.int .i64 n, .int .i64 lo, .int .i64 hi] w fun e w' => e = .returned (.bool true) ∧ w = w' := by
  go_enter Tryz.func75, Tryz.ntmps75
  go_wp2
  go_ret
  exact ⟨rfl, rfl⟩
theorem rcisNumber_yes {n : Int} (w : World) (h1 : 1 ≤ n) (h2 : n ≤ 1000000) : Calls Tryz.prog 73 #[.int .i64 n] w fun e w' => e = .returned (.bool true) ∧ w = w' := by
  go_enter Tryz.func73, Tryz.ntmps73
  go_wp2_with fail
  refine (rcwithin_yes _ h1 h2).mono ?_
  rintro e w' ⟨rfl, rfl⟩
  go_wp2
  go_ret
  exact ⟨rfl, rfl⟩
theorem rcisAmount_yes {n : Int} (w : World) (h1 : 1 ≤ n) (h2 : n ≤ 1000000000000) : Calls Tryz.prog 74 #[.int .i64 n] w fun e w' => e = .returned (.bool true) ∧ w = w' := by
  have h0 : 0 < n := by omega
  go_enter Tryz.func74, Tryz.ntmps74
  go_wp2_with fail
  refine (Valid_yes _ (by omega) h2).mono ?_
  rintro e w' ⟨rfl, rfl⟩
  go_wp2
  go_ret
  exact ⟨rfl, rfl⟩
theorem parts_one : partsN ⟨#[49]⟩ = [1] := by kernel_rfl

set_option maxRecDepth 100000 in
set_option maxHeartbeats 4000000 in
theorem rcClaim_yes {c : Clm} (h : ClmOk c) (w : World) (hL : Lay w) : Calls Tryz.prog 53 #[.agg (clmC c).toArray] w fun e w' => e = .returned (.bool true) ∧ Below w.heap.size w w' := by
  obtain ⟨c0, c1, c2, c3, c4, c5⟩ := c
  obtain ⟨h0, h1, h2, h3, h4, h5⟩ := h
  simp only at h0 h1 h2 h3 h4 h5
  subst h5
  simp only [clmC]
  obtain ⟨w1, hw1⟩ : ∃ W, W = w.alloc (.cells #[.int .i64 c0, .int .i64 c1, .int .i64 c2, .int .i64 c3, .int .i64 c4, .string ⟨#[49]⟩] 39) := ⟨_, rfl⟩
  have HB1 : Hid (Below w.heap.size w w1) := Lib.hid (by rw [hw1]; exact below_alloc _ _)
  have HX1 : Hid (w1.heap[w.heap.size]? = some (.cells #[.int .i64 c0, .int .i64 c1, .int .i64 c2, .int .i64 c3, .int .i64 c4, .string ⟨#[49]⟩] 39 (0, 0))) := Lib.hid (by rw [hw1]; exact heap_alloc_new _ _)
  have HPT := Lib.hid (clParts_any ⟨#[49]⟩ w1 (hL.below HB1.out (Nat.le_refl _)) (by decide))
  unfold PartsPost at HPT
  rw [parts_one] at HPT
  have HW1 := Lib.hid hw1
  have hx1 := HX1.out
  have q0 := obj_cell hx1 0
  have q1 := obj_cell hx1 1
  have q2 := obj_cell hx1 2
  have q3 := obj_cell hx1 3
  have q4 := obj_cell hx1 4
  have q5 := obj_cell hx1 5
  simp at q0 q1 q2 q3 q4 q5
  clear hw1 hx1 hL
  go_enter Tryz.func53, Tryz.ntmps53
  go_upto_region 1 with fail
  rw [← HW1.out]
  go_wp2_with fail
  refine (rcisNumber_yes _ h0.1 h0.2).mono ?_
  rintro e w' ⟨rfl, rfl⟩
  go_wp2_with fail
  refine (rcisNumber_yes _ h1.1 h1.2).mono ?_
  rintro e w' ⟨rfl, rfl⟩
  go_wp2_with fail
  refine (rcisAmount_yes _ h2.1 h2.2).mono ?_
  rintro e w' ⟨rfl, rfl⟩
  go_wp2_with fail
  refine (rcwithin_yes _ h3.1 h3.2).mono ?_
  rintro e w' ⟨rfl, rfl⟩
  go_wp2_with fail
  refine (rcwithin_yes _ h4.1 h4.2).mono ?_
  rintro e w' ⟨rfl, rfl⟩
  go_wp2_with fail
  refine (HPT.out).mono ?_
  rintro e w2 ⟨v, rfl, hown, hb2⟩
  obtain ⟨av, cv, rfl, -, -⟩ := owns_gen hown
  have HB2 := Lib.hid (HB1.out.trans (hb2.mono HB1.out.size))
  clear hown hb2
  go_wp2
  go_ret
  exact ⟨rfl, HB2.out⟩

end Go.Proofs.YtknmgkjfopoinaaGreatDoor
