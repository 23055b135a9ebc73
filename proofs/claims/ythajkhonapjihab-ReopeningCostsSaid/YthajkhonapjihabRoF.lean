/- Contracts of auction.Pay, reopening.Given (at the chapter's example) and reopening.Cost, for securities that are right. -/
import Derived.Test.YthajkhonapjihabCoup
import Derived.Test.YthajkhonapjihabMonF
set_option linter.unusedSimpArgs false
set_option linter.unusedVariables false
namespace Go.Proofs.Ythajkhonapjihab
open Go.RowKit Go.Lib Go.Proofs

set_option maxHeartbeats 400000 in
theorem auwithin_any (n lo hi : Int) (w : World) :
    Calls Try.prog 69 #[.int .i64 n, .int .i64 lo, .int .i64 hi] w fun e w' => e = .returned (.bool (inB n lo hi)) ∧ w = w' := by
  by_cases h1 : lo ≤ n
  · by_cases h2 : n ≤ hi
    · rw [show inB n lo hi = true from inB_true.2 ⟨h1, h2⟩]
      go_enter Try.func69, Try.ntmps69
      go_wp2
      go_ret
      exact ⟨rfl, rfl⟩
    · rw [show inB n lo hi = false from inB_false.2 (fun q => h2 q.2)]
      go_enter Try.func69, Try.ntmps69
      go_wp2
      go_ret
      exact ⟨rfl, rfl⟩
  · rw [show inB n lo hi = false from inB_false.2 (fun q => h1 q.1)]
    go_enter Try.func69, Try.ntmps69
    go_wp2
    go_ret
    exact ⟨rfl, rfl⟩
theorem auwithin_yes {n lo hi : Int} (w : World) (h1 : lo ≤ n) (h2 : n ≤ hi) : Calls Try.prog 69 #[.int .i64 n, .int .i64 lo, .int .i64 hi] w fun e w' => e = .returned (.bool true) ∧ w = w' := by
  have := auwithin_any n lo hi w; rw [inB_true.2 ⟨h1, h2⟩] at this; exact this
theorem auwithin_no {n lo hi : Int} (w : World) (h : ¬ (lo ≤ n ∧ n ≤ hi)) : Calls Try.prog 69 #[.int .i64 n, .int .i64 lo, .int .i64 hi] w fun e w' => e = .returned (.bool false) ∧ w = w' := by
  have := auwithin_any n lo hi w; rw [inB_false.2 h] at this; exact this
theorem auwithin_eq {n lo hi : Int} {c : Bool} (h : inB n lo hi = c) (w : World) : Calls Try.prog 69 #[.int .i64 n, .int .i64 lo, .int .i64 hi] w fun e w' => e = .returned (.bool c) ∧ w = w' := by
  have := auwithin_any n lo hi w; rw [h] at this; exact this

set_option maxHeartbeats 400000 in
theorem rowithin_any (n lo hi : Int) (w : World) :
    Calls Try.prog 71 #[.int .i64 n, .int .i64 lo, .int .i64 hi] w fun e w' => e = .returned (.bool (inB n lo hi)) ∧ w = w' := by
  by_cases h1 : lo ≤ n
  · by_cases h2 : n ≤ hi
    · rw [show inB n lo hi = true from inB_true.2 ⟨h1, h2⟩]
      go_enter Try.func71, Try.ntmps71
      go_wp2
      go_ret
      exact ⟨rfl, rfl⟩
    · rw [show inB n lo hi = false from inB_false.2 (fun q => h2 q.2)]
      go_enter Try.func71, Try.ntmps71
      go_wp2
      go_ret
      exact ⟨rfl, rfl⟩
  · rw [show inB n lo hi = false from inB_false.2 (fun q => h1 q.1)]
    go_enter Try.func71, Try.ntmps71
    go_wp2
    go_ret
    exact ⟨rfl, rfl⟩
theorem rowithin_yes {n lo hi : Int} (w : World) (h1 : lo ≤ n) (h2 : n ≤ hi) : Calls Try.prog 71 #[.int .i64 n, .int .i64 lo, .int .i64 hi] w fun e w' => e = .returned (.bool true) ∧ w = w' := by
  have := rowithin_any n lo hi w; rw [inB_true.2 ⟨h1, h2⟩] at this; exact this
theorem rowithin_no {n lo hi : Int} (w : World) (h : ¬ (lo ≤ n ∧ n ≤ hi)) : Calls Try.prog 71 #[.int .i64 n, .int .i64 lo, .int .i64 hi] w fun e w' => e = .returned (.bool false) ∧ w = w' := by
  have := rowithin_any n lo hi w; rw [inB_false.2 h] at this; exact this
theorem rowithin_eq {n lo hi : Int} {c : Bool} (h : inB n lo hi = c) (w : World) : Calls Try.prog 71 #[.int .i64 n, .int .i64 lo, .int .i64 hi] w fun e w' => e = .returned (.bool c) ∧ w = w' := by
  have := rowithin_any n lo hi w; rw [h] at this; exact this

set_option maxHeartbeats 400000 in
theorem roisWeight_any (n : Int) (w : World) : Calls Try.prog 72 #[.int .i64 n] w fun e w' => e = .returned (.bool (inB n (1) 1000000)) ∧ w = w' := by
  go_enter Try.func72, Try.ntmps72
  go_wp2_with (go_at_call 71; refine (rowithin_any _ _ _ _).mono ?_; rintro e w' ⟨rfl, rfl⟩)
  go_ret
  exact ⟨rfl, rfl⟩
theorem roisWeight_yes {n : Int} (w : World) (h0 : 1 ≤ n) (h1 : n ≤ 1000000) : Calls Try.prog 72 #[.int .i64 n] w fun e w' => e = .returned (.bool true) ∧ w = w' := by
  have := roisWeight_any n w; rw [inB_true.2 ⟨h0, h1⟩] at this; exact this

def payI (a p : Int) : Int := (2 * a * p + 100000) / 200000
theorem pay_in {a p : Int} (a0 : 0 ≤ a) (a1 : a ≤ 1000000) (p0 : 0 ≤ p) (p1 : p ≤ 200000) : 0 ≤ 2 * a * p ∧ 2 * a * p ≤ 400000000000 ∧ 0 ≤ payI a p ∧ payI a p ≤ 2000001 := by
  have h0 : 0 ≤ 2 * a * p := Int.mul_nonneg (by omega) p0
  have h1 : 2 * a * p ≤ 2000000 * 200000 := Int.mul_le_mul (by omega) p1 p0 (by decide)
  unfold payI
  omega

set_option maxHeartbeats 1000000 in
theorem auPay_ok {a p : Int} (a0 : 0 ≤ a) (a1 : a ≤ 1000000) (p0 : 0 ≤ p) (p1 : p ≤ 200000) (w : World) :
    Calls Try.prog 37 #[.int .i64 a, .int .i64 p] w fun e w' => e = .returned (.tuple #[.int .i64 (payI a p), .int .i64 0]) ∧ w = w' := by
  obtain ⟨h0, h1, h2, h3⟩ := pay_in a0 a1 p0 p1
  have hq : payI a p = (2 * a * p + 100000) / 200000 := rfl
  rw [hq] at h2 h3 ⊢
  have h4 : 0 ≤ 2 * a * p + 100000 := by omega
  clear hq
  go_enter Try.func37, Try.ntmps37
  go_wp2_with (first | (go_at_call 39; refine (Valid_yes _ (by omega) (by omega)).mono ?_; rintro e w' ⟨rfl, rfl⟩) | (go_at_call 69; refine (auwithin_yes _ (by omega) (by omega)).mono ?_; rintro e w' ⟨rfl, rfl⟩))
  go_ret2
  exact ⟨rfl, rfl⟩

set_option maxHeartbeats 1000000 in
theorem sane35_any (w : World) : Calls Try.prog 19 #[] w fun e w' => e = .returned (.bool true) ∧ Below w.heap.size w w' := by
  have HG : Hid (∀ W : World, Calls Try.prog 40 #[.agg #[.int .i64 1, .int .i64 2, .int .i64 3, .int .i64 2], .int .i64 400, .int .i64 1000] W fun e w' => e = .returned (.tuple #[.int .i64 1200, .int .i64 300]) ∧ Below W.heap.size W w') := Lib.hid fun W => by
    go_enter Try.func40, Try.ntmps40
    go_wp2_with (first | (go_at_call 39; refine (Valid_yes _ (by omega) (by omega)).mono ?_; rintro e w' ⟨rfl, rfl⟩) | (go_at_call 71; refine (rowithin_yes _ (by omega) (by omega)).mono ?_; rintro e w' ⟨rfl, rfl⟩) | (go_at_call 72; refine (roisWeight_yes _ (by omega) (by omega)).mono ?_; rintro e w' ⟨rfl, rfl⟩))
    go_quiet (fail)
    go_wp2
    go_ret2
    exact ⟨rfl, below_drewN (below_alloc W _) _⟩
  go_enter Try.func19, Try.ntmps19
  go_wp2_with (go_at_call 40; refine (HG.out _).mono ?_; rintro e w1 ⟨rfl, b1⟩)
  go_ret
  exact ⟨rfl, b1⟩

def costI (s : Sec) (d a p : Int) : Int := payI a p + accruedI s a d

set_option maxHeartbeats 2000000 in
theorem roCost_ok {s : Sec} {z r : Int} (h : SecOk s z r) {d a p : Int} (a0 : 0 ≤ a) (a1 : a ≤ 100000) (d0 : s.iss ≤ d) (d1 : d ≤ s.mat) (p0 : 0 ≤ p) (p1 : p ≤ 200000) (hc : 0 ≤ accruedI s a d ∧ accruedI s a d ≤ 1000000000) (w : World) :
    Calls Try.prog 18 #[.agg s.cells.toArray, .int .i64 d, .int .i64 a, .int .i64 p] w fun e w' => e = .returned (.tuple #[.int .i64 (costI s d a p), .int .i64 0]) ∧ Below w.heap.size w w' := by
  have HS := Lib.hid (fun W => rgSecurity_ok h W)
  have HP := Lib.hid (fun W => auPay_ok a0 (by omega) p0 p1 W)
  have HA := Lib.hid (fun W => cpAccrued_ok h a d a0 (by omega) d0 d1 W)
  obtain ⟨_, _, g0, g1⟩ := pay_in a0 (show a ≤ 1000000 by omega) p0 p1
  obtain ⟨c0, c1⟩ := hc
  unfold costI
  generalize payI a p = x at *
  generalize accruedI s a d = y at *
  obtain ⟨i, un, bb, m, qq, ee, xx⟩ := s
  simp only [Sec.cells] at *
  have HB := Lib.hid (below_alloc w (.cells #[.int .i64 i, .int .i64 un, .int .i64 bb, .int .i64 m, .int .i64 qq, .int .i64 ee, .bool xx] 27))
  have HC := Lib.hid (heap_alloc_new w (.cells #[.int .i64 i, .int .i64 un, .int .i64 bb, .int .i64 m, .int .i64 qq, .int .i64 ee, .bool xx] 27))
  clear h d0 d1
  go_enter Try.func18, Try.ntmps18
  go_wp2_with fail
  with_reducible refine (HS.out _).mono ?_
  rintro e w2 ⟨rfl, hb2⟩
  have hc2 := obj_below HC.out hb2
  have v0 := obj_cell hc2 0
  have v1 := obj_cell hc2 1
  have v2 := obj_cell hc2 2
  have v3 := obj_cell hc2 3
  have v4 := obj_cell hc2 4
  have v5 := obj_cell hc2 5
  have v6 := obj_cell hc2 6
  simp at v0 v1 v2 v3 v4 v5 v6
  have HB2 := Lib.hid (HB.out.trans (hb2.mono (by simp)))
  clear hb2 hc2 HB HC HS
  go_wp2_with (first | (go_at_call 37; refine (HP.out _).mono ?_; rintro e w' ⟨rfl, rfl⟩) | fail)
  with_reducible refine (HA.out _).mono ?_
  rintro e w3 ⟨rfl, hb3⟩
  have HB3 := Lib.hid (HB2.out.trans (hb3.mono HB2.out.size))
  clear hb3 HB2 HA v0 v1 v2 v3 v4 v5 v6
  go_wp2_with (go_at_call 39; refine (Valid_yes _ (by omega) (by omega)).mono ?_; rintro e w' ⟨rfl, rfl⟩)
  go_ret2
  exact ⟨rfl, HB3.out⟩

end Go.Proofs.Ythajkhonapjihab
