/- Contracts of package liquidity's functions of one band that is valid, and of money's that they call. -/
import Derived.Test.YthajkhonapjihabLqM
import Derived.Test.YthajkhonapjihabPut
import Derived.Test.YthajkhonapjihabMonF
namespace Go.Proofs.Ythajkhonapjihab
open Go.RowKit Go.Lib Go.Proofs

set_option maxHeartbeats 400000 in
theorem lqwithin_any (n lo hi : Int) (w : World) :
    Calls Try.prog 79 #[.int .i64 n, .int .i64 lo, .int .i64 hi] w fun e w' => e = .returned (.bool (inB n lo hi)) ∧ w = w' := by
  by_cases h1 : lo ≤ n
  · by_cases h2 : n ≤ hi
    · rw [show inB n lo hi = true from inB_true.2 ⟨h1, h2⟩]
      go_enter Try.func79, Try.ntmps79
      go_wp2
      go_ret
      exact ⟨rfl, rfl⟩
    · rw [show inB n lo hi = false from inB_false.2 (fun q => h2 q.2)]
      go_enter Try.func79, Try.ntmps79
      go_wp2
      go_ret
      exact ⟨rfl, rfl⟩
  · rw [show inB n lo hi = false from inB_false.2 (fun q => h1 q.1)]
    go_enter Try.func79, Try.ntmps79
    go_wp2
    go_ret
    exact ⟨rfl, rfl⟩
theorem lqwithin_yes {n lo hi : Int} (w : World) (h1 : lo ≤ n) (h2 : n ≤ hi) : Calls Try.prog 79 #[.int .i64 n, .int .i64 lo, .int .i64 hi] w fun e w' => e = .returned (.bool true) ∧ w = w' := by
  have := lqwithin_any n lo hi w; rw [inB_true.2 ⟨h1, h2⟩] at this; exact this
theorem lqwithin_no {n lo hi : Int} (w : World) (h : ¬ (lo ≤ n ∧ n ≤ hi)) : Calls Try.prog 79 #[.int .i64 n, .int .i64 lo, .int .i64 hi] w fun e w' => e = .returned (.bool false) ∧ w = w' := by
  have := lqwithin_any n lo hi w; rw [inB_false.2 h] at this; exact this

set_option maxHeartbeats 400000 in
theorem lqisLot_yes {n : Int} (w : World) (h0 : 1 ≤ n) (h1 : n ≤ 1000000000000) : Calls Try.prog 75 #[.int .i64 n] w fun e w' => e = .returned (.bool true) ∧ w = w' := by
  have h2 : 0 < n := by omega
  go_enter Try.func75, Try.ntmps75
  go_wp2_with (go_at_call 39; refine (Valid_yes _ (by omega) (by omega)).mono ?_; rintro e w' ⟨rfl, rfl⟩)
  go_ret
  exact ⟨rfl, rfl⟩

set_option maxHeartbeats 1000000 in
theorem lqCheck_ok {b : Bnd} (h : BndOk b) (w : World) : Calls Try.prog 46 #[.agg b.cells.toArray] w fun e w' => e = .returned (.int .i64 0) ∧ Below w.heap.size w w' := by
  obtain ⟨lo, hi, lt, mr, mp⟩ := b
  obtain ⟨h1, h2, h3, h4, h5, h6, h7, h8, h9⟩ := h
  simp only [Bnd.cells] at *
  have n1 : ¬ lo < -1000000000000 := by omega
  have n2 : ¬ hi < lo := by omega
  have n3 : ¬ 1000000000000 < hi := by omega
  go_enter Try.func46, Try.ntmps46
  go_wp2_with (first | (go_at_call 75; refine (lqisLot_yes _ (by omega) (by omega)).mono ?_; rintro e w' ⟨rfl, rfl⟩) | (go_at_call 39; refine (Valid_yes _ (by omega) (by omega)).mono ?_; rintro e w' ⟨rfl, rfl⟩))
  go_ret
  exact ⟨rfl, below_alloc w _⟩

set_option maxHeartbeats 1000000 in
theorem lqlots_ok {b : Bnd} (h : BndOk b) (x : Int) (x0 : 0 ≤ x) (x1 : x ≤ 2000000000000000) (w : World) : Calls Try.prog 74 #[.agg b.cells.toArray, .int .i64 x] w fun e w' => e = .returned (.int .i64 (lotsI b x)) ∧ Below w.heap.size w w' := by
  have g := lots_ge h.lot0 x
  have l := lots_le h.lot0 x
  have l0 := h.lot0
  have l1 := h.lot1
  have q0 : 0 ≤ (x + b.lot - 1) / b.lot := Int.ediv_nonneg (by omega) (by omega)
  have q1 : (x + b.lot - 1) / b.lot ≤ x + b.lot - 1 := Int.ediv_le_self _ (by omega)
  unfold lotsI at *
  obtain ⟨lo, hi, lt, mr, mp⟩ := b
  simp only [Bnd.cells] at *
  have hne : lt ≠ 0 := by omega
  have p0 : 0 ≤ x + lt - 1 := by omega
  clear h
  go_enter Try.func74, Try.ntmps74
  go_wp2
  go_quiet (fail)
  go_wp2
  go_ret
  exact ⟨rfl, below_drewN (below_alloc w _) _⟩

theorem lqwithin_eq {n lo hi : Int} {c : Bool} (h : inB n lo hi = c) (w : World) : Calls Try.prog 79 #[.int .i64 n, .int .i64 lo, .int .i64 hi] w fun e w' => e = .returned (.bool c) ∧ w = w' := by
  have := lqwithin_any n lo hi w; rw [h] at this; exact this

set_option maxHeartbeats 2000000 in
theorem lqenough_any {b : Bnd} (h : BndOk b) (a r p : Int) (a0 : -1000000000000000 ≤ a) (a1 : a ≤ 1000000000000000) (w : World) :
    Calls Try.prog 59 #[.agg b.cells.toArray, .int .i64 a, .int .i64 r, .int .i64 p] w fun e w' => e = .returned (.bool (enoughB b a r p)) ∧ Below w.heap.size w w' := by
  have l0 := h.lot0
  have l1 := h.lot1
  have hr1 := h.mr1
  have hp1 := h.mp1
  unfold enoughB
  obtain ⟨lo, hi, lt, mr, mp⟩ := b
  simp only [Bnd.cells] at *
  have hne : lt ≠ 0 := by omega
  clear h
  cases c1 : inB r 0 mr with
  | false =>
    have K1 := Lib.hid (lqwithin_eq c1)
    clear c1
    go_enter Try.func59, Try.ntmps59
    go_wp2_with (go_at_call 79; (first | with_reducible refine Calls.mono (K1.out _) ?_); rintro e w' ⟨rfl, rfl⟩)
    go_ret
    exact ⟨rfl, below_alloc w _⟩
  | true =>
  have K1 := Lib.hid (lqwithin_eq c1)
  obtain ⟨r0, r1⟩ := inB_true.1 c1
  clear c1
  cases c2 : inB p 0 mp with
  | false =>
    have K2 := Lib.hid (lqwithin_eq c2)
    clear c2
    go_enter Try.func59, Try.ntmps59
    go_wp2_with (go_at_call 79; (first | with_reducible refine Calls.mono (K1.out _) ?_ | with_reducible refine Calls.mono (K2.out _) ?_); rintro e w' ⟨rfl, rfl⟩)
    go_ret
    exact ⟨rfl, below_alloc w _⟩
  | true =>
  have K2 := Lib.hid (lqwithin_eq c2)
  obtain ⟨p0, p1⟩ := inB_true.1 c2
  clear c2
  have m0 := Int.emod_nonneg r hne
  have m1 := Int.emod_lt_of_pos r (show 0 < lt by omega)
  have m2 := Int.emod_nonneg p hne
  have m3 := Int.emod_lt_of_pos p (show 0 < lt by omega)
  by_cases c3 : r % lt = 0
  · have d3 : (r % lt == 0) = true := by rw [beq_iff_eq]; exact c3
    by_cases c4 : p % lt = 0
    · have d4 : (p % lt == 0) = true := by rw [beq_iff_eq]; exact c4
      have HE : Hid ((true && (true && (decide (r % lt = 0) && (decide (p % lt = 0) && ((decide (r = 0) || decide (p = 0)) && inB (a + r - p) lo hi))))) = ((decide (r = 0) || decide (p = 0)) && inB (a + r - p) lo hi)) := Lib.hid (by rw [decide_eq_true c3, decide_eq_true c4]; simp)
      rw [HE.out]
      clear HE
      by_cases c5 : r = 0
      · subst c5
        have HE : Hid ((decide ((0 : Int) = 0) || decide (p = 0)) = true) := Lib.hid (by simp)
        rw [HE.out]
        cases c6 : inB (a + 0 - p) lo hi
        all_goals
          have K3 := Lib.hid (lqwithin_eq c6)
          rw [show a + 0 - p = a - p by omega] at K3
          clear c6 HE c3 c4
          go_enter Try.func59, Try.ntmps59
          go_wp2_with (go_at_call 79; (first | with_reducible refine Calls.mono (K1.out _) ?_ | with_reducible refine Calls.mono (K2.out _) ?_ | with_reducible refine Calls.mono (K3.out _) ?_); rintro e w' ⟨rfl, rfl⟩)
          go_ret
          exact ⟨rfl, below_alloc w _⟩
      · have d5 : (r == 0) = false := by rw [beq_eq_false_iff_ne]; exact c5
        by_cases c7 : p = 0
        · subst c7
          have HE : Hid ((decide (r = 0) || decide ((0 : Int) = 0)) = true) := Lib.hid (by simp)
          rw [HE.out]
          cases c6 : inB (a + r - 0) lo hi
          all_goals
            have K3 := Lib.hid (lqwithin_eq c6)
            rw [show a + r - 0 = a + r by omega] at K3
            clear c6 HE c3 c4 c5
            go_enter Try.func59, Try.ntmps59
            go_wp2_with (go_at_call 79; (first | with_reducible refine Calls.mono (K1.out _) ?_ | with_reducible refine Calls.mono (K2.out _) ?_ | with_reducible refine Calls.mono (K3.out _) ?_); rintro e w' ⟨rfl, rfl⟩)
            go_ret
            exact ⟨rfl, below_alloc w _⟩
        · have d7 : (p == 0) = false := by rw [beq_eq_false_iff_ne]; exact c7
          have HE : Hid ((decide (r = 0) || decide (p = 0)) = false) := Lib.hid (by simp [c5, c7])
          rw [HE.out]
          clear HE c3 c4 c5 c7
          go_enter Try.func59, Try.ntmps59
          go_wp2_with (go_at_call 79; (first | with_reducible refine Calls.mono (K1.out _) ?_ | with_reducible refine Calls.mono (K2.out _) ?_); rintro e w' ⟨rfl, rfl⟩)
          go_ret
          exact ⟨rfl, below_alloc w _⟩
    · have d4 : (p % lt == 0) = false := by rw [beq_eq_false_iff_ne]; exact c4
      have HE : Hid ((true && (true && (decide (r % lt = 0) && (decide (p % lt = 0) && ((decide (r = 0) || decide (p = 0)) && inB (a + r - p) lo hi))))) = false) := Lib.hid (by rw [decide_eq_true c3, decide_eq_false c4]; simp)
      rw [HE.out]
      clear HE c3 c4
      go_enter Try.func59, Try.ntmps59
      go_wp2_with (go_at_call 79; (first | with_reducible refine Calls.mono (K1.out _) ?_ | with_reducible refine Calls.mono (K2.out _) ?_); rintro e w' ⟨rfl, rfl⟩)
      go_ret
      exact ⟨rfl, below_alloc w _⟩
  · have d3 : (r % lt == 0) = false := by rw [beq_eq_false_iff_ne]; exact c3
    have HE : Hid ((true && (true && (decide (r % lt = 0) && (decide (p % lt = 0) && ((decide (r = 0) || decide (p = 0)) && inB (a + r - p) lo hi))))) = false) := Lib.hid (by rw [decide_eq_false c3]; simp)
    rw [HE.out]
    clear HE c3
    go_enter Try.func59, Try.ntmps59
    go_wp2_with (go_at_call 79; (first | with_reducible refine Calls.mono (K1.out _) ?_ | with_reducible refine Calls.mono (K2.out _) ?_); rintro e w' ⟨rfl, rfl⟩)
    go_ret
    exact ⟨rfl, below_alloc w _⟩

end Go.Proofs.Ythajkhonapjihab
