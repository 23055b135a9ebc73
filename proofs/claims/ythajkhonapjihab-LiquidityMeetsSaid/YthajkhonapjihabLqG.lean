/- The reference's Check and Decide of a band; whether each plan has a position. -/
import Derived.Test.YthajkhonapjihabLqE
import Derived.IntWalk
set_option linter.unusedSimpArgs false
set_option linter.unusedVariables false
namespace Go.Proofs.Ythajkhonapjihab
open Go.RowKit Go.Lib Go.Proofs

set_option maxHeartbeats 400000 in
theorem rValid_yes {n : Int} (w : World) (h0 : 0 ≤ n) (h1 : n ≤ 1000000000000) : Calls Try.prog 31 #[.int .i64 n] w fun e w' => e = .returned (.bool true) ∧ w = w' := by
  go_enter Try.func31, Try.ntmps31
  go_wp2
  go_ret
  exact ⟨rfl, rfl⟩
set_option maxHeartbeats 400000 in
theorem rTotal_yes {n : Int} (w : World) (h0 : -1000000000000000 ≤ n) (h1 : n ≤ 1000000000000000) : Calls Try.prog 44 #[.int .i64 n] w fun e w' => e = .returned (.bool true) ∧ w = w' := by
  go_enter Try.func44, Try.ntmps44
  go_wp2
  go_ret
  exact ⟨rfl, rfl⟩

set_option maxRecDepth 100000 in
set_option maxHeartbeats 1000000 in
theorem r30Check_ok {b : Bnd} (h : BndOk b) (w : World) : Calls Try.prog 43 #[.agg b.cells.toArray] w fun e w' => e = .returned (.int .i64 0) ∧ Below w.heap.size w w' := by
  obtain ⟨lo, hi, lt, mr, mp⟩ := b
  obtain ⟨h1, h2, h3, h4, h5, h6, h7, h8, h9⟩ := h
  simp only [Bnd.cells] at *
  have n1 : ¬ lo < -1000000000000 := by omega
  have n2 : ¬ hi < lo := by omega
  have n3 : ¬ 1000000000000 < hi := by omega
  have n4 : ¬ lt < 1 := by omega
  have n5 : ¬ 1000000000000 < lt := by omega
  go_enter Try.func43, Try.ntmps43
  go_wp2_with (go_at_call 31; refine (rValid_yes _ (by omega) (by omega)).mono ?_; rintro e w' ⟨rfl, rfl⟩)
  go_ret
  exact ⟨rfl, below_alloc w _⟩

theorem okB_low {b : Bnd} (h : BndOk b) {a : Int} (hl : a < b.lo) : okB b a = decide (lotsI b (b.lo - a) ≤ b.mr ∧ a + lotsI b (b.lo - a) ≤ b.hi) := by
  have g := lots_ge h.lot0 (b.lo - a)
  have m := lots_mul b (b.lo - a)
  have h8 := h.mp0
  have key : okB b a = true ↔ (lotsI b (b.lo - a) ≤ b.mr ∧ a + lotsI b (b.lo - a) ≤ b.hi) := by
    unfold okB raiseI placeI
    rw [if_pos hl, if_pos hl, enoughB_iff]
    constructor
    · rintro ⟨h1, h2, h3, h4, h5, h6, h7⟩; omega
    · rintro ⟨h1, h2⟩
      exact ⟨⟨by omega, h1⟩, ⟨Int.le_refl _, h8⟩, m, by simp, Or.inr rfl, by omega, by omega⟩
  cases hq : okB b a with
  | true => exact (decide_eq_true (key.1 hq)).symm
  | false => exact (decide_eq_false fun hk => by rw [key.2 hk] at hq; cases hq).symm
theorem okB_high {b : Bnd} (h : BndOk b) {a : Int} (hl : ¬ a < b.lo) (hh : b.hi < a) : okB b a = decide (lotsI b (a - b.hi) ≤ b.mp ∧ b.lo ≤ a - lotsI b (a - b.hi)) := by
  have g := lots_ge h.lot0 (a - b.hi)
  have m := lots_mul b (a - b.hi)
  have h8 := h.mr0
  have key : okB b a = true ↔ (lotsI b (a - b.hi) ≤ b.mp ∧ b.lo ≤ a - lotsI b (a - b.hi)) := by
    unfold okB raiseI placeI
    rw [if_neg hl, if_neg hl, if_pos hh, enoughB_iff]
    constructor
    · rintro ⟨h1, h2, h3, h4, h5, h6, h7⟩; omega
    · rintro ⟨h1, h2⟩
      exact ⟨⟨Int.le_refl _, h8⟩, ⟨by omega, h1⟩, by simp, m, Or.inl rfl, by omega, by omega⟩
  cases hq : okB b a with
  | true => exact (decide_eq_true (key.1 hq)).symm
  | false => exact (decide_eq_false fun hk => by rw [key.2 hk] at hq; cases hq).symm
theorem okB_mid {b : Bnd} (h : BndOk b) {a : Int} (hl : ¬ a < b.lo) (hh : ¬ b.hi < a) : okB b a = true := by
  have h8 := h.mr0
  have h9 := h.mp0
  unfold okB raiseI placeI
  rw [if_neg hl, if_neg hl, if_neg hh, enoughB_iff]
  exact ⟨⟨Int.le_refl _, h8⟩, ⟨Int.le_refl _, h9⟩, by simp, by simp, Or.inl rfl, by omega, by omega⟩

/-- Whether something can be decided, as the reference says. -/
def R30Post (c : Bool) (w : World) (e : Ending) (w' : World) : Prop := ∃ r p : Int, e = .returned (.tuple #[.int .i64 r, .int .i64 p, .bool c]) ∧ Below w.heap.size w w'
set_option maxRecDepth 100000 in
set_option maxHeartbeats 4000000 in
theorem r30Decide_ok {b : Bnd} (h : BndOk b) (a : Int) (a0 : -1000000000000000 ≤ a) (a1 : a ≤ 1000000000000000) (w : World) : Calls Try.prog 23 #[.agg b.cells.toArray, .int .i64 a] w (R30Post (okB b a) w) := by
  have HCK := Lib.hid (fun W => r30Check_ok h W)
  have l0 := h.lot0
  have l1 := h.lot1
  have h3 := h.lo0
  have h4 := h.hi1
  have h5 := h.le
  have hmr := h.mr1
  have hmp := h.mp1
  have hmr0 := h.mr0
  have hmp0 := h.mp0
  obtain ⟨c, hc⟩ : ∃ c, c = okB b a := ⟨_, rfl⟩
  rw [← hc]
  by_cases hl : a < b.lo
  · have hk := hc.trans (okB_low h hl)
    have g := lots_ge h.lot0 (b.lo - a)
    have l := lots_le h.lot0 (b.lo - a)
    have q0 : 0 ≤ (b.lo - a + b.lot - 1) / b.lot := Int.ediv_nonneg (by omega) (by omega)
    have q1 : (b.lo - a + b.lot - 1) / b.lot ≤ b.lo - a + b.lot - 1 := Int.ediv_le_self _ (by omega)
    unfold lotsI at *
    obtain ⟨lo, hi, lt, mr, mp⟩ := b
    simp only [Bnd.cells] at *
    have hne : lt ≠ 0 := by omega
    have p0 : 0 ≤ lo - a + lt - 1 := by omega
    have hw1 : IntKind.i64.wrap (lo - a) = lo - a := IntWalk.i64_in _ (by omega)
    have hw2 : IntKind.i64.wrap (lo - a + lt) = lo - a + lt := IntWalk.i64_in _ (by omega)
    have hw3 : IntKind.i64.wrap (lo - a + lt - 1) = lo - a + lt - 1 := IntWalk.i64_in _ (by omega)
    have hw4 : wrap64 ((lo - a + lt - 1).tdiv lt) = (lo - a + lt - 1) / lt := by rw [Int.tdiv_eq_ediv_of_nonneg p0]; exact IntWalk.wrap64_in _ (by omega)
    have hw5 : wrap64 ((lo - a + lt - 1) / lt * lt) = (lo - a + lt - 1) / lt * lt := IntWalk.wrap64_in _ (by omega)
    have hw6 : wrap64 (a + (lo - a + lt - 1) / lt * lt) = a + (lo - a + lt - 1) / lt * lt := IntWalk.wrap64_in _ (by omega)
    have HK := Lib.hid hk
    clear hk h3 h4 h5 hmr hmp hmr0 hmp0 g l l0 l1 q0 q1 h hc
    by_cases hx : (lo - a + lt - 1) / lt * lt ≤ mr
    · by_cases hy : a + (lo - a + lt - 1) / lt * lt ≤ hi
      · obtain rfl : c = true := HK.out.trans (decide_eq_true ⟨hx, hy⟩)
        clear HK
        go_enter Try.func23, Try.ntmps23
        go_wp2_with (first | (go_at_call 43; refine (HCK.out _).mono ?_; rintro e w' ⟨rfl, hb⟩; (have hbx := obj_below (heap_alloc_new w (.cells #[.int .i64 lo, .int .i64 hi, .int .i64 lt, .int .i64 mr, .int .i64 mp] 48)) hb); (have u0 := obj_cell hbx 0); (have u1 := obj_cell hbx 1); (have u2 := obj_cell hbx 2); (have u3 := obj_cell hbx 3); (have u4 := obj_cell hbx 4); simp at u0 u1 u2 u3 u4; clear hbx) | (go_at_call 44; refine (rTotal_yes _ a0 a1).mono ?_; rintro e w' ⟨rfl, rfl⟩))
        go_quiet (fail)
        go_wp2
        go_ret3
        exact ⟨_, _, rfl, below_drewN ((below_alloc w _).trans (hb.mono (by simp))) _⟩
      · obtain rfl : c = false := HK.out.trans (decide_eq_false fun h => hy h.2)
        clear HK
        go_enter Try.func23, Try.ntmps23
        go_wp2_with (first | (go_at_call 43; refine (HCK.out _).mono ?_; rintro e w' ⟨rfl, hb⟩; (have hbx := obj_below (heap_alloc_new w (.cells #[.int .i64 lo, .int .i64 hi, .int .i64 lt, .int .i64 mr, .int .i64 mp] 48)) hb); (have u0 := obj_cell hbx 0); (have u1 := obj_cell hbx 1); (have u2 := obj_cell hbx 2); (have u3 := obj_cell hbx 3); (have u4 := obj_cell hbx 4); simp at u0 u1 u2 u3 u4; clear hbx) | (go_at_call 44; refine (rTotal_yes _ a0 a1).mono ?_; rintro e w' ⟨rfl, rfl⟩))
        go_quiet (fail)
        go_wp2
        go_ret3
        exact ⟨_, _, rfl, below_drewN ((below_alloc w _).trans (hb.mono (by simp))) _⟩
    · obtain rfl : c = false := HK.out.trans (decide_eq_false fun h => hx h.1)
      clear HK
      go_enter Try.func23, Try.ntmps23
      go_wp2_with (first | (go_at_call 43; refine (HCK.out _).mono ?_; rintro e w' ⟨rfl, hb⟩; (have hbx := obj_below (heap_alloc_new w (.cells #[.int .i64 lo, .int .i64 hi, .int .i64 lt, .int .i64 mr, .int .i64 mp] 48)) hb); (have u0 := obj_cell hbx 0); (have u1 := obj_cell hbx 1); (have u2 := obj_cell hbx 2); (have u3 := obj_cell hbx 3); (have u4 := obj_cell hbx 4); simp at u0 u1 u2 u3 u4; clear hbx) | (go_at_call 44; refine (rTotal_yes _ a0 a1).mono ?_; rintro e w' ⟨rfl, rfl⟩))
      go_quiet (fail)
      go_wp2
      go_ret3
      exact ⟨_, _, rfl, below_drewN ((below_alloc w _).trans (hb.mono (by simp))) _⟩
  by_cases hh : b.hi < a
  · have hk := hc.trans (okB_high h hl hh)
    have g := lots_ge h.lot0 (a - b.hi)
    have l := lots_le h.lot0 (a - b.hi)
    have q0 : 0 ≤ (a - b.hi + b.lot - 1) / b.lot := Int.ediv_nonneg (by omega) (by omega)
    have q1 : (a - b.hi + b.lot - 1) / b.lot ≤ a - b.hi + b.lot - 1 := Int.ediv_le_self _ (by omega)
    unfold lotsI at *
    obtain ⟨lo, hi, lt, mr, mp⟩ := b
    simp only [Bnd.cells] at *
    have hne : lt ≠ 0 := by omega
    have p0 : 0 ≤ a - hi + lt - 1 := by omega
    have hw1 : IntKind.i64.wrap (a - hi) = a - hi := IntWalk.i64_in _ (by omega)
    have hw2 : IntKind.i64.wrap (a - hi + lt) = a - hi + lt := IntWalk.i64_in _ (by omega)
    have hw3 : IntKind.i64.wrap (a - hi + lt - 1) = a - hi + lt - 1 := IntWalk.i64_in _ (by omega)
    have hw4 : wrap64 ((a - hi + lt - 1).tdiv lt) = (a - hi + lt - 1) / lt := by rw [Int.tdiv_eq_ediv_of_nonneg p0]; exact IntWalk.wrap64_in _ (by omega)
    have hw5 : wrap64 ((a - hi + lt - 1) / lt * lt) = (a - hi + lt - 1) / lt * lt := IntWalk.wrap64_in _ (by omega)
    have hw6 : wrap64 (a - (a - hi + lt - 1) / lt * lt) = a - (a - hi + lt - 1) / lt * lt := IntWalk.wrap64_in _ (by omega)
    have HK := Lib.hid hk
    clear hk h3 h4 h5 hmr hmp hmr0 hmp0 g l l0 l1 q0 q1 h hc
    by_cases hx : (a - hi + lt - 1) / lt * lt ≤ mp
    · by_cases hy : lo ≤ a - (a - hi + lt - 1) / lt * lt
      · obtain rfl : c = true := HK.out.trans (decide_eq_true ⟨hx, hy⟩)
        clear HK
        go_enter Try.func23, Try.ntmps23
        go_wp2_with (first | (go_at_call 43; refine (HCK.out _).mono ?_; rintro e w' ⟨rfl, hb⟩; (have hbx := obj_below (heap_alloc_new w (.cells #[.int .i64 lo, .int .i64 hi, .int .i64 lt, .int .i64 mr, .int .i64 mp] 48)) hb); (have u0 := obj_cell hbx 0); (have u1 := obj_cell hbx 1); (have u2 := obj_cell hbx 2); (have u3 := obj_cell hbx 3); (have u4 := obj_cell hbx 4); simp at u0 u1 u2 u3 u4; clear hbx) | (go_at_call 44; refine (rTotal_yes _ a0 a1).mono ?_; rintro e w' ⟨rfl, rfl⟩))
        go_quiet (fail)
        go_wp2
        go_ret3
        exact ⟨_, _, rfl, below_drewN ((below_alloc w _).trans (hb.mono (by simp))) _⟩
      · obtain rfl : c = false := HK.out.trans (decide_eq_false fun h => hy h.2)
        clear HK
        go_enter Try.func23, Try.ntmps23
        go_wp2_with (first | (go_at_call 43; refine (HCK.out _).mono ?_; rintro e w' ⟨rfl, hb⟩; (have hbx := obj_below (heap_alloc_new w (.cells #[.int .i64 lo, .int .i64 hi, .int .i64 lt, .int .i64 mr, .int .i64 mp] 48)) hb); (have u0 := obj_cell hbx 0); (have u1 := obj_cell hbx 1); (have u2 := obj_cell hbx 2); (have u3 := obj_cell hbx 3); (have u4 := obj_cell hbx 4); simp at u0 u1 u2 u3 u4; clear hbx) | (go_at_call 44; refine (rTotal_yes _ a0 a1).mono ?_; rintro e w' ⟨rfl, rfl⟩))
        go_quiet (fail)
        go_wp2
        go_ret3
        exact ⟨_, _, rfl, below_drewN ((below_alloc w _).trans (hb.mono (by simp))) _⟩
    · obtain rfl : c = false := HK.out.trans (decide_eq_false fun h => hx h.1)
      clear HK
      go_enter Try.func23, Try.ntmps23
      go_wp2_with (first | (go_at_call 43; refine (HCK.out _).mono ?_; rintro e w' ⟨rfl, hb⟩; (have hbx := obj_below (heap_alloc_new w (.cells #[.int .i64 lo, .int .i64 hi, .int .i64 lt, .int .i64 mr, .int .i64 mp] 48)) hb); (have u0 := obj_cell hbx 0); (have u1 := obj_cell hbx 1); (have u2 := obj_cell hbx 2); (have u3 := obj_cell hbx 3); (have u4 := obj_cell hbx 4); simp at u0 u1 u2 u3 u4; clear hbx) | (go_at_call 44; refine (rTotal_yes _ a0 a1).mono ?_; rintro e w' ⟨rfl, rfl⟩))
      go_quiet (fail)
      go_wp2
      go_ret3
      exact ⟨_, _, rfl, below_drewN ((below_alloc w _).trans (hb.mono (by simp))) _⟩
  obtain rfl : c = true := hc.trans (okB_mid h hl hh)
  obtain ⟨lo, hi, lt, mr, mp⟩ := b
  simp only [Bnd.cells] at *
  clear h hc
  go_enter Try.func23, Try.ntmps23
  go_wp2_with (first | (go_at_call 43; refine (HCK.out _).mono ?_; rintro e w' ⟨rfl, hb⟩; (have hbx := obj_below (heap_alloc_new w (.cells #[.int .i64 lo, .int .i64 hi, .int .i64 lt, .int .i64 mr, .int .i64 mp] 48)) hb); (have u0 := obj_cell hbx 0); (have u1 := obj_cell hbx 1); (have u2 := obj_cell hbx 2); (have u3 := obj_cell hbx 3); (have u4 := obj_cell hbx 4); simp at u0 u1 u2 u3 u4; clear hbx) | (go_at_call 44; refine (rTotal_yes _ a0 a1).mono ?_; rintro e w' ⟨rfl, rfl⟩))
  go_ret3
  exact ⟨_, _, rfl, (below_alloc w _).trans (hb.mono (by simp))⟩

set_option maxRecDepth 100000 in
set_option maxHeartbeats 1000000 in
theorem lqcovered_ok (ps ls : List Int) (hlen : ps.length ≤ 1000000) (hlen2 : ls.length ≤ 1000000) (hs : ps.Pairwise (· ≤ ·)) (hall : ∀ d ∈ ls, d ∈ ps) (v1 v2 : Value) (w : World) (h1 : NumsAt w v1 ps) (h2 : NumsAt w v2 ls) :
    Calls Try.prog 54 #[v1, v2] w fun e w' => e = .returned (.bool true) ∧ Below w.heap.size w w' := by
  have eg := enters_of Try.func80 (by kernel_rfl) rfl
  have H := Lib.hid (intContains_any 80 #[.pointer (some ⟨w.heap.size, 0, none⟩)] eg (fun d => !ps.contains d) ls v2 (w.alloc (.cells #[v1] 22)) (nums_list.1 (h2.below (below_alloc _ _))) hlen2 (fun d hd W hW => lqcoveredC_any ps hlen hs w.heap.size v1 d W (obj_cell (obj_below (heap_alloc_new w _) hW) 0) ((h1.below (below_alloc _ _)).below hW)))
  have hany : (ls.any fun d => !ps.contains d) = false := List.any_eq_false.2 fun d hd => by simp [hall d hd]
  rw [hany] at H
  obtain ⟨ao, cap, rfl, -, -⟩ := h1.shape
  clear h1 h2 hany hall hs
  generalize ps.length = n at *
  go_enter Try.func54, Try.ntmps54
  go_wp2_with fail
  refine (H.out).mono ?_
  rintro e w1 ⟨rfl, hb⟩
  have HB := Lib.hid ((below_alloc w _).trans (hb.mono (by simp)))
  clear hb
  go_wp2
  go_ret
  exact ⟨rfl, HB.out⟩

end Go.Proofs.Ythajkhonapjihab
