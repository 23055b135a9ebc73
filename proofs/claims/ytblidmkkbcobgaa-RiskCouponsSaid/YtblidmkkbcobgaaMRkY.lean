/- Contracts of the reference's coupon functions, of one security that is right. -/
import Derived.Test.YtblidmkkbcobgaaMCoup
import Derived.Test.YtblidmkkbcobgaaMRyG
set_option linter.unusedSimpArgs false
set_option linter.unusedVariables false
set_option linter.unusedSimpArgs false
set_option linter.unusedVariables false
namespace Go.Proofs.Ytblidmkkbcobgaa
open Go.RowKit Go.Lib Go.Proofs

set_option maxHeartbeats 400000 in
theorem rvValid_amt {n : Int} (h0 : 0 ≤ n) (h1 : n ≤ 1000000000000) (w : World) : Calls Try.prog 66 #[.int .i64 n] w fun e w' => e = .returned (.bool true) ∧ w = w' := by
  go_enter Try.func66, Try.ntmps66
  go_wp2
  go_ret
  exact ⟨rfl, rfl⟩

set_option maxHeartbeats 1000000 in
theorem r34Coupon_ok {s : Sec} {z r : Int} (h : SecOk s z r) (a : Int) (a0 : 0 ≤ a) (a1 : a ≤ 1000000000000) (w : World) :
    Calls Try.prog 28 #[.agg s.cells.toArray, .int .i64 a] w fun e w' => e = .returned (.tuple #[.int .i64 (couponI s a), .int .i64 0]) ∧ Below w.heap.size w w' := by
  have HS := Lib.hid (fun W => rySecurity_ok h W)
  have HV := Lib.hid (fun W => rvValid_amt a0 a1 W)
  obtain ⟨m1, m2, m3, m4⟩ := mul3_le a0 a1 h.rate0 h.rate1 h.ev0.1 h.ev0.2
  have hq : couponI s a = (a * s.rate * s.ev + 600000) / 1200000 := rfl
  rw [hq]
  obtain ⟨i, u, b, m, q, e, x⟩ := s
  simp only [Sec.cells] at *
  have HB := Lib.hid (below_alloc w (.cells #[.int .i64 i, .int .i64 u, .int .i64 b, .int .i64 m, .int .i64 q, .int .i64 e, .bool x] 55))
  have hc := heap_alloc_new w (.cells #[.int .i64 i, .int .i64 u, .int .i64 b, .int .i64 m, .int .i64 q, .int .i64 e, .bool x] 55)
  have HC := Lib.hid hc
  obtain ⟨p1, hp1⟩ : ∃ p, p = a * q := ⟨_, rfl⟩
  rw [← hp1] at m1 m2 m3 m4 ⊢
  obtain ⟨p2, hp2⟩ : ∃ p, p = p1 * e := ⟨_, rfl⟩
  rw [← hp2] at m3 m4 ⊢
  have hw1 : IntKind.i64.wrap (a * q) = p1 := by rw [← hp1]; exact IntWalk.i64_in _ (by omega)
  have hw2 : IntKind.i64.wrap (p1 * e) = p2 := by rw [← hp2]; exact IntWalk.i64_in _ (by omega)
  have hw3 : IntKind.i64.wrap (p2 + 600000) = p2 + 600000 := IntWalk.i64_in _ (by omega)
  have hw4 : wrap64 ((p2 + 600000).tdiv 1200000) = (p2 + 600000) / 1200000 := by rw [Int.tdiv_eq_ediv_of_nonneg (by omega)]; exact IntWalk.wrap64_in _ (by omega)
  have hw5 : IntKind.i64.wrap ((p2 + 600000).tdiv 1200000) = (p2 + 600000) / 1200000 := by rw [Int.tdiv_eq_ediv_of_nonneg (by omega)]; exact IntWalk.i64_in _ (by omega)
  clear h hq hc hp1 hp2
  go_enter Try.func28, Try.ntmps28
  go_wp2_with fail
  refine (HS.out _).mono ?_
  rintro e w2 ⟨rfl, hb2⟩
  have hc2 := obj_below HC.out hb2
  have v4 := obj_cell hc2 4
  have v5 := obj_cell hc2 5
  simp at v4 v5
  have HB2 := Lib.hid (HB.out.trans (hb2.mono (by simp)))
  clear hb2 hc2 HC HB HS
  go_wp2_with (go_at_call 66; refine (HV.out _).mono ?_; rintro e w3 ⟨rfl, rfl⟩)
  go_ret2
  exact ⟨rfl, HB2.out⟩

set_option maxHeartbeats 2000000 in
theorem r34Days_ok {s : Sec} {z r : Int} (h : SecOk s z r) (w : World) : Calls Try.prog 30 #[.agg s.cells.toArray] w (DaysPost s z r w) := by
  obtain ⟨i0, hi0, hz0, hz1, hz2⟩ := info_parts Try.infoInt
  have HS := Lib.hid (fun W => rySecurity_ok h W)
  have HH := Lib.hid h
  have HS0 := Lib.hid (show ∃ c, s.cells.toArray = c from ⟨_, rfl⟩)
  have hev := h.ev
  have b0 := h.iss0
  have b1 := h.mat1
  have b9 := h.iss1
  have hr0 := h.r0
  have htm := h.term
  have hzr := h.zr
  by_cases hz : s.ev = 0
  · have hd : daysM s z r = [] := by unfold daysM; rw [if_pos hz]
    unfold DaysPost
    rw [hd]
    clear hev htm hzr
    obtain ⟨i, u, b, m, q, e, x⟩ := s
    simp only [Sec.cells] at *
    subst hz
    have HB := Lib.hid (below_alloc w (.cells #[.int .i64 i, .int .i64 u, .int .i64 b, .int .i64 m, .int .i64 q, .int .i64 0, .bool x] 55))
    have hc := heap_alloc_new w (.cells #[.int .i64 i, .int .i64 u, .int .i64 b, .int .i64 m, .int .i64 q, .int .i64 0, .bool x] 55)
    have HC := Lib.hid hc
    clear h hd hc
    go_enter Try.func30, Try.ntmps30
    go_wp2_with fail
    refine (HS.out _).mono ?_
    rintro e w2 ⟨rfl, hb2⟩
    have hc2 := obj_below HC.out hb2
    have v5 := obj_cell hc2 5
    simp at v5
    have HB2 := Lib.hid (HB.out.trans (hb2.mono (by simp)))
    clear hb2 hc2 HC HB HS
    go_wp2
    go_ret
    exact ⟨_, rfl, World.ownsRow_nil _ _ _ _, HB2.out⟩
  · have hd : daysM s z r = daysL s z r.toNat := by unfold daysM; rw [if_neg hz]
    have hez : s.ev = z := by rcases hev with h | h | h | h | h <;> omega
    obtain ⟨n, rfl⟩ : ∃ n : Nat, r = n := ⟨r.toNat, by omega⟩
    unfold DaysPost
    rw [hd, daysL_len, Int.toNat_natCast]
    obtain ⟨i, u, b, m, q, e, x⟩ := s
    simp only at *
    subst hez
    have HBX := Lib.hid (show (w.alloc (.cells #[.int .i64 i, .int .i64 u, .int .i64 b, .int .i64 m, .int .i64 q, .int .i64 e, .bool x] 55)).heap[w.heap.size]? = some (.cells (Sec.cells ⟨i, u, b, m, q, e, x⟩).toArray 55 (0, 0)) from heap_alloc_new w _)
    have HB := Lib.hid (below_alloc w (.cells #[.int .i64 i, .int .i64 u, .int .i64 b, .int .i64 m, .int .i64 q, .int .i64 e, .bool x] 55))
    have hev2 : e = 1 ∨ e = 3 ∨ e = 6 ∨ e = 12 := by omega
    have HT := Lib.hid htm
    clear hev hd h htm
    rcases hev2 with rfl | rfl | rfl | rfl
    · have hn : n ≤ 600 := by omega
      have HT2 : Hid (m = b + 30 * (n : Int)) := Lib.hid (by have := HT.out; omega)
      simp only [Sec.cells] at HS HBX ⊢
      clear HT HH HS0 hzr hz
      go_enter Try.func30, Try.ntmps30
      go_wp2_with fail
      with_reducible refine (HS.out _).mono ?_
      rintro e w2 ⟨rfl, hb2⟩
      have hc2 := obj_below HBX.out hb2
      have v2 := obj_cell hc2 2
      have v3 := obj_cell hc2 3
      have v5 := obj_cell hc2 5
      simp at v2 v3 v5
      have HC2 := Lib.hid hc2
      have HB2 := Lib.hid (HB.out.trans (hb2.mono (by simp)))
      clear hb2 hc2 HBX HB HS
      go_wp2
      clear v2 v3 v5
      go_loopw [3, 4] (fun v c wr => ∃ (k : Nat) (dd : Int), c = .int .i64 dd ∧ dd = b + 30 * ((k : Int) + 1) ∧ k ≤ n ∧ DyInv w ⟨i, u, b, m, q, 1, x⟩ 1 k v wr) (fun _ c _ => (m + 1000 - RowKit.intOf c).toNat)
      case atStart => exact ⟨0, b + 30, by go_num, by omega, Nat.zero_le _, HC2.out, World.ownsRow_nil _ _ _ _, HB2.out⟩
      case round =>
        obtain ⟨k, dd, rfl, hdd, hkn, hinv⟩ := hrel
        have hbx := hinv.box
        have hown := hinv.own
        have hold := hinv.old.size
        have hsz := obj_lt hbx
        have HDD := Lib.hid hdd
        have HI := Lib.hid hinv
        have z3 := obj_cell hbx 3
        have z5 := obj_cell hbx 5
        simp [Sec.cells] at z3 z5
        by_cases hlt : k < n
        · have hle : dd ≤ m := by have := HT2.out; omega
          have hdd0 : 0 ≤ dd := by omega
          have hnd : ¬ m < dd := by omega
          have HBX := Lib.hid hbx
          clear hinv hdd hbx
          go_wp2_with (at_builtin; refine wpList_append_own _ rfl _ _ 22 rfl (w.heap.size + 1) 3 i0 (.int .i64 0) 1 8 Try.underlying22 hi0 hz0 hz1 hz2 rfl (by decide) _ _ _ rfl (hown.alloc _) ⟨wr.heap.size, 0, none⟩ 1 1 [.int .i64 dd] rfl rfl (one_new _ _ _ _ rfl) (one_int _ _) (by unfold maxLen; omega) (by omega) (by simp; omega) ?_; intro v' w4 hown4 hgr4 _; (have hbx4 : w4.heap[w.heap.size]? = some (.cells (Sec.cells ⟨i, u, b, m, q, 1, x⟩).toArray 55 (0, 0)) := (hgr4.block _ (by simp; omega) (fun e => by have := ownBlock_le HI.out.own _ e.symm; omega)).trans (obj_below HBX.out (below_alloc wr _))); (have z5 := obj_cell hbx4 5); (simp [Sec.cells] at z5); (have HBX4 := Lib.hid hbx4); clear hbx4)
          go_roundw
          case rel =>
            refine ⟨k + 1, dd + 30, by go_num, by have := HDD.out; omega, by omega, HBX4.out, ?_, ((HI.out.old.alloc HI.out.old.size _).grown hgr4 (by simp; omega) fun r hr => by have := ownBlock_le HI.out.own r hr; omega)⟩
            rw [HDD.out] at hown4
            have h5 := daysL_snoc ⟨i, u, b, m, q, 1, x⟩ 1 k
            simp only at h5
            rw [show b + 30 * 1 * ((k : Int) + 1) = b + 30 * ((k : Int) + 1) by omega] at h5
            rw [h5] at hown4
            exact hown4
          case measure => simp [RowKit.intOf]; omega
        · obtain rfl : k = n := by omega
          have hgt : m < dd := by have := HT2.out; omega
          have hnd : ¬ dd ≤ m := by omega
          clear hinv hdd hbx
          go_wp2
          go_ret
          exact ⟨_, rfl, ownsRow_mono HI.out.own (by omega), HI.out.old⟩
    · have hn : n ≤ 600 := by omega
      have HT2 : Hid (m = b + 90 * (n : Int)) := Lib.hid (by have := HT.out; omega)
      simp only [Sec.cells] at HS HBX ⊢
      clear HT HH HS0 hzr hz
      go_enter Try.func30, Try.ntmps30
      go_wp2_with fail
      with_reducible refine (HS.out _).mono ?_
      rintro e w2 ⟨rfl, hb2⟩
      have hc2 := obj_below HBX.out hb2
      have v2 := obj_cell hc2 2
      have v3 := obj_cell hc2 3
      have v5 := obj_cell hc2 5
      simp at v2 v3 v5
      have HC2 := Lib.hid hc2
      have HB2 := Lib.hid (HB.out.trans (hb2.mono (by simp)))
      clear hb2 hc2 HBX HB HS
      go_wp2
      clear v2 v3 v5
      go_loopw [3, 4] (fun v c wr => ∃ (k : Nat) (dd : Int), c = .int .i64 dd ∧ dd = b + 90 * ((k : Int) + 1) ∧ k ≤ n ∧ DyInv w ⟨i, u, b, m, q, 3, x⟩ 3 k v wr) (fun _ c _ => (m + 1000 - RowKit.intOf c).toNat)
      case atStart => exact ⟨0, b + 90, by go_num, by omega, Nat.zero_le _, HC2.out, World.ownsRow_nil _ _ _ _, HB2.out⟩
      case round =>
        obtain ⟨k, dd, rfl, hdd, hkn, hinv⟩ := hrel
        have hbx := hinv.box
        have hown := hinv.own
        have hold := hinv.old.size
        have hsz := obj_lt hbx
        have HDD := Lib.hid hdd
        have HI := Lib.hid hinv
        have z3 := obj_cell hbx 3
        have z5 := obj_cell hbx 5
        simp [Sec.cells] at z3 z5
        by_cases hlt : k < n
        · have hle : dd ≤ m := by have := HT2.out; omega
          have hdd0 : 0 ≤ dd := by omega
          have hnd : ¬ m < dd := by omega
          have HBX := Lib.hid hbx
          clear hinv hdd hbx
          go_wp2_with (at_builtin; refine wpList_append_own _ rfl _ _ 22 rfl (w.heap.size + 1) 3 i0 (.int .i64 0) 1 8 Try.underlying22 hi0 hz0 hz1 hz2 rfl (by decide) _ _ _ rfl (hown.alloc _) ⟨wr.heap.size, 0, none⟩ 1 1 [.int .i64 dd] rfl rfl (one_new _ _ _ _ rfl) (one_int _ _) (by unfold maxLen; omega) (by omega) (by simp; omega) ?_; intro v' w4 hown4 hgr4 _; (have hbx4 : w4.heap[w.heap.size]? = some (.cells (Sec.cells ⟨i, u, b, m, q, 3, x⟩).toArray 55 (0, 0)) := (hgr4.block _ (by simp; omega) (fun e => by have := ownBlock_le HI.out.own _ e.symm; omega)).trans (obj_below HBX.out (below_alloc wr _))); (have z5 := obj_cell hbx4 5); (simp [Sec.cells] at z5); (have HBX4 := Lib.hid hbx4); clear hbx4)
          go_roundw
          case rel =>
            refine ⟨k + 1, dd + 90, by go_num, by have := HDD.out; omega, by omega, HBX4.out, ?_, ((HI.out.old.alloc HI.out.old.size _).grown hgr4 (by simp; omega) fun r hr => by have := ownBlock_le HI.out.own r hr; omega)⟩
            rw [HDD.out] at hown4
            have h5 := daysL_snoc ⟨i, u, b, m, q, 3, x⟩ 3 k
            simp only at h5
            rw [show b + 30 * 3 * ((k : Int) + 1) = b + 90 * ((k : Int) + 1) by omega] at h5
            rw [h5] at hown4
            exact hown4
          case measure => simp [RowKit.intOf]; omega
        · obtain rfl : k = n := by omega
          have hgt : m < dd := by have := HT2.out; omega
          have hnd : ¬ dd ≤ m := by omega
          clear hinv hdd hbx
          go_wp2
          go_ret
          exact ⟨_, rfl, ownsRow_mono HI.out.own (by omega), HI.out.old⟩
    · have hn : n ≤ 600 := by omega
      have HT2 : Hid (m = b + 180 * (n : Int)) := Lib.hid (by have := HT.out; omega)
      simp only [Sec.cells] at HS HBX ⊢
      clear HT HH HS0 hzr hz
      go_enter Try.func30, Try.ntmps30
      go_wp2_with fail
      with_reducible refine (HS.out _).mono ?_
      rintro e w2 ⟨rfl, hb2⟩
      have hc2 := obj_below HBX.out hb2
      have v2 := obj_cell hc2 2
      have v3 := obj_cell hc2 3
      have v5 := obj_cell hc2 5
      simp at v2 v3 v5
      have HC2 := Lib.hid hc2
      have HB2 := Lib.hid (HB.out.trans (hb2.mono (by simp)))
      clear hb2 hc2 HBX HB HS
      go_wp2
      clear v2 v3 v5
      go_loopw [3, 4] (fun v c wr => ∃ (k : Nat) (dd : Int), c = .int .i64 dd ∧ dd = b + 180 * ((k : Int) + 1) ∧ k ≤ n ∧ DyInv w ⟨i, u, b, m, q, 6, x⟩ 6 k v wr) (fun _ c _ => (m + 1000 - RowKit.intOf c).toNat)
      case atStart => exact ⟨0, b + 180, by go_num, by omega, Nat.zero_le _, HC2.out, World.ownsRow_nil _ _ _ _, HB2.out⟩
      case round =>
        obtain ⟨k, dd, rfl, hdd, hkn, hinv⟩ := hrel
        have hbx := hinv.box
        have hown := hinv.own
        have hold := hinv.old.size
        have hsz := obj_lt hbx
        have HDD := Lib.hid hdd
        have HI := Lib.hid hinv
        have z3 := obj_cell hbx 3
        have z5 := obj_cell hbx 5
        simp [Sec.cells] at z3 z5
        by_cases hlt : k < n
        · have hle : dd ≤ m := by have := HT2.out; omega
          have hdd0 : 0 ≤ dd := by omega
          have hnd : ¬ m < dd := by omega
          have HBX := Lib.hid hbx
          clear hinv hdd hbx
          go_wp2_with (at_builtin; refine wpList_append_own _ rfl _ _ 22 rfl (w.heap.size + 1) 3 i0 (.int .i64 0) 1 8 Try.underlying22 hi0 hz0 hz1 hz2 rfl (by decide) _ _ _ rfl (hown.alloc _) ⟨wr.heap.size, 0, none⟩ 1 1 [.int .i64 dd] rfl rfl (one_new _ _ _ _ rfl) (one_int _ _) (by unfold maxLen; omega) (by omega) (by simp; omega) ?_; intro v' w4 hown4 hgr4 _; (have hbx4 : w4.heap[w.heap.size]? = some (.cells (Sec.cells ⟨i, u, b, m, q, 6, x⟩).toArray 55 (0, 0)) := (hgr4.block _ (by simp; omega) (fun e => by have := ownBlock_le HI.out.own _ e.symm; omega)).trans (obj_below HBX.out (below_alloc wr _))); (have z5 := obj_cell hbx4 5); (simp [Sec.cells] at z5); (have HBX4 := Lib.hid hbx4); clear hbx4)
          go_roundw
          case rel =>
            refine ⟨k + 1, dd + 180, by go_num, by have := HDD.out; omega, by omega, HBX4.out, ?_, ((HI.out.old.alloc HI.out.old.size _).grown hgr4 (by simp; omega) fun r hr => by have := ownBlock_le HI.out.own r hr; omega)⟩
            rw [HDD.out] at hown4
            have h5 := daysL_snoc ⟨i, u, b, m, q, 6, x⟩ 6 k
            simp only at h5
            rw [show b + 30 * 6 * ((k : Int) + 1) = b + 180 * ((k : Int) + 1) by omega] at h5
            rw [h5] at hown4
            exact hown4
          case measure => simp [RowKit.intOf]; omega
        · obtain rfl : k = n := by omega
          have hgt : m < dd := by have := HT2.out; omega
          have hnd : ¬ dd ≤ m := by omega
          clear hinv hdd hbx
          go_wp2
          go_ret
          exact ⟨_, rfl, ownsRow_mono HI.out.own (by omega), HI.out.old⟩
    · have hn : n ≤ 600 := by omega
      have HT2 : Hid (m = b + 360 * (n : Int)) := Lib.hid (by have := HT.out; omega)
      simp only [Sec.cells] at HS HBX ⊢
      clear HT HH HS0 hzr hz
      go_enter Try.func30, Try.ntmps30
      go_wp2_with fail
      with_reducible refine (HS.out _).mono ?_
      rintro e w2 ⟨rfl, hb2⟩
      have hc2 := obj_below HBX.out hb2
      have v2 := obj_cell hc2 2
      have v3 := obj_cell hc2 3
      have v5 := obj_cell hc2 5
      simp at v2 v3 v5
      have HC2 := Lib.hid hc2
      have HB2 := Lib.hid (HB.out.trans (hb2.mono (by simp)))
      clear hb2 hc2 HBX HB HS
      go_wp2
      clear v2 v3 v5
      go_loopw [3, 4] (fun v c wr => ∃ (k : Nat) (dd : Int), c = .int .i64 dd ∧ dd = b + 360 * ((k : Int) + 1) ∧ k ≤ n ∧ DyInv w ⟨i, u, b, m, q, 12, x⟩ 12 k v wr) (fun _ c _ => (m + 1000 - RowKit.intOf c).toNat)
      case atStart => exact ⟨0, b + 360, by go_num, by omega, Nat.zero_le _, HC2.out, World.ownsRow_nil _ _ _ _, HB2.out⟩
      case round =>
        obtain ⟨k, dd, rfl, hdd, hkn, hinv⟩ := hrel
        have hbx := hinv.box
        have hown := hinv.own
        have hold := hinv.old.size
        have hsz := obj_lt hbx
        have HDD := Lib.hid hdd
        have HI := Lib.hid hinv
        have z3 := obj_cell hbx 3
        have z5 := obj_cell hbx 5
        simp [Sec.cells] at z3 z5
        by_cases hlt : k < n
        · have hle : dd ≤ m := by have := HT2.out; omega
          have hdd0 : 0 ≤ dd := by omega
          have hnd : ¬ m < dd := by omega
          have HBX := Lib.hid hbx
          clear hinv hdd hbx
          go_wp2_with (at_builtin; refine wpList_append_own _ rfl _ _ 22 rfl (w.heap.size + 1) 3 i0 (.int .i64 0) 1 8 Try.underlying22 hi0 hz0 hz1 hz2 rfl (by decide) _ _ _ rfl (hown.alloc _) ⟨wr.heap.size, 0, none⟩ 1 1 [.int .i64 dd] rfl rfl (one_new _ _ _ _ rfl) (one_int _ _) (by unfold maxLen; omega) (by omega) (by simp; omega) ?_; intro v' w4 hown4 hgr4 _; (have hbx4 : w4.heap[w.heap.size]? = some (.cells (Sec.cells ⟨i, u, b, m, q, 12, x⟩).toArray 55 (0, 0)) := (hgr4.block _ (by simp; omega) (fun e => by have := ownBlock_le HI.out.own _ e.symm; omega)).trans (obj_below HBX.out (below_alloc wr _))); (have z5 := obj_cell hbx4 5); (simp [Sec.cells] at z5); (have HBX4 := Lib.hid hbx4); clear hbx4)
          go_roundw
          case rel =>
            refine ⟨k + 1, dd + 360, by go_num, by have := HDD.out; omega, by omega, HBX4.out, ?_, ((HI.out.old.alloc HI.out.old.size _).grown hgr4 (by simp; omega) fun r hr => by have := ownBlock_le HI.out.own r hr; omega)⟩
            rw [HDD.out] at hown4
            have h5 := daysL_snoc ⟨i, u, b, m, q, 12, x⟩ 12 k
            simp only at h5
            rw [show b + 30 * 12 * ((k : Int) + 1) = b + 360 * ((k : Int) + 1) by omega] at h5
            rw [h5] at hown4
            exact hown4
          case measure => simp [RowKit.intOf]; omega
        · obtain rfl : k = n := by omega
          have hgt : m < dd := by have := HT2.out; omega
          have hnd : ¬ dd ≤ m := by omega
          clear hinv hdd hbx
          go_wp2
          go_ret
          exact ⟨_, rfl, ownsRow_mono HI.out.own (by omega), HI.out.old⟩


end Go.Proofs.Ytblidmkkbcobgaa
