/- The walk of CalendarBusiness: the next business day, and how many there are in spans that join; for all days. -/
import Derived.Test.YtgnjboebnobjcaaDoorCMonths
import Derived.Deep.DeepCutAuto
namespace Go.Proofs.YtgnjboebnobjcaaDoor
open Go.RowKit Go.Lib Go.Proofs

theorem count_in {a b : Int} (h0 : 0 ≤ a) (h1 : a ≤ b) (h2 : b ≤ 36000) : countI a b = (bbI b - bbI a, 0) := by
  unfold countI
  rw [if_pos (by rw [dayB_true.2 ⟨h0, by omega⟩, dayB_true.2 ⟨by omega, h2⟩]; rfl), if_neg (by omega)]

set_option maxRecDepth 100000 in
set_option maxHeartbeats 2000000 in
theorem cbus_any (a b c : Int) (w : World) (ha : 0 ≤ a) (ha1 : a ≤ 65535) (hb : 0 ≤ b) (hb1 : b ≤ 65535) (hc : 0 ≤ c) (hc1 : c ≤ 65535) :
    Calls Tryd.prog 6 #[.int .u16 a, .int .u16 b, .int .u16 c] w fun e w' => e = .returned (.bool true) ∧ Below w.heap.size w w' := by
  obtain ⟨u, hu⟩ : ∃ u, u = a % 30000 := ⟨_, rfl⟩
  obtain ⟨v, hv⟩ : ∃ v, v = b % 30000 := ⟨_, rfl⟩
  obtain ⟨t, ht⟩ : ∃ t, t = c % 30000 := ⟨_, rfl⟩
  have hu0 : 0 ≤ u := by omega
  have hv0 : 0 ≤ v := by omega
  have ht0 : 0 ≤ t := by omega
  have hu1 : u < 30000 := by omega
  have hv1 : v < 30000 := by omega
  have ht1 : t < 30000 := by omega
  have HU := Lib.hid hu
  have HV := Lib.hid hv
  have HT := Lib.hid ht
  clear hu hv ht
  have HAW := Lib.hid awake_any
  go_enter Tryd.func6, Tryd.ntmps6
  go_wp2_with fail
  rw [← HU.out, ← HV.out, ← HT.out]
  go_upto_region 4 with fail
  go_cut [8, 10] (fun s8 s10 wx => ∃ x z : Int, s8 = .int .i64 x ∧ s10 = .int .i64 z ∧ 0 ≤ x ∧ z < 30000 ∧ x ≤ u + v + t - x - z ∧ u + v + t - x - z ≤ z ∧ wx.cell? ⟨w.heap.size, 0, none⟩ = some (.int .i64 u) ∧ wx.cell? ⟨w.heap.size, 1, none⟩ = some (.int .i64 v) ∧ wx.cell? ⟨w.heap.size, 2, none⟩ = some (.int .i64 t) ∧ Below w.heap.size w wx)
  case first =>
    clear HU HV HT HAW ha ha1 hb hb1 hc hc1
    go_quiet (fail)
    all_goals go_wp2_with fail
    all_goals go_meet
    all_goals refine ⟨_, _, rfl, rfl, ?_, ?_, ?_, ?_, by simp, by simp, by simp, below_drewN (below_alloc _ _) _⟩
    all_goals (repeat' split at *)
    all_goals omega
  case rest =>
    obtain ⟨x, z, rfl, rfl, hx0, hz1, hxy, hyz, l0, l1, l2, hbel⟩ := hcut
    obtain ⟨y, hy⟩ : ∃ y, y = u + v + t - x - z := ⟨_, rfl⟩
    have HY := Lib.hid hy
    rw [← hy] at hxy hyz
    clear hy
    go_wp2_with fail
    go_quiet (fail)
    rw [← HY.out]
    clear l0 l1 l2 HU HV HT HY
    have cxy := fun w => cCount_any x y w
    have cyz := fun w => cCount_any y z w
    have cxz := fun w => cCount_any x z w
    have cx7 := fun w => cCount_any x (x + 7) w
    have cnx := fun w => cNext_any x w
    rw [count_in (by omega) (by omega) (by omega)] at cxy cyz cxz cx7
    rw [show bbI (x + 7) - bbI x = 5 by unfold bbI; omega] at cx7
    have hbxy := bbI_mono hxy
    have hbyz := bbI_mono hyz
    have hbx := bbI_bd hx0 (show x ≤ 36000 by omega)
    have hbz := bbI_bd (show 0 ≤ z by omega) (show z ≤ 36000 by omega)
    rw [if_pos (dayB_true.2 ⟨hx0, by omega⟩), if_pos (dayB_true.2 ⟨hx0, by omega⟩)] at cnx
    obtain ⟨f1, f2, f3, f4⟩ := nextI_facts x hx0
    rw [checked_yes (dayB_true.2 ⟨by omega, by omega⟩)] at cnx
    have hbn : busB (nextI x) = true := busB_true.2 ⟨⟨by omega, by omega⟩, f3⟩
    have cbn := fun w => cBusiness_any (nextI x) w
    rw [hbn] at cbn
    generalize nextI x = n at *
    generalize bbI x = bx at *
    generalize bbI y = by' at *
    generalize bbI z = bz at *
    obtain ⟨hbx0, hbx1⟩ := hbx
    obtain ⟨hbz0, hbz1⟩ := hbz
    have C1 := Lib.hid cxy
    have C2 := Lib.hid cyz
    have C3 := Lib.hid cxz
    have C4 := Lib.hid cx7
    have C5 := Lib.hid cnx
    have C6 := Lib.hid cbn
    have F4 := Lib.hid f4
    have hsum : by' - bx + (bz - by') = bz - bx := by omega
    clear cxy cyz cxz cx7 cnx cbn hbn f4
    go_wp2_with fail
    refine (C1.out _).mono ?_
    rintro e w1 ⟨rfl, rfl⟩
    go_wp2_with fail
    refine (C2.out _).mono ?_
    rintro e w1 ⟨rfl, rfl⟩
    go_wp2_with fail
    refine (C3.out _).mono ?_
    rintro e w1 ⟨rfl, rfl⟩
    go_wp2_with fail
    refine (C4.out _).mono ?_
    rintro e w1 ⟨rfl, rfl⟩
    go_wp2_with fail
    refine (C5.out _).mono ?_
    rintro e w1 ⟨rfl, rfl⟩
    go_wp2_with fail
    refine (C6.out _).mono ?_
    rintro e w1 ⟨rfl, rfl⟩
    go_wp2_with fail
    go_loop [21] (fun s => ∃ k : Int, s = .int .i64 k ∧ x ≤ k ∧ k ≤ n) (fun s => (n - RowKit.intOf s).toNat)
    case atStart => exact ⟨x, rfl, by omega, by omega⟩
    case round =>
      obtain ⟨k, rfl, hk0, hk1⟩ := hrel
      by_cases hlt : k < n
      · have hkb : busB k = false := busB_false.2 (fun q => by have := F4.out k hk0 hlt; omega)
        have cb := fun w => cBusiness_any k w
        rw [hkb] at cb
        have CB := Lib.hid cb
        clear hkb cb
        go_wp2_with fail
        refine (CB.out _).mono ?_
        rintro e w1 ⟨rfl, rfl⟩
        go_wp2_with fail
        go_round
        case rel => exact ⟨k + 1, by first | rfl | go_num, by omega, by omega⟩
        case measure => simp [RowKit.intOf]; omega
      · go_wp2_with (go_at_call 7; refine (HAW.out _).mono ?_; rintro e w' ⟨rfl, hbel2⟩)
        go_ret
        exact ⟨rfl, below_drewN hbel _ |>.trans (hbel2.mono (by simpa using hbel.size))⟩

end Go.Proofs.YtgnjboebnobjcaaDoor
