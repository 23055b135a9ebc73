/- The walk of CouponDays: the days of coupons are evenly spaced, and the last one is the maturity; for every tape. -/
import Derived.Test.YtoidiofdjokpkaaCpS
namespace Go.Proofs.Ytoidiofdjokpkaa
open Go.RowKit Go.Lib Go.Proofs

/-- A world within a law about one security: it lies in block b; nothing older has turned. -/
structure CpInv (w : World) (b : Nat) (s : Sec) (W : World) : Prop where
  box : W.heap[b]? = some (.cells s.cells.toArray 27 (0, 0))
  old : Below w.heap.size w W
theorem CpInv.below {w : World} {b : Nat} {s : Sec} {A B : World} (h : CpInv w b s A) (hb : Below A.heap.size A B) : CpInv w b s B :=
  ⟨obj_below h.box hb, h.old.trans (hb.mono h.old.size)⟩

set_option maxHeartbeats 4000000 in
theorem cpdays_any (v : Value) (n : Nat) (w : World) (hi : IntsAt w v n w.heap.size) (hn : n ≤ 9223372036854775807) :
    Calls Try.prog 5 #[v] w fun e w' => e = .returned (.bool true) ∧ Below w.heap.size w w' := by
  have HNEW := Lib.hid (sNew_any v n w hi hn)
  have HSN := Lib.hid sane34_any
  clear hi hn
  go_enter Try.func5, Try.ntmps5
  go_wp2_with fail
  refine (HNEW.out).mono ?_
  rintro e w1 ⟨rfl, t1, b1⟩
  have HS := Lib.hid (sSecurity_any w.heap.size 1 w1 t1 (by decide) (by decide))
  have B1 := Lib.hid b1
  clear t1 b1 HNEW
  go_wp2_with fail
  refine (HS.out).mono ?_
  rintro e w2 ⟨s, z, r, rfl, hok, hid, hr5, hiss, hrate, t2, g2⟩
  have HB2 := Lib.hid (B1.out.grown g2 B1.out.size (by simp))
  have HOK := Lib.hid hok
  clear t2 g2 HS B1 hid
  have HD := Lib.hid (fun W => cpDays_ok hok W)
  have hev := hok.ev
  have hr0 := hok.r0
  have htm := hok.term
  have i0 := hok.iss0
  obtain ⟨i, un, bb, m, qq, ee, xx⟩ := s
  unfold DaysPost at HD
  simp only [Sec.cells] at HD hev htm i0 hiss hrate ⊢
  have hx : CpInv w w2.heap.size ⟨i, un, bb, m, qq, ee, xx⟩ (w2.alloc (.cells #[.int .i64 i, .int .i64 un, .int .i64 bb, .int .i64 m, .int .i64 qq, .int .i64 ee, .bool xx] 27)) := ⟨heap_alloc_new w2 _, HB2.out.alloc HB2.out.size _⟩
  have HX := Lib.hid hx
  clear hx HB2
  obtain ⟨k, rfl⟩ : ∃ k : Nat, r = k := ⟨r.toNat, by omega⟩
  have HT := Lib.hid htm
  clear hok htm
  rcases hev with ⟨rfl, rfl, rfl⟩ | ⟨rfl, rfl⟩ | ⟨rfl, rfl⟩ | ⟨rfl, rfl⟩ | ⟨rfl, rfl⟩
  · rw [show daysM ⟨i, un, bb, m, 0, 0, xx⟩ 1 (k : Int) = [] from rfl] at HD
    clear HOK
    go_wp2_with fail
    with_reducible refine (HD.out _).mono ?_
    rintro e w3 ⟨v', rfl, ho, b3⟩
    have HX3 := Lib.hid (HX.out.below b3)
    obtain ⟨ao, cap, rfl, hcap, _⟩ := owns_gen ho
    have hc3 := HX3.out.box
    have v0 := obj_cell hc3 0
    have v1 := obj_cell hc3 1
    have v2 := obj_cell hc3 2
    have v3 := obj_cell hc3 3
    have v4 := obj_cell hc3 4
    have v5 := obj_cell hc3 5
    have v6 := obj_cell hc3 6
    simp [Sec.cells] at v0 v1 v2 v3 v4 v5 v6
    clear hc3 ho b3 HX
    go_wp2_with (go_at_call 10; refine (HSN.out _).mono ?_; rintro e w6 ⟨rfl, b6⟩)
    go_ret
    exact ⟨rfl, (HX3.out.below b6).old⟩
  · rw [show daysM ⟨i, un, bb, m, qq, 1, xx⟩ 1 (k : Int) = daysL ⟨i, un, bb, m, qq, 1, xx⟩ 1 k from rfl, daysL_len] at HD
    have HG := Lib.hid (daysL_get ⟨i, un, bb, m, qq, 1, xx⟩ 1 k)
    clear HOK
    go_wp2_with fail
    with_reducible refine (HD.out _).mono ?_
    rintro e w3 ⟨v', rfl, ho, b3⟩
    have HX3 := Lib.hid (HX.out.below b3)
    have hc3 := HX3.out.box
    have hrow := RowAt.owns ho
    have v0 := obj_cell hc3 0
    have v1 := obj_cell hc3 1
    have v2 := obj_cell hc3 2
    have v3 := obj_cell hc3 3
    have v4 := obj_cell hc3 4
    have v5 := obj_cell hc3 5
    have v6 := obj_cell hc3 6
    simp [Sec.cells] at v0 v1 v2 v3 v4 v5 v6
    clear hc3 ho b3 HX HD
    rcases hrow with ⟨h0, _⟩ | ⟨g, o, cap, rfl, hlt, hcell⟩
    · have := congrArg List.length h0
      rw [daysL_len] at this
      simp at this
      omega
    rw [daysL_len] at hcell ⊢
    have HCELL := Lib.hid hcell
    clear hcell
    have hk5 : k ≤ 5 := by omega
    go_wp2
    go_loop [28, 6] (fun iv lv => ∃ (j : Nat) (p : Int), iv = .int .i64 j ∧ lv = .int .i64 p ∧ p = bb + 30 * (j : Int) ∧ j ≤ k) (fun iv _ => k - (RowKit.intOf iv).toNat)
    case atStart => exact ⟨0, bb, by first | rfl | go_num, rfl, by omega, by omega⟩
    case round =>
      obtain ⟨j, p, rfl, rfl, hp, hjk⟩ := hrel
      by_cases hlt : j < k
      · have hcl := HCELL.out j hlt
        rw [HG.out j hlt] at hcl
        rw [show bb + 30 * 1 * ((j : Int) + 1) = p + 30 by omega] at hcl
        have hp0 : 0 ≤ p := by omega
        have hp1 : p ≤ 2000 := by omega
        have hlti : (j : Int) < (k : Int) := by omega
        have hj0 : (0 : Int) ≤ (j : Int) := by omega
        have HP := Lib.hid hp
        clear hp hlt
        go_wp2
        go_round
        case rel => exact ⟨j + 1, p + 30, by first | rfl | go_num, by first | rfl | go_num, by have := HP.out; omega, by omega⟩
        case measure => simp [RowKit.intOf]; omega
      · obtain rfl : j = k := by omega
        have hpm : p = m := by have := HT.out; omega
        subst hpm
        clear hp hlt
        go_wp2_with (go_at_call 10; refine (HSN.out _).mono ?_; rintro e w6 ⟨rfl, b6⟩)
        go_ret
        exact ⟨rfl, (HX3.out.below b6).old⟩
  · rw [show daysM ⟨i, un, bb, m, qq, 3, xx⟩ 3 (k : Int) = daysL ⟨i, un, bb, m, qq, 3, xx⟩ 3 k from rfl, daysL_len] at HD
    have HG := Lib.hid (daysL_get ⟨i, un, bb, m, qq, 3, xx⟩ 3 k)
    clear HOK
    go_wp2_with fail
    with_reducible refine (HD.out _).mono ?_
    rintro e w3 ⟨v', rfl, ho, b3⟩
    have HX3 := Lib.hid (HX.out.below b3)
    have hc3 := HX3.out.box
    have hrow := RowAt.owns ho
    have v0 := obj_cell hc3 0
    have v1 := obj_cell hc3 1
    have v2 := obj_cell hc3 2
    have v3 := obj_cell hc3 3
    have v4 := obj_cell hc3 4
    have v5 := obj_cell hc3 5
    have v6 := obj_cell hc3 6
    simp [Sec.cells] at v0 v1 v2 v3 v4 v5 v6
    clear hc3 ho b3 HX HD
    rcases hrow with ⟨h0, _⟩ | ⟨g, o, cap, rfl, hlt, hcell⟩
    · have := congrArg List.length h0
      rw [daysL_len] at this
      simp at this
      omega
    rw [daysL_len] at hcell ⊢
    have HCELL := Lib.hid hcell
    clear hcell
    have hk5 : k ≤ 5 := by omega
    go_wp2
    go_loop [28, 6] (fun iv lv => ∃ (j : Nat) (p : Int), iv = .int .i64 j ∧ lv = .int .i64 p ∧ p = bb + 90 * (j : Int) ∧ j ≤ k) (fun iv _ => k - (RowKit.intOf iv).toNat)
    case atStart => exact ⟨0, bb, by first | rfl | go_num, rfl, by omega, by omega⟩
    case round =>
      obtain ⟨j, p, rfl, rfl, hp, hjk⟩ := hrel
      by_cases hlt : j < k
      · have hcl := HCELL.out j hlt
        rw [HG.out j hlt] at hcl
        rw [show bb + 30 * 3 * ((j : Int) + 1) = p + 90 by omega] at hcl
        have hp0 : 0 ≤ p := by omega
        have hp1 : p ≤ 2000 := by omega
        have hlti : (j : Int) < (k : Int) := by omega
        have hj0 : (0 : Int) ≤ (j : Int) := by omega
        have HP := Lib.hid hp
        clear hp hlt
        go_wp2
        go_round
        case rel => exact ⟨j + 1, p + 90, by first | rfl | go_num, by first | rfl | go_num, by have := HP.out; omega, by omega⟩
        case measure => simp [RowKit.intOf]; omega
      · obtain rfl : j = k := by omega
        have hpm : p = m := by have := HT.out; omega
        subst hpm
        clear hp hlt
        go_wp2_with (go_at_call 10; refine (HSN.out _).mono ?_; rintro e w6 ⟨rfl, b6⟩)
        go_ret
        exact ⟨rfl, (HX3.out.below b6).old⟩
  · rw [show daysM ⟨i, un, bb, m, qq, 6, xx⟩ 6 (k : Int) = daysL ⟨i, un, bb, m, qq, 6, xx⟩ 6 k from rfl, daysL_len] at HD
    have HG := Lib.hid (daysL_get ⟨i, un, bb, m, qq, 6, xx⟩ 6 k)
    clear HOK
    go_wp2_with fail
    with_reducible refine (HD.out _).mono ?_
    rintro e w3 ⟨v', rfl, ho, b3⟩
    have HX3 := Lib.hid (HX.out.below b3)
    have hc3 := HX3.out.box
    have hrow := RowAt.owns ho
    have v0 := obj_cell hc3 0
    have v1 := obj_cell hc3 1
    have v2 := obj_cell hc3 2
    have v3 := obj_cell hc3 3
    have v4 := obj_cell hc3 4
    have v5 := obj_cell hc3 5
    have v6 := obj_cell hc3 6
    simp [Sec.cells] at v0 v1 v2 v3 v4 v5 v6
    clear hc3 ho b3 HX HD
    rcases hrow with ⟨h0, _⟩ | ⟨g, o, cap, rfl, hlt, hcell⟩
    · have := congrArg List.length h0
      rw [daysL_len] at this
      simp at this
      omega
    rw [daysL_len] at hcell ⊢
    have HCELL := Lib.hid hcell
    clear hcell
    have hk5 : k ≤ 5 := by omega
    go_wp2
    go_loop [28, 6] (fun iv lv => ∃ (j : Nat) (p : Int), iv = .int .i64 j ∧ lv = .int .i64 p ∧ p = bb + 180 * (j : Int) ∧ j ≤ k) (fun iv _ => k - (RowKit.intOf iv).toNat)
    case atStart => exact ⟨0, bb, by first | rfl | go_num, rfl, by omega, by omega⟩
    case round =>
      obtain ⟨j, p, rfl, rfl, hp, hjk⟩ := hrel
      by_cases hlt : j < k
      · have hcl := HCELL.out j hlt
        rw [HG.out j hlt] at hcl
        rw [show bb + 30 * 6 * ((j : Int) + 1) = p + 180 by omega] at hcl
        have hp0 : 0 ≤ p := by omega
        have hp1 : p ≤ 2000 := by omega
        have hlti : (j : Int) < (k : Int) := by omega
        have hj0 : (0 : Int) ≤ (j : Int) := by omega
        have HP := Lib.hid hp
        clear hp hlt
        go_wp2
        go_round
        case rel => exact ⟨j + 1, p + 180, by first | rfl | go_num, by first | rfl | go_num, by have := HP.out; omega, by omega⟩
        case measure => simp [RowKit.intOf]; omega
      · obtain rfl : j = k := by omega
        have hpm : p = m := by have := HT.out; omega
        subst hpm
        clear hp hlt
        go_wp2_with (go_at_call 10; refine (HSN.out _).mono ?_; rintro e w6 ⟨rfl, b6⟩)
        go_ret
        exact ⟨rfl, (HX3.out.below b6).old⟩
  · rw [show daysM ⟨i, un, bb, m, qq, 12, xx⟩ 12 (k : Int) = daysL ⟨i, un, bb, m, qq, 12, xx⟩ 12 k from rfl, daysL_len] at HD
    have HG := Lib.hid (daysL_get ⟨i, un, bb, m, qq, 12, xx⟩ 12 k)
    clear HOK
    go_wp2_with fail
    with_reducible refine (HD.out _).mono ?_
    rintro e w3 ⟨v', rfl, ho, b3⟩
    have HX3 := Lib.hid (HX.out.below b3)
    have hc3 := HX3.out.box
    have hrow := RowAt.owns ho
    have v0 := obj_cell hc3 0
    have v1 := obj_cell hc3 1
    have v2 := obj_cell hc3 2
    have v3 := obj_cell hc3 3
    have v4 := obj_cell hc3 4
    have v5 := obj_cell hc3 5
    have v6 := obj_cell hc3 6
    simp [Sec.cells] at v0 v1 v2 v3 v4 v5 v6
    clear hc3 ho b3 HX HD
    rcases hrow with ⟨h0, _⟩ | ⟨g, o, cap, rfl, hlt, hcell⟩
    · have := congrArg List.length h0
      rw [daysL_len] at this
      simp at this
      omega
    rw [daysL_len] at hcell ⊢
    have HCELL := Lib.hid hcell
    clear hcell
    have hk5 : k ≤ 5 := by omega
    go_wp2
    go_loop [28, 6] (fun iv lv => ∃ (j : Nat) (p : Int), iv = .int .i64 j ∧ lv = .int .i64 p ∧ p = bb + 360 * (j : Int) ∧ j ≤ k) (fun iv _ => k - (RowKit.intOf iv).toNat)
    case atStart => exact ⟨0, bb, by first | rfl | go_num, rfl, by omega, by omega⟩
    case round =>
      obtain ⟨j, p, rfl, rfl, hp, hjk⟩ := hrel
      by_cases hlt : j < k
      · have hcl := HCELL.out j hlt
        rw [HG.out j hlt] at hcl
        rw [show bb + 30 * 12 * ((j : Int) + 1) = p + 360 by omega] at hcl
        have hp0 : 0 ≤ p := by omega
        have hp1 : p ≤ 2000 := by omega
        have hlti : (j : Int) < (k : Int) := by omega
        have hj0 : (0 : Int) ≤ (j : Int) := by omega
        have HP := Lib.hid hp
        clear hp hlt
        go_wp2
        go_round
        case rel => exact ⟨j + 1, p + 360, by first | rfl | go_num, by first | rfl | go_num, by have := HP.out; omega, by omega⟩
        case measure => simp [RowKit.intOf]; omega
      · obtain rfl : j = k := by omega
        have hpm : p = m := by have := HT.out; omega
        subst hpm
        clear hp hlt
        go_wp2_with (go_at_call 10; refine (HSN.out _).mono ?_; rintro e w6 ⟨rfl, b6⟩)
        go_ret
        exact ⟨rfl, (HX3.out.below b6).old⟩

end Go.Proofs.Ytoidiofdjokpkaa
