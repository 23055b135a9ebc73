/- The statements' example of a security, and that the chapter's example comes out. -/
import Derived.Test.YtoidiofdjokpkaaCoup
import Derived.Test.YtoidiofdjokpkaaSecS
namespace Go.Proofs.Ytoidiofdjokpkaa
open Go.RowKit Go.Lib Go.Proofs

def halfS : Sec := ⟨1, 1, 0, 720, 5000, 6, false⟩
theorem half_ok : SecOk halfS 6 4 := ⟨by decide, by decide, by decide, by decide, by decide, by decide, by decide, by decide, by decide, by decide, by decide, by decide, by decide⟩

set_option maxHeartbeats 400000 in
theorem half34_any (w : World) : Calls Try.prog 19 #[] w fun e w' => e = .returned (.agg halfS.cells.toArray) ∧ Below w.heap.size w w' := by
  go_enter Try.func19, Try.ntmps19
  go_wp2
  exact retB (heap_alloc_new w _) (fun F hF => by
    have q0 := obj_cell hF 0
    have q1 := obj_cell hF 1
    have q2 := obj_cell hF 2
    have q3 := obj_cell hF 3
    have q4 := obj_cell hF 4
    have q5 := obj_cell hF 5
    have q6 := obj_cell hF 6
    simp [results, Try.results19, go_sem, q0, q1, q2, q3, q4, q5, q6]
    rfl) rfl ⟨rfl, below_alloc w _⟩

set_option maxHeartbeats 1000000 in
theorem sane34_any (w : World) : Calls Try.prog 10 #[] w fun e w' => e = .returned (.bool true) ∧ Below w.heap.size w w' := by
  have HH := Lib.hid half34_any
  have HC := Lib.hid (fun W => cpCoupon_ok half_ok 100000 (by decide) (by decide) W)
  have HA := Lib.hid (fun W => cpAccrued_ok half_ok 100000 270 (by decide) (by decide) (by decide) (by decide) W)
  have HD := Lib.hid (fun W => cpDays_ok half_ok W)
  have HL := Lib.hid (fun W => cpLast_ok half_ok 270 (by decide) (by decide) W)
  rw [show couponI halfS 100000 = 2500 by decide] at HC
  rw [show accruedI halfS 100000 270 = 1250 by decide] at HA
  rw [show lastI halfS 270 = 180 by decide] at HL
  unfold DaysPost at HD
  rw [show (daysM halfS 6 4).length = 4 by decide] at HD
  go_enter Try.func10, Try.ntmps10
  go_wp2_with fail
  refine (HH.out _).mono ?_
  rintro e w1 ⟨rfl, b1⟩
  go_wp2_with fail
  refine (HC.out _).mono ?_
  rintro e w2 ⟨rfl, b2⟩
  have B2 := Lib.hid (b1.trans (b2.mono b1.size))
  clear b1 b2
  go_wp2_with fail
  refine (HH.out _).mono ?_
  rintro e w3 ⟨rfl, b3⟩
  have B3 := Lib.hid (B2.out.trans (b3.mono B2.out.size))
  clear b3 B2
  go_wp2_with fail
  refine (HA.out _).mono ?_
  rintro e w4 ⟨rfl, b4⟩
  have B4 := Lib.hid (B3.out.trans (b4.mono B3.out.size))
  clear b4 B3
  go_wp2_with fail
  refine (HH.out _).mono ?_
  rintro e w5 ⟨rfl, b5⟩
  have B5 := Lib.hid (B4.out.trans (b5.mono B4.out.size))
  clear b5 B4
  go_wp2_with fail
  refine (HD.out _).mono ?_
  rintro e w6 ⟨v, rfl, ho, b6⟩
  obtain ⟨ao, cap, rfl, hcap, _⟩ := owns_gen ho
  have B6 := Lib.hid (B5.out.trans (b6.mono B5.out.size))
  clear b6 B5 ho
  go_wp2_with fail
  refine (HH.out _).mono ?_
  rintro e w7 ⟨rfl, b7⟩
  have B7 := Lib.hid (B6.out.trans (b7.mono B6.out.size))
  clear b7 B6
  go_wp2_with fail
  refine (HL.out _).mono ?_
  rintro e w8 ⟨rfl, b8⟩
  have B8 := Lib.hid (B7.out.trans (b8.mono B7.out.size))
  clear b8 B7
  go_wp2
  go_ret
  exact ⟨rfl, B8.out⟩

/-- Coupons of two parts and of the whole. -/
theorem share_add (u v : Int) (hu : 0 ≤ u) (hv : 0 ≤ v) : shareI u 1200000 + shareI v 1200000 ≥ shareI (u + v) 1200000 - 1 ∧ shareI u 1200000 + shareI v 1200000 ≤ shareI (u + v) 1200000 + 1 ∧ shareI (u + v) 1200000 ≥ shareI u 1200000 ∧ shareI (u + v) 1200000 ≥ shareI v 1200000 ∧ 0 ≤ shareI u 1200000 ∧ 0 ≤ shareI v 1200000 ∧ shareI u 1200000 ≤ u ∧ shareI v 1200000 ≤ v ∧ 0 ≤ shareI (u + v) 1200000 ∧ shareI (u + v) 1200000 ≤ u + v := by
  unfold shareI; omega

set_option maxHeartbeats 2000000 in
theorem cpparts_any (v : Value) (n : Nat) (a b : Int) (w : World) (hi : IntsAt w v n w.heap.size) (hn : n ≤ 9223372036854775807) (ha : 0 ≤ a) (ha1 : a ≤ 65535) (hb : 0 ≤ b) (hb1 : b ≤ 65535) :
    Calls Try.prog 3 #[v, .int .u16 a, .int .u16 b] w fun e w' => e = .returned (.bool true) ∧ Below w.heap.size w w' := by
  have HNEW := Lib.hid (sNew_any v n w hi hn)
  have HSN := Lib.hid sane34_any
  clear hi hn
  go_enter Try.func3, Try.ntmps3
  go_wp2_with fail
  refine (HNEW.out).mono ?_
  rintro e w1 ⟨rfl, t1, b1⟩
  have HS := Lib.hid (sSecurity_any w.heap.size 1 w1 t1 (by decide) (by decide))
  have B1 := Lib.hid b1
  clear t1 b1 HNEW
  go_wp2_with fail
  refine (HS.out).mono ?_
  rintro e w2 ⟨s, z, r, rfl, hok, hid, _, _, _, t2, g2⟩
  have HCC := Lib.hid (fun c (h0 : 0 ≤ c) (h1 : c ≤ 1000000000000) W => cpCoupon_ok hok c h0 h1 W)
  have HB2 := Lib.hid (B1.out.grown g2 B1.out.size (by simp))
  have hu0 : 0 ≤ a * (s.rate * s.ev) := Int.mul_nonneg ha (Int.mul_nonneg hok.rate0 hok.ev0.1)
  have hv0 : 0 ≤ b * (s.rate * s.ev) := Int.mul_nonneg hb (Int.mul_nonneg hok.rate0 hok.ev0.1)
  have hu1 : a * (s.rate * s.ev) ≤ 65535 * (20000 * 12) := Int.mul_le_mul ha1 (Int.mul_le_mul hok.rate1 hok.ev0.2 hok.ev0.1 (by decide)) (Int.mul_nonneg hok.rate0 hok.ev0.1) (by decide)
  have hv1 : b * (s.rate * s.ev) ≤ 65535 * (20000 * 12) := Int.mul_le_mul hb1 (Int.mul_le_mul hok.rate1 hok.ev0.2 hok.ev0.1 (by decide)) (Int.mul_nonneg hok.rate0 hok.ev0.1) (by decide)
  have hsh := share_add _ _ hu0 hv0
  have e1 : couponI s a = shareI (a * (s.rate * s.ev)) 1200000 := by unfold couponI; rw [Int.mul_assoc]
  have e2 : couponI s b = shareI (b * (s.rate * s.ev)) 1200000 := by unfold couponI; rw [Int.mul_assoc]
  have e3 : couponI s (a + b) = shareI (a * (s.rate * s.ev) + b * (s.rate * s.ev)) 1200000 := by unfold couponI; rw [Int.mul_assoc, Int.add_mul]
  have C1 := Lib.hid (fun W => HCC.out a ha (by omega) W)
  have C2 := Lib.hid (fun W => HCC.out b hb (by omega) W)
  have C3 := Lib.hid (fun W => HCC.out (a + b) (by omega) (by omega) W)
  rw [e1] at C1
  rw [e2] at C2
  rw [e3] at C3
  generalize shareI (a * (s.rate * s.ev)) 1200000 = p at *
  generalize shareI (b * (s.rate * s.ev)) 1200000 = q at *
  generalize shareI (a * (s.rate * s.ev) + b * (s.rate * s.ev)) 1200000 = x at *
  generalize a * (s.rate * s.ev) = u at *
  generalize b * (s.rate * s.ev) = v at *
  obtain ⟨h1, h2, h3, h4, h5, h6, h7, h8, h9, h10⟩ := hsh
  have p1 : p ≤ 15728400000 := by omega
  have q1 : q ≤ 15728400000 := by omega
  have x1 : x ≤ 31456800000 := by omega
  obtain ⟨i, un, bb, m, qq, ee, xx⟩ := s
  simp only [Sec.cells] at C1 C2 C3 ⊢
  clear hu0 hv0 hu1 hv1 e1 e2 e3 h7 h8 h10 hok hid HCC t2 g2 HS
  have hc := heap_alloc_new w2 (.cells #[.int .i64 i, .int .i64 un, .int .i64 bb, .int .i64 m, .int .i64 qq, .int .i64 ee, .bool xx] 27)
  have HC := Lib.hid hc
  have HB3 := Lib.hid (HB2.out.alloc HB2.out.size (.cells #[.int .i64 i, .int .i64 un, .int .i64 bb, .int .i64 m, .int .i64 qq, .int .i64 ee, .bool xx] 27))
  clear hc HB2
  go_wp2_with fail
  with_reducible refine (C1.out _).mono ?_
  rintro e w3 ⟨rfl, b3⟩
  have hc3 := obj_below HC.out b3
  have v0 := obj_cell hc3 0
  have v1 := obj_cell hc3 1
  have v2 := obj_cell hc3 2
  have v3 := obj_cell hc3 3
  have v4 := obj_cell hc3 4
  have v5 := obj_cell hc3 5
  have v6 := obj_cell hc3 6
  simp at v0 v1 v2 v3 v4 v5 v6
  have HC3 := Lib.hid hc3
  have HB4 := Lib.hid (HB3.out.trans (b3.mono HB3.out.size))
  clear hc3 b3 HC HB3
  go_wp2_with fail
  with_reducible refine (C2.out _).mono ?_
  rintro e w4 ⟨rfl, b4⟩
  have hc4 := obj_below HC3.out b4
  clear v0 v1 v2 v3 v4 v5 v6
  have v0 := obj_cell hc4 0
  have v1 := obj_cell hc4 1
  have v2 := obj_cell hc4 2
  have v3 := obj_cell hc4 3
  have v4 := obj_cell hc4 4
  have v5 := obj_cell hc4 5
  have v6 := obj_cell hc4 6
  simp at v0 v1 v2 v3 v4 v5 v6
  have HB5 := Lib.hid (HB4.out.trans (b4.mono HB4.out.size))
  clear hc4 b4 HC3 HB4
  go_wp2_with fail
  with_reducible refine (C3.out _).mono ?_
  rintro e w5 ⟨rfl, b5⟩
  have HB6 := Lib.hid (HB5.out.trans (b5.mono HB5.out.size))
  clear b5 HB5 v0 v1 v2 v3 v4 v5 v6
  go_wp2_with (go_at_call 10; refine (HSN.out _).mono ?_; rintro e w6 ⟨rfl, b6⟩)
  go_ret
  exact ⟨rfl, HB6.out.trans (b6.mono HB6.out.size)⟩

end Go.Proofs.Ytoidiofdjokpkaa
