/- The walk of CouponLife: all coupons of a security on an amount are the years of its life times its rate, but for half a cent for each coupon, and accruing just ahead of a coupon day brings almost the coupon; for every tape and amount. -/
import Derived.Test.YtoidiofdjokpkaaCpA
namespace Go.Proofs.Ytoidiofdjokpkaa
open Go.RowKit Go.Lib Go.Proofs

/-- The numbers of a security's life. -/
theorem life_facts {s : Sec} {z r : Int} (h : SecOk s z r) (hr : r ≤ 5) (hq : s.rate ≤ 5000) {a : Int} (a0 : 0 ≤ a) (a1 : a ≤ 65535) (k : Nat) (hk : k = (daysM s z r).length) :
    k ≤ 5 ∧ 0 ≤ couponI s a ∧ couponI s a ≤ 10000 ∧ 0 ≤ couponI s a * (k : Int) ∧ couponI s a * (k : Int) ≤ 100000 ∧ 0 ≤ a * s.rate ∧ a * s.rate ≤ 327675000 ∧ 0 ≤ a * s.rate * (s.mat - s.iss) ∧ a * s.rate * (s.mat - s.iss) ≤ 700000000000 ∧
      ¬ (a * s.rate * (s.mat - s.iss) + (k : Int) * 180 * 100000 < couponI s a * (k : Int) * 360 * 100000) ∧ ¬ (couponI s a * (k : Int) * 360 * 100000 < a * s.rate * (s.mat - s.iss) - (k : Int) * 180 * 100000) ∧
      ∀ j, j < k → ∃ d, (daysM s z r).getD j 0 = d ∧ s.iss ≤ d - 1 ∧ d ≤ s.mat ∧ ¬ couponI s a < accruedI s a (d - 1) ∧ ¬ accruedI s a (d - 1) < couponI s a - (a * s.rate / 36000000 + 2) ∧ 0 ≤ accruedI s a (d - 1) ∧ accruedI s a (d - 1) ≤ 1000000 := by
  obtain ⟨n, rfl⟩ : ∃ n : Nat, r = n := ⟨r.toNat, by have := h.r0; omega⟩
  have hn : n = 1 ∨ n = 2 ∨ n = 3 ∨ n = 4 ∨ n = 5 := by have := h.r0; omega
  have q0 : 0 ≤ a * s.rate := Int.mul_nonneg a0 h.rate0
  have q1 : a * s.rate ≤ 65535 * 5000 := Int.mul_le_mul a1 hq h.rate0 (by decide)
  have ht := h.term
  have hi := h.iss0
  unfold couponI
  obtain ⟨i, un, bb, m, qq, ee, xx⟩ := s
  simp only at *
  rcases h.ev with ⟨h1, h2, h3⟩ | ⟨h1, h3⟩ | ⟨h1, h3⟩ | ⟨h1, h3⟩ | ⟨h1, h3⟩
  · simp only at h1 h2
    subst h1 h2 h3
    have hk0 : k = 0 := by rw [hk]; rfl
    subst hk0
    refine ⟨by omega, by simp [shareI], by simp [shareI], by simp, by simp, q0, by omega, by simp, by simp, by simp [shareI], by simp [shareI], fun j hj => by omega⟩
  · simp only at h1
    subst h1 h3
    have hkn : k = n := by rw [hk]; exact daysL_len _ _ _
    subst hkn
    have hL : daysM ⟨i, un, bb, m, qq, 1, xx⟩ 1 (k : Int) = daysL ⟨i, un, bb, m, qq, 1, xx⟩ 1 k := rfl
    have hmb : m - bb = 30 * (k : Int) := by omega
    rw [hmb, hL]
    generalize hy : a * qq = y at *
    have hu : shareI (y * 1) 1200000 = (y * 1 + 600000) / 1200000 := rfl
    have hlast : ∀ j : Nat, j < k → lastI ⟨i, un, bb, m, qq, 1, xx⟩ (bb + 30 * 1 * ((j : Int) + 1) - 1) = bb + 30 * (j : Int) := fun j hj => by
      unfold lastI
      rw [if_neg (by simp)]
      simp only
      omega
    have hacc : ∀ j : Nat, j < k → accruedI ⟨i, un, bb, m, qq, 1, xx⟩ a (bb + 30 * 1 * ((j : Int) + 1) - 1) = (y * 29 + 18000000) / 36000000 := fun j hj => by
      unfold accruedI
      rw [hlast j hj]
      simp only
      rw [hy, show bb + 30 * 1 * ((j : Int) + 1) - 1 - (bb + 30 * (j : Int)) = 29 by omega]
      rfl
    rw [hu]
    have hdays : ∀ j, j < k → ∃ d, (daysL ⟨i, un, bb, m, qq, 1, xx⟩ 1 k).getD j 0 = d ∧ bb ≤ d - 1 ∧ d ≤ m ∧ ¬ (y * 1 + 600000) / 1200000 < accruedI ⟨i, un, bb, m, qq, 1, xx⟩ a (d - 1) ∧ ¬ accruedI ⟨i, un, bb, m, qq, 1, xx⟩ a (d - 1) < (y * 1 + 600000) / 1200000 - (y / 36000000 + 2) ∧ 0 ≤ accruedI ⟨i, un, bb, m, qq, 1, xx⟩ a (d - 1) ∧ accruedI ⟨i, un, bb, m, qq, 1, xx⟩ a (d - 1) ≤ 1000000 := fun j hj => by
      refine ⟨_, daysL_get _ _ _ _ hj, ?_⟩
      simp only
      rw [hacc j hj]
      omega
    refine ⟨by omega, by omega, by omega, ?_, ?_, q0, by omega, ?_, ?_, ?_, ?_, hdays⟩
    all_goals
      have hn' : (k : Int) = 1 ∨ (k : Int) = 2 ∨ (k : Int) = 3 ∨ (k : Int) = 4 ∨ (k : Int) = 5 := by omega
      clear hdays hacc hlast hu hL hk hmb ht hn
      generalize (k : Int) = K at *
      rcases hn' with rfl | rfl | rfl | rfl | rfl <;> omega
  · simp only at h1
    subst h1 h3
    have hkn : k = n := by rw [hk]; exact daysL_len _ _ _
    subst hkn
    have hL : daysM ⟨i, un, bb, m, qq, 3, xx⟩ 3 (k : Int) = daysL ⟨i, un, bb, m, qq, 3, xx⟩ 3 k := rfl
    have hmb : m - bb = 90 * (k : Int) := by omega
    rw [hmb, hL]
    generalize hy : a * qq = y at *
    have hu : shareI (y * 3) 1200000 = (y * 3 + 600000) / 1200000 := rfl
    have hlast : ∀ j : Nat, j < k → lastI ⟨i, un, bb, m, qq, 3, xx⟩ (bb + 30 * 3 * ((j : Int) + 1) - 1) = bb + 90 * (j : Int) := fun j hj => by
      unfold lastI
      rw [if_neg (by simp)]
      simp only
      omega
    have hacc : ∀ j : Nat, j < k → accruedI ⟨i, un, bb, m, qq, 3, xx⟩ a (bb + 30 * 3 * ((j : Int) + 1) - 1) = (y * 89 + 18000000) / 36000000 := fun j hj => by
      unfold accruedI
      rw [hlast j hj]
      simp only
      rw [hy, show bb + 30 * 3 * ((j : Int) + 1) - 1 - (bb + 90 * (j : Int)) = 89 by omega]
      rfl
    rw [hu]
    have hdays : ∀ j, j < k → ∃ d, (daysL ⟨i, un, bb, m, qq, 3, xx⟩ 3 k).getD j 0 = d ∧ bb ≤ d - 1 ∧ d ≤ m ∧ ¬ (y * 3 + 600000) / 1200000 < accruedI ⟨i, un, bb, m, qq, 3, xx⟩ a (d - 1) ∧ ¬ accruedI ⟨i, un, bb, m, qq, 3, xx⟩ a (d - 1) < (y * 3 + 600000) / 1200000 - (y / 36000000 + 2) ∧ 0 ≤ accruedI ⟨i, un, bb, m, qq, 3, xx⟩ a (d - 1) ∧ accruedI ⟨i, un, bb, m, qq, 3, xx⟩ a (d - 1) ≤ 1000000 := fun j hj => by
      refine ⟨_, daysL_get _ _ _ _ hj, ?_⟩
      simp only
      rw [hacc j hj]
      omega
    refine ⟨by omega, by omega, by omega, ?_, ?_, q0, by omega, ?_, ?_, ?_, ?_, hdays⟩
    all_goals
      have hn' : (k : Int) = 1 ∨ (k : Int) = 2 ∨ (k : Int) = 3 ∨ (k : Int) = 4 ∨ (k : Int) = 5 := by omega
      clear hdays hacc hlast hu hL hk hmb ht hn
      generalize (k : Int) = K at *
      rcases hn' with rfl | rfl | rfl | rfl | rfl <;> omega
  · simp only at h1
    subst h1 h3
    have hkn : k = n := by rw [hk]; exact daysL_len _ _ _
    subst hkn
    have hL : daysM ⟨i, un, bb, m, qq, 6, xx⟩ 6 (k : Int) = daysL ⟨i, un, bb, m, qq, 6, xx⟩ 6 k := rfl
    have hmb : m - bb = 180 * (k : Int) := by omega
    rw [hmb, hL]
    generalize hy : a * qq = y at *
    have hu : shareI (y * 6) 1200000 = (y * 6 + 600000) / 1200000 := rfl
    have hlast : ∀ j : Nat, j < k → lastI ⟨i, un, bb, m, qq, 6, xx⟩ (bb + 30 * 6 * ((j : Int) + 1) - 1) = bb + 180 * (j : Int) := fun j hj => by
      unfold lastI
      rw [if_neg (by simp)]
      simp only
      omega
    have hacc : ∀ j : Nat, j < k → accruedI ⟨i, un, bb, m, qq, 6, xx⟩ a (bb + 30 * 6 * ((j : Int) + 1) - 1) = (y * 179 + 18000000) / 36000000 := fun j hj => by
      unfold accruedI
      rw [hlast j hj]
      simp only
      rw [hy, show bb + 30 * 6 * ((j : Int) + 1) - 1 - (bb + 180 * (j : Int)) = 179 by omega]
      rfl
    rw [hu]
    have hdays : ∀ j, j < k → ∃ d, (daysL ⟨i, un, bb, m, qq, 6, xx⟩ 6 k).getD j 0 = d ∧ bb ≤ d - 1 ∧ d ≤ m ∧ ¬ (y * 6 + 600000) / 1200000 < accruedI ⟨i, un, bb, m, qq, 6, xx⟩ a (d - 1) ∧ ¬ accruedI ⟨i, un, bb, m, qq, 6, xx⟩ a (d - 1) < (y * 6 + 600000) / 1200000 - (y / 36000000 + 2) ∧ 0 ≤ accruedI ⟨i, un, bb, m, qq, 6, xx⟩ a (d - 1) ∧ accruedI ⟨i, un, bb, m, qq, 6, xx⟩ a (d - 1) ≤ 1000000 := fun j hj => by
      refine ⟨_, daysL_get _ _ _ _ hj, ?_⟩
      simp only
      rw [hacc j hj]
      omega
    refine ⟨by omega, by omega, by omega, ?_, ?_, q0, by omega, ?_, ?_, ?_, ?_, hdays⟩
    all_goals
      have hn' : (k : Int) = 1 ∨ (k : Int) = 2 ∨ (k : Int) = 3 ∨ (k : Int) = 4 ∨ (k : Int) = 5 := by omega
      clear hdays hacc hlast hu hL hk hmb ht hn
      generalize (k : Int) = K at *
      rcases hn' with rfl | rfl | rfl | rfl | rfl <;> omega
  · simp only at h1
    subst h1 h3
    have hkn : k = n := by rw [hk]; exact daysL_len _ _ _
    subst hkn
    have hL : daysM ⟨i, un, bb, m, qq, 12, xx⟩ 12 (k : Int) = daysL ⟨i, un, bb, m, qq, 12, xx⟩ 12 k := rfl
    have hmb : m - bb = 360 * (k : Int) := by omega
    rw [hmb, hL]
    generalize hy : a * qq = y at *
    have hu : shareI (y * 12) 1200000 = (y * 12 + 600000) / 1200000 := rfl
    have hlast : ∀ j : Nat, j < k → lastI ⟨i, un, bb, m, qq, 12, xx⟩ (bb + 30 * 12 * ((j : Int) + 1) - 1) = bb + 360 * (j : Int) := fun j hj => by
      unfold lastI
      rw [if_neg (by simp)]
      simp only
      omega
    have hacc : ∀ j : Nat, j < k → accruedI ⟨i, un, bb, m, qq, 12, xx⟩ a (bb + 30 * 12 * ((j : Int) + 1) - 1) = (y * 359 + 18000000) / 36000000 := fun j hj => by
      unfold accruedI
      rw [hlast j hj]
      simp only
      rw [hy, show bb + 30 * 12 * ((j : Int) + 1) - 1 - (bb + 360 * (j : Int)) = 359 by omega]
      rfl
    rw [hu]
    have hdays : ∀ j, j < k → ∃ d, (daysL ⟨i, un, bb, m, qq, 12, xx⟩ 12 k).getD j 0 = d ∧ bb ≤ d - 1 ∧ d ≤ m ∧ ¬ (y * 12 + 600000) / 1200000 < accruedI ⟨i, un, bb, m, qq, 12, xx⟩ a (d - 1) ∧ ¬ accruedI ⟨i, un, bb, m, qq, 12, xx⟩ a (d - 1) < (y * 12 + 600000) / 1200000 - (y / 36000000 + 2) ∧ 0 ≤ accruedI ⟨i, un, bb, m, qq, 12, xx⟩ a (d - 1) ∧ accruedI ⟨i, un, bb, m, qq, 12, xx⟩ a (d - 1) ≤ 1000000 := fun j hj => by
      refine ⟨_, daysL_get _ _ _ _ hj, ?_⟩
      simp only
      rw [hacc j hj]
      omega
    refine ⟨by omega, by omega, by omega, ?_, ?_, q0, by omega, ?_, ?_, ?_, ?_, hdays⟩
    all_goals
      have hn' : (k : Int) = 1 ∨ (k : Int) = 2 ∨ (k : Int) = 3 ∨ (k : Int) = 4 ∨ (k : Int) = 5 := by omega
      clear hdays hacc hlast hu hL hk hmb ht hn
      generalize (k : Int) = K at *
      rcases hn' with rfl | rfl | rfl | rfl | rfl <;> omega

set_option maxHeartbeats 4000000 in
theorem cplife_any (v : Value) (n : Nat) (a : Int) (w : World) (hi : IntsAt w v n w.heap.size) (hn : n ≤ 9223372036854775807) (ha : 0 ≤ a) (ha1 : a ≤ 65535) :
    Calls Try.prog 6 #[v, .int .u16 a] w fun e w' => e = .returned (.bool true) ∧ Below w.heap.size w w' := by
  have HNEW := Lib.hid (sNew_any v n w hi hn)
  have HSN := Lib.hid sane34_any
  clear hi hn
  go_enter Try.func6, Try.ntmps6
  go_wp2_with fail
  refine (HNEW.out).mono ?_
  rintro e w1 ⟨rfl, t1, b1⟩
  have HS := Lib.hid (sSecurity_any w.heap.size 1 w1 t1 (by decide) (by decide))
  have B1 := Lib.hid b1
  clear t1 b1 HNEW
  go_wp2_with fail
  refine (HS.out).mono ?_
  rintro e w2 ⟨s, z, r, rfl, hok, hid, hr5, hiss, hrate, t2, g2⟩
  have HB2 := Lib.hid (B1.out.grown g2 B1.out.size (by simp))
  have HOK := Lib.hid hok
  clear t2 g2 HS B1 hid
  have HC := Lib.hid (fun W => cpCoupon_ok hok a ha (by omega) W)
  have HD := Lib.hid (fun W => cpDays_ok hok W)
  have HA := Lib.hid (fun d (h0 : s.iss ≤ d) (h1 : d ≤ s.mat) W => cpAccrued_ok hok a d ha (by omega) h0 h1 W)
  unfold DaysPost at HD
  obtain ⟨k, hk⟩ : ∃ k, k = (daysM s z r).length := ⟨_, rfl⟩
  obtain ⟨k5, c0, c1, ck0, ck1, y0, y1, x0, x1, n1, n2, hdays⟩ := life_facts hok hr5 hrate ha ha1 k hk
  have i0 := hok.iss0
  have m1 := hok.mat1
  have q0 := hok.rate0
  have hmi : 0 ≤ s.mat - s.iss := by
    have := hok.term
    rcases hok.ev with h | h | h | h | h <;> have := hok.r0 <;> (obtain ⟨_, h⟩ := h; first | (obtain ⟨_, h⟩ := h; subst h; omega) | (subst h; omega))
  rw [← hk] at HD
  have HDY := Lib.hid hdays
  generalize daysM s z r = L at *
  obtain ⟨i, un, bb, m, qq, ee, xx⟩ := s
  simp only [Sec.cells] at HC HD HA i0 m1 q0 hmi hiss hrate y0 y1 x0 x1 n1 n2 HDY ⊢
  have hx : CpInv w w2.heap.size ⟨i, un, bb, m, qq, ee, xx⟩ (w2.alloc (.cells #[.int .i64 i, .int .i64 un, .int .i64 bb, .int .i64 m, .int .i64 qq, .int .i64 ee, .bool xx] 27)) := ⟨heap_alloc_new w2 _, HB2.out.alloc HB2.out.size _⟩
  have HX := Lib.hid hx
  clear hx HB2
  generalize couponI ⟨i, un, bb, m, qq, ee, xx⟩ a = full at *
  have HKL := Lib.hid hk
  clear hok hr5 HOK hdays hk
  go_wp2_with fail
  with_reducible refine (HC.out _).mono ?_
  rintro e w3 ⟨rfl, b3⟩
  have HX3 := Lib.hid (HX.out.below b3)
  have hc3 := HX3.out.box
  have v0 := obj_cell hc3 0
  have v1 := obj_cell hc3 1
  have v2 := obj_cell hc3 2
  have v3 := obj_cell hc3 3
  have v4 := obj_cell hc3 4
  have v5 := obj_cell hc3 5
  have v6 := obj_cell hc3 6
  simp [Sec.cells] at v0 v1 v2 v3 v4 v5 v6
  clear hc3 b3 HX HC
  go_wp2_with fail
  with_reducible refine (HD.out _).mono ?_
  rintro e w4 ⟨v', rfl, ho, b4⟩
  have HX4 := Lib.hid (HX3.out.below b4)
  have hc4 := HX4.out.box
  clear v0 v1 v2 v3 v4 v5 v6
  have v0 := obj_cell hc4 0
  have v1 := obj_cell hc4 1
  have v2 := obj_cell hc4 2
  have v3 := obj_cell hc4 3
  have v4 := obj_cell hc4 4
  have v5 := obj_cell hc4 5
  have v6 := obj_cell hc4 6
  simp [Sec.cells] at v0 v1 v2 v3 v4 v5 v6
  have hrow := RowAt.owns ho
  obtain ⟨ao, cap, rfl, hcap, _⟩ := owns_gen ho
  have HROW : Hid (0 < k → ∃ b o, ao = some ⟨b, o, none⟩ ∧ b < w4.heap.size ∧ ∀ j, j < k → w4.cell? ⟨b, o + j, none⟩ = some (.int .i64 (L.getD j 0))) := Lib.hid fun hk => by
    rcases hrow with ⟨h0, _⟩ | ⟨b, o, cap', hv, hlt, hc⟩
    · have := HKL.out; rw [h0] at this; simp at this; omega
    · simp only [Value.slice.injEq] at hv
      exact ⟨b, o, hv.1, hlt, fun j hj => hc j (by rw [← HKL.out]; exact hj)⟩
  clear hc4 b4 HX3 HD ho hrow
  have hka : (0 : Int) ≤ (k : Int) := by omega
  have hkb : (k : Int) ≤ 5 := by omega
  go_wp2
  clear v0 v1 v2 v3 v4 v5 v6
  go_loopw [68] (fun iv wr => ∃ j : Nat, iv = .int .i64 j ∧ j ≤ k ∧ Hid (Below w4.heap.size w4 wr) ∧ Hid (CpInv w w2.heap.size ⟨i, un, bb, m, qq, ee, xx⟩ wr)) (fun iv _ => k - (RowKit.intOf iv).toNat)
  case atStart => exact ⟨0, rfl, Nat.zero_le _, Lib.hid (Below.refl _ _), HX4⟩
  case round =>
    obtain ⟨j, rfl, hjk, HB, HI⟩ := hrel
    by_cases hlt : j < k
    · obtain ⟨b, o, rfl, hb, hc⟩ := HROW.out (by omega)
      obtain ⟨d, hd, d0, d1, f1, f2, f3, f4⟩ := HDY.out j hlt
      have hcell := (HB.out.cell (p := ⟨b, o + j, none⟩) hb).trans (hc j hlt)
      rw [hd] at hcell
      have hck := HI.out.box
      have v0 := obj_cell hck 0
      have v1 := obj_cell hck 1
      have v2 := obj_cell hck 2
      have v3 := obj_cell hck 3
      have v4 := obj_cell hck 4
      have v5 := obj_cell hck 5
      have v6 := obj_cell hck 6
      simp [Sec.cells] at v0 v1 v2 v3 v4 v5 v6
      have hAc := Lib.hid (fun W => HA.out (d - 1) d0 (by omega) W)
      generalize accruedI ⟨i, un, bb, m, qq, ee, xx⟩ a (d - 1) = ac at *
      have hj0 : (0 : Int) ≤ (j : Int) := by omega
      have hjk : (j : Int) < (k : Int) := by omega
      have hdl : 0 ≤ d := by omega
      have hdh : d ≤ 40000 := by omega
      have g0 : 0 ≤ a * qq / 36000000 := by omega
      have g1 : a * qq / 36000000 ≤ 100 := by omega
      clear hck hc hb hd HA HDY HROW hlt d0 d1 x0 x1 n1 n2 HKL
      go_wp2_with fail
      with_reducible refine (hAc.out _).mono ?_
      rintro e w5 ⟨rfl, b5⟩
      have HI5 := Lib.hid (HI.out.below b5)
      have HB5 := Lib.hid (HB.out.trans (b5.mono HB.out.size))
      have hc5 := HI5.out.box
      clear v0 v1 v2 v3 v4 v5 v6
      have v0 := obj_cell hc5 0
      have v1 := obj_cell hc5 1
      have v2 := obj_cell hc5 2
      have v3 := obj_cell hc5 3
      have v4 := obj_cell hc5 4
      have v5 := obj_cell hc5 5
      have v6 := obj_cell hc5 6
      simp [Sec.cells] at v0 v1 v2 v3 v4 v5 v6
      clear hc5 b5 HI HB hAc hcell
      go_wp2
      go_roundw
      case rel => exact ⟨j + 1, by first | rfl | go_num, by omega, HB5, HI5⟩
      case measure => simp [RowKit.intOf]; omega
    · obtain rfl : j = k := by omega
      clear HA HDY HROW x0 x1 n1 n2 HKL
      go_wp2_with (go_at_call 10; refine (HSN.out _).mono ?_; rintro e w6 ⟨rfl, b6⟩)
      go_ret
      exact ⟨rfl, (HI.out.below b6).old⟩

end Go.Proofs.Ytoidiofdjokpkaa
