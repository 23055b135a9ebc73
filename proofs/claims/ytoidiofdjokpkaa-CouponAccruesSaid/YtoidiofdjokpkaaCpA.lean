/- The walk of CouponAccrues: accrued interest grows from day to day, is at most the coupon, and is 0 on the days of coupons; for every tape and amount. -/
import Derived.Test.YtoidiofdjokpkaaCpD
namespace Go.Proofs.Ytoidiofdjokpkaa
open Go.RowKit Go.Lib Go.Proofs

theorem share_mono {x y d : Int} (hd : 0 < d) (h : x ≤ y) : shareI x d ≤ shareI y d := by
  unfold shareI
  exact Int.ediv_le_ediv hd (by omega)
theorem share_zero : shareI 0 36000000 = 0 := by decide
theorem coupon_thirty (x : Int) : shareI x 1200000 = shareI (30 * x) 36000000 := by unfold shareI; omega

/-- What accrues: at most the coupon, nothing on a coupon day, and from day to day no less. -/
theorem accrued_facts {s : Sec} {z r : Int} (h : SecOk s z r) {a d : Int} (a0 : 0 ≤ a) (d0 : s.iss ≤ d) :
    accruedI s a d ≤ couponI s a ∧ (d = lastI s d → accruedI s a d = 0) ∧ (d ≠ lastI s d → s.iss < d → accruedI s a (d - 1) ≤ accruedI s a d) := by
  obtain ⟨l0, l1, l2⟩ := lastI_in h d0
  have hq : 0 ≤ a * s.rate := Int.mul_nonneg a0 h.rate0
  refine ⟨?_, fun e => ?_, fun hne hlt => ?_⟩
  · unfold accruedI couponI
    rw [coupon_thirty]
    refine share_mono (by decide) ?_
    rcases l2 with l2 | l2
    · have : s.rate = 0 := by have := h.ev; omega
      rw [this]; simp
    · have := Int.mul_le_mul_of_nonneg_left (show d - lastI s d ≤ 30 * s.ev by omega) hq
      rw [show 30 * (a * s.rate * s.ev) = a * s.rate * (30 * s.ev) by rw [Int.mul_left_comm]]
      exact this
  · unfold accruedI
    rw [← e, Int.sub_self, Int.mul_zero]
    exact share_zero
  · have hl : lastI s (d - 1) = lastI s d := by
      unfold lastI at hne ⊢
      rcases h.ev with h | h | h | h | h
      · rw [if_pos h.1, if_pos h.1]
      all_goals
        rw [if_neg (by omega), h.1] at hne
        rw [if_neg (by omega), if_neg (by omega), h.1]
        omega
    unfold accruedI
    rw [hl]
    exact share_mono (by decide) (Int.mul_le_mul_of_nonneg_left (by omega) hq)

theorem accrued_bounds {s : Sec} {z r : Int} (h : SecOk s z r) {a d : Int} (a0 : 0 ≤ a) (a1 : a ≤ 65535) (d0 : s.iss ≤ d) : 0 ≤ accruedI s a d ∧ accruedI s a d ≤ 200000000000 ∧ 0 ≤ couponI s a ∧ couponI s a ≤ 200000000000 := by
  have hc := (accrued_facts h a0 d0).1
  obtain ⟨l0, l1, l2⟩ := lastI_in h d0
  have h1 : 0 ≤ a * s.rate * (d - lastI s d) := Int.mul_nonneg (Int.mul_nonneg a0 h.rate0) (by omega)
  obtain ⟨m1, m2, m3, m4⟩ := mul3_le a0 a1 h.rate0 h.rate1 h.ev0.1 h.ev0.2
  have c1 : 0 ≤ accruedI s a d := by unfold accruedI shareI; omega
  have c2 : 0 ≤ couponI s a ∧ couponI s a ≤ 200000000000 := by unfold couponI shareI; omega
  omega

set_option maxHeartbeats 4000000 in
theorem cpaccrues_any (v : Value) (n : Nat) (a : Int) (w : World) (hi : IntsAt w v n w.heap.size) (hn : n ≤ 9223372036854775807) (ha : 0 ≤ a) (ha1 : a ≤ 65535) :
    Calls Try.prog 4 #[v, .int .u16 a] w fun e w' => e = .returned (.bool true) ∧ Below w.heap.size w w' := by
  have HNEW := Lib.hid (sNew_any v n w hi hn)
  have HSN := Lib.hid sane34_any
  clear hi hn
  go_enter Try.func4, Try.ntmps4
  go_wp2_with fail
  refine (HNEW.out).mono ?_
  rintro e w1 ⟨rfl, t1, b1⟩
  have HS := Lib.hid (sSecurity_any w.heap.size 1 w1 t1 (by decide) (by decide))
  have B1 := Lib.hid b1
  clear t1 b1 HNEW
  go_wp2_with fail
  refine (HS.out).mono ?_
  rintro e w2 ⟨s, z, r, rfl, hok, hid, hr5, hiss, hrate, t2, g2⟩
  have HB2 := Lib.hid (B1.out.grown g2 B1.out.size (by simp))
  have HOK := Lib.hid hok
  clear t2 g2 HS B1 hid
  have HC := Lib.hid (fun W => cpCoupon_ok hok a ha (by omega) W)
  have HA := Lib.hid (fun d (h0 : s.iss ≤ d) (h1 : d ≤ s.mat) W => cpAccrued_ok hok a d ha (by omega) h0 h1 W)
  have HL := Lib.hid (fun d (h0 : s.iss ≤ d) (h1 : d ≤ s.mat) W => cpLast_ok hok d h0 h1 W)
  have HF := Lib.hid (fun d (h0 : s.iss ≤ d) => accrued_facts hok (a := a) ha h0)
  have HG := Lib.hid (fun d (h0 : s.iss ≤ d) => accrued_bounds hok (a := a) ha ha1 h0)
  have HLI := Lib.hid (fun d (h0 : s.iss ≤ d) => lastI_in hok h0)
  have i0 := hok.iss0
  have m1 := hok.mat1
  have hterm : s.iss ≤ s.mat := by
    have := hok.term
    rcases hok.ev with h | h | h | h | h <;> have := hok.r0 <;> (obtain ⟨_, h⟩ := h; first | (obtain ⟨_, h⟩ := h; subst h; omega) | (subst h; omega))
  obtain ⟨i, un, bb, m, qq, ee, xx⟩ := s
  simp only [Sec.cells] at HC HA HL HF HG HLI i0 m1 hterm hiss ⊢
  have hx : CpInv w w2.heap.size ⟨i, un, bb, m, qq, ee, xx⟩ (w2.alloc (.cells #[.int .i64 i, .int .i64 un, .int .i64 bb, .int .i64 m, .int .i64 qq, .int .i64 ee, .bool xx] 27)) := ⟨heap_alloc_new w2 _, HB2.out.alloc HB2.out.size _⟩
  have HX := Lib.hid hx
  clear hx HB2
  obtain ⟨full, hfull⟩ : ∃ full, full = couponI ⟨i, un, bb, m, qq, ee, xx⟩ a := ⟨_, rfl⟩
  rw [← hfull] at HC HF HG
  clear hok hrate hr5 HOK hfull
  go_wp2_with fail
  with_reducible refine (HC.out _).mono ?_
  rintro e w3 ⟨rfl, b3⟩
  have HX3 := Lib.hid (HX.out.below b3)
  have hc3 := HX3.out.box
  have v0 := obj_cell hc3 0
  have v1 := obj_cell hc3 1
  have v2 := obj_cell hc3 2
  have v3 := obj_cell hc3 3
  have v4 := obj_cell hc3 4
  have v5 := obj_cell hc3 5
  have v6 := obj_cell hc3 6
  simp [Sec.cells] at v0 v1 v2 v3 v4 v5 v6
  clear hc3 b3 HX HC
  go_wp2
  clear v0 v1 v2 v3 v4 v5 v6
  go_loopw [10, 9] (fun dv bv wr => ∃ d be : Int, dv = .int .i64 d ∧ bv = .int .i64 be ∧ bb ≤ d ∧ d ≤ m + 1 ∧ ((d = bb ∧ be = 0) ∨ (bb < d ∧ Hid (be = accruedI ⟨i, un, bb, m, qq, ee, xx⟩ a (d - 1)))) ∧ Hid (CpInv w w2.heap.size ⟨i, un, bb, m, qq, ee, xx⟩ wr)) (fun dv _ _ => (m + 1000 - RowKit.intOf dv).toNat)
  case atStart => exact ⟨bb, 0, rfl, rfl, by omega, by omega, Or.inl ⟨rfl, rfl⟩, HX3⟩
  case round =>
    obtain ⟨d, be, rfl, rfl, d0, d1, hbe, HI⟩ := hrel
    have hck := HI.out.box
    have v0 := obj_cell hck 0
    have v1 := obj_cell hck 1
    have v2 := obj_cell hck 2
    have v3 := obj_cell hck 3
    have v4 := obj_cell hck 4
    have v5 := obj_cell hck 5
    have v6 := obj_cell hck 6
    simp [Sec.cells] at v0 v1 v2 v3 v4 v5 v6
    clear hck
    obtain ⟨mn, hif⟩ : ∃ mn, (if bb + 400 < m then bb + 400 else m) = mn := ⟨_, rfl⟩
    have hmn : mn ≤ m := by split at hif <;> omega
    by_cases hle : d ≤ mn
    · have hdm : d ≤ m := by omega
      have hbef : Hid (d ≠ lastI ⟨i, un, bb, m, qq, ee, xx⟩ d → be ≤ accruedI ⟨i, un, bb, m, qq, ee, xx⟩ a d) := Lib.hid fun hne => by
        rcases hbe with ⟨rfl, rfl⟩ | ⟨hlt, hb⟩
        · exact ((HG.out d d0).1)
        · rw [hb.out]; exact (HF.out d d0).2.2 hne hlt
      have hz := (HF.out d d0).2.1
      have hfl := (HF.out d d0).1
      obtain ⟨ac0, ac1, _, _⟩ := HG.out d d0
      obtain ⟨l0, l1, _⟩ := HLI.out d d0
      have hAc := Lib.hid (fun W => HA.out d d0 hdm W)
      have hLa := Lib.hid (fun W => HL.out d d0 hdm W)
      have HAC : Hid (∃ x, x = accruedI ⟨i, un, bb, m, qq, ee, xx⟩ a d) := Lib.hid ⟨_, rfl⟩
      obtain ⟨ac, hac⟩ := HAC.out
      have HAE := Lib.hid hac
      rw [← hac] at hbef hz hfl ac0 ac1 hAc
      generalize lastI ⟨i, un, bb, m, qq, ee, xx⟩ d = la at *
      clear hbe HAC hac HF HG HA HL HLI HX3
      go_wp2_with fail
      with_reducible refine (hAc.out _).mono ?_
      rintro e w4 ⟨rfl, b4⟩
      have HI4 := Lib.hid (HI.out.below b4)
      have hc4 := HI4.out.box
      clear v0 v1 v2 v3 v4 v5 v6
      have v0 := obj_cell hc4 0
      have v1 := obj_cell hc4 1
      have v2 := obj_cell hc4 2
      have v3 := obj_cell hc4 3
      have v4 := obj_cell hc4 4
      have v5 := obj_cell hc4 5
      have v6 := obj_cell hc4 6
      simp [Sec.cells] at v0 v1 v2 v3 v4 v5 v6
      clear hc4 b4 HI hAc
      go_wp2_with fail
      with_reducible refine (hLa.out _).mono ?_
      rintro e w5 ⟨rfl, b5⟩
      have HI5 := Lib.hid (HI4.out.below b5)
      have hc5 := HI5.out.box
      clear v0 v1 v2 v3 v4 v5 v6
      have v0 := obj_cell hc5 0
      have v1 := obj_cell hc5 1
      have v2 := obj_cell hc5 2
      have v3 := obj_cell hc5 3
      have v4 := obj_cell hc5 4
      have v5 := obj_cell hc5 5
      have v6 := obj_cell hc5 6
      simp [Sec.cells] at v0 v1 v2 v3 v4 v5 v6
      clear hc5 b5 HI4 hLa
      have n1 : ¬ full < ac := by omega
      have n2 : ¬ d < la := by omega
      have n3 : ¬ la < bb := by omega
      by_cases hd : d = la
      · obtain rfl : ac = 0 := hz hd
        subst hd
        clear hbef hz n1
        go_wp2
        go_roundw
        case rel => exact ⟨d + 1, 0, by first | rfl | go_num, by first | rfl | go_num, by omega, by omega, Or.inr ⟨by omega, Lib.hid (by rw [show d + 1 - 1 = d by omega]; exact HAE.out)⟩, HI5⟩
        case measure => simp [RowKit.intOf]; omega
      · have hb := hbef.out hd
        have n4 : ¬ ac < be := by omega
        have hde : (d == la) = false := by rw [beq_eq_false_iff_ne]; exact hd
        have hdn : (d != la) = true := by rw [bne, hde]; rfl
        clear hbef hz hd
        go_wp2
        go_roundw
        case rel => exact ⟨d + 1, ac, by first | rfl | go_num, by first | rfl | go_num, by omega, by omega, Or.inr ⟨by omega, Lib.hid (by rw [show d + 1 - 1 = d by omega]; exact HAE.out)⟩, HI5⟩
        case measure => simp [RowKit.intOf]; omega
    · clear hbe HF HG HA HL HLI HX3
      go_wp2_with (go_at_call 10; refine (HSN.out _).mono ?_; rintro e w6 ⟨rfl, b6⟩)
      go_ret
      exact ⟨rfl, (HI.out.below b6).old⟩

end Go.Proofs.Ytoidiofdjokpkaa
