/- Contracts of package coupon's functions of one security that is right. -/
import Derived.Test.YthajkhonapjihabSec
import Derived.Test.YthajkhonapjihabPut7
import Derived.IntWalk
namespace Go.Proofs.Ythajkhonapjihab
open Go.RowKit Go.Lib Go.Proofs

/-- n over d, rounded to the nearest whole number, a half up. -/
def shareI (n d : Int) : Int := (n + d / 2) / d
/-- The coupon on an amount. -/
def couponI (s : Sec) (a : Int) : Int := shareI (a * s.rate * s.ev) 1200000
/-- The last coupon day until a day. -/
def lastI (s : Sec) (d : Int) : Int := if s.ev = 0 then s.iss else d - (d - s.iss) % (s.ev * 30)
/-- The interest that has accrued. -/
def accruedI (s : Sec) (a d : Int) : Int := shareI (a * s.rate * (d - lastI s d)) 36000000

set_option maxHeartbeats 400000 in
theorem cpshare_any (n d : Int) (w : World) (n0 : 0 ≤ n) (n1 : n ≤ 8000000000000000000) (d0 : 1 ≤ d) (d1 : d ≤ 36000000) :
    Calls Try.prog 65 #[.int .i64 n, .int .i64 d] w fun e w' => e = .returned (.int .i64 (shareI n d)) ∧ w = w' := by
  unfold shareI
  have h0 : 0 ≤ d / 2 := by omega
  have h1 : d / 2 ≤ 36000000 := by omega
  have h2 : 0 ≤ n + d / 2 := by omega
  have h3 : n + d / 2 ≤ 8000000001000000000 := by omega
  have q0 : 0 ≤ (n + d / 2) / d := Int.ediv_nonneg h2 (by omega)
  have q1 : (n + d / 2) / d ≤ 8000000001000000000 := Int.le_trans (Int.ediv_le_self _ h2) h3
  go_enter Try.func65, Try.ntmps65
  go_wp2
  go_ret
  exact ⟨rfl, rfl⟩

set_option maxHeartbeats 400000 in
theorem cpfault_ok {s : Sec} {z r : Int} (h : SecOk s z r) (a : Int) (a0 : 0 ≤ a) (a1 : a ≤ 1000000000000) (w : World) :
    Calls Try.prog 64 #[.agg s.cells.toArray, .int .i64 a] w fun e w' => e = .returned (.int .i64 0) ∧ Below w.heap.size w w' := by
  have HS := Lib.hid (fun W => rgSecurity_ok h W)
  obtain ⟨i, u, b, m, q, e, x⟩ := s
  simp only [Sec.cells] at *
  have HB := Lib.hid (below_alloc w (.cells #[.int .i64 i, .int .i64 u, .int .i64 b, .int .i64 m, .int .i64 q, .int .i64 e, .bool x] 27))
  clear h
  go_enter Try.func64, Try.ntmps64
  go_wp2_with (go_at_call 32; refine (HS.out _).mono ?_; rintro e w2 ⟨rfl, hb2⟩)
  go_ret
  exact ⟨rfl, HB.out.trans (hb2.mono (by simp))⟩

theorem mul3_le {a q e A Q E : Int} (a0 : 0 ≤ a) (a1 : a ≤ A) (q0 : 0 ≤ q) (q1 : q ≤ Q) (e0 : 0 ≤ e) (e1 : e ≤ E) : 0 ≤ a * q ∧ a * q ≤ A * Q ∧ 0 ≤ a * q * e ∧ a * q * e ≤ A * Q * E := by
  have h0 : 0 ≤ a * q := Int.mul_nonneg a0 q0
  have h1 : a * q ≤ A * Q := Int.mul_le_mul a1 q1 q0 (by omega)
  exact ⟨h0, h1, Int.mul_nonneg h0 e0, Int.mul_le_mul h1 e1 e0 (by omega)⟩

theorem SecOk.ev0 {s : Sec} {z r : Int} (h : SecOk s z r) : 0 ≤ s.ev ∧ s.ev ≤ 12 := by rcases h.ev with h | h | h | h | h <;> omega

set_option maxHeartbeats 1000000 in
theorem cpCoupon_ok {s : Sec} {z r : Int} (h : SecOk s z r) (a : Int) (a0 : 0 ≤ a) (a1 : a ≤ 1000000000000) (w : World) :
    Calls Try.prog 29 #[.agg s.cells.toArray, .int .i64 a] w fun e w' => e = .returned (.tuple #[.int .i64 (couponI s a), .int .i64 0]) ∧ Below w.heap.size w w' := by
  have HF := Lib.hid (fun W => cpfault_ok h a a0 a1 W)
  obtain ⟨m1, m2, m3, m4⟩ := mul3_le a0 a1 h.rate0 h.rate1 h.ev0.1 h.ev0.2
  have HS := Lib.hid (fun W => cpshare_any (a * s.rate * s.ev) 1200000 W m3 (by omega) (by omega) (by omega))
  have hq : couponI s a = shareI (a * s.rate * s.ev) 1200000 := rfl
  rw [hq]
  obtain ⟨i, u, b, m, q, e, x⟩ := s
  simp only [Sec.cells] at *
  have HB := Lib.hid (below_alloc w (.cells #[.int .i64 i, .int .i64 u, .int .i64 b, .int .i64 m, .int .i64 q, .int .i64 e, .bool x] 27))
  have hc := heap_alloc_new w (.cells #[.int .i64 i, .int .i64 u, .int .i64 b, .int .i64 m, .int .i64 q, .int .i64 e, .bool x] 27)
  have HC := Lib.hid hc
  generalize shareI (a * q * e) 1200000 = res at *
  clear h hq hc
  go_enter Try.func29, Try.ntmps29
  go_wp2_with fail
  refine (HF.out _).mono ?_
  rintro e w2 ⟨rfl, hb2⟩
  have hc2 := obj_below HC.out hb2
  have v4 := obj_cell hc2 4
  have v5 := obj_cell hc2 5
  simp at v4 v5
  have HB2 := Lib.hid (HB.out.trans (hb2.mono (by simp)))
  clear hb2 hc2 HC HB HF
  go_wp2_with (go_at_call 65; refine (HS.out _).mono ?_; rintro e w3 ⟨rfl, rfl⟩)
  go_ret2
  exact ⟨rfl, HB2.out⟩

theorem lastI_in {s : Sec} {z r : Int} (h : SecOk s z r) {d : Int} (h0 : s.iss ≤ d) : s.iss ≤ lastI s d ∧ lastI s d ≤ d ∧ (s.ev = 0 ∨ d - lastI s d < 30 * s.ev) := by
  unfold lastI
  rcases h.ev with h | h | h | h | h
  · rw [if_pos h.1]; omega
  · rw [if_neg (by omega), h.1]; omega
  · rw [if_neg (by omega), h.1]; omega
  · rw [if_neg (by omega), h.1]; omega
  · rw [if_neg (by omega), h.1]; omega

set_option maxHeartbeats 1000000 in
theorem cpLast_ok {s : Sec} {z r : Int} (h : SecOk s z r) (d : Int) (d0 : s.iss ≤ d) (d1 : d ≤ s.mat) (w : World) :
    Calls Try.prog 70 #[.agg s.cells.toArray, .int .i64 d] w fun e w' => e = .returned (.int .i64 (lastI s d)) ∧ Below w.heap.size w w' := by
  have HS := Lib.hid (fun W => rgSecurity_ok h W)
  have hq : lastI s d = (if s.ev = 0 then s.iss else d - (d - s.iss) % (s.ev * 30)) := rfl
  have b0 := h.iss0
  have b1 := h.mat1
  have HL := Lib.hid (lastI_in h d0)
  have hev := h.ev
  rw [hq] at HL ⊢
  obtain ⟨i, u, b, m, q, e, x⟩ := s
  simp only [Sec.cells] at *
  have HB := Lib.hid (below_alloc w (.cells #[.int .i64 i, .int .i64 u, .int .i64 b, .int .i64 m, .int .i64 q, .int .i64 e, .bool x] 27))
  have hc := heap_alloc_new w (.cells #[.int .i64 i, .int .i64 u, .int .i64 b, .int .i64 m, .int .i64 q, .int .i64 e, .bool x] 27)
  have HC := Lib.hid hc
  clear h hq hc
  go_enter Try.func70, Try.ntmps70
  go_wp2_with fail
  refine (HS.out _).mono ?_
  rintro e w2 ⟨rfl, hb2⟩
  have hc2 := obj_below HC.out hb2
  have v2 := obj_cell hc2 2
  have v3 := obj_cell hc2 3
  have v5 := obj_cell hc2 5
  simp at v2 v3 v5
  have HB2 := Lib.hid (HB.out.trans (hb2.mono (by simp)))
  clear hb2 hc2 HC HB HS
  have t0 : 0 ≤ d - b := by omega
  have t1 : d - b ≤ 36000 := by omega
  rcases hev with ⟨rfl, rfl, rfl⟩ | ⟨rfl, rfl⟩ | ⟨rfl, rfl⟩ | ⟨rfl, rfl⟩ | ⟨rfl, rfl⟩
  · go_wp2
    go_ret
    exact ⟨rfl, HB2.out⟩
  · have e0 := Int.emod_nonneg (d - b) (show (30 : Int) ≠ 0 by omega)
    have e1 := Int.emod_lt_of_pos (d - b) (show (0 : Int) < 30 by omega)
    go_wp2
    go_ret
    exact ⟨rfl, HB2.out⟩
  · have e0 := Int.emod_nonneg (d - b) (show (90 : Int) ≠ 0 by omega)
    have e1 := Int.emod_lt_of_pos (d - b) (show (0 : Int) < 90 by omega)
    go_wp2
    go_ret
    exact ⟨rfl, HB2.out⟩
  · have e0 := Int.emod_nonneg (d - b) (show (180 : Int) ≠ 0 by omega)
    have e1 := Int.emod_lt_of_pos (d - b) (show (0 : Int) < 180 by omega)
    go_wp2
    go_ret
    exact ⟨rfl, HB2.out⟩
  · have e0 := Int.emod_nonneg (d - b) (show (360 : Int) ≠ 0 by omega)
    have e1 := Int.emod_lt_of_pos (d - b) (show (0 : Int) < 360 by omega)
    go_wp2
    go_ret
    exact ⟨rfl, HB2.out⟩

set_option maxHeartbeats 1000000 in
theorem cpAccrued_ok {s : Sec} {z r : Int} (h : SecOk s z r) (a d : Int) (a0 : 0 ≤ a) (a1 : a ≤ 1000000000000) (d0 : s.iss ≤ d) (d1 : d ≤ s.mat) (w : World) :
    Calls Try.prog 38 #[.agg s.cells.toArray, .int .i64 a, .int .i64 d] w fun e w' => e = .returned (.tuple #[.int .i64 (accruedI s a d), .int .i64 0]) ∧ Below w.heap.size w w' := by
  have HF := Lib.hid (fun W => cpfault_ok h a a0 a1 W)
  have HL := Lib.hid (fun W => cpLast_ok h d d0 d1 W)
  obtain ⟨l0, l1, l2⟩ := lastI_in h d0
  have b0 := h.iss0
  have b1 := h.mat1
  have hgap : 0 ≤ d - lastI s d ∧ (d - lastI s d ≤ 360 ∨ s.rate = 0) := by
    refine ⟨by omega, ?_⟩
    rcases l2 with l2 | l2
    · rcases h.ev with h | h | h | h | h <;> omega
    · have := h.ev0; omega
  have hprod : 0 ≤ a * s.rate ∧ a * s.rate ≤ 20000000000000000 ∧ 0 ≤ a * s.rate * (d - lastI s d) ∧ a * s.rate * (d - lastI s d) ≤ 8000000000000000000 := by
    rcases hgap.2 with hg | hg
    · obtain ⟨m1, m2, m3, m4⟩ := mul3_le a0 a1 h.rate0 h.rate1 hgap.1 hg
      exact ⟨m1, m2, m3, by omega⟩
    · rw [hg]; simp
  obtain ⟨m1, m2, m3, m4⟩ := hprod
  have HS := Lib.hid (fun W => cpshare_any (a * s.rate * (d - lastI s d)) 36000000 W m3 (by omega) (by omega) (by omega))
  have hq : accruedI s a d = shareI (a * s.rate * (d - lastI s d)) 36000000 := rfl
  rw [hq]
  have hl0 : 0 ≤ lastI s d := by omega
  have hg0 := hgap.1
  have hg1 : d - lastI s d ≤ 36000 := by omega
  have hd0 : 0 ≤ d := by omega
  have hd1 : d ≤ 36000 := by omega
  obtain ⟨i, u, b, m, q, e, x⟩ := s
  simp only [Sec.cells] at *
  have HB := Lib.hid (below_alloc w (.cells #[.int .i64 i, .int .i64 u, .int .i64 b, .int .i64 m, .int .i64 q, .int .i64 e, .bool x] 27))
  have hc := heap_alloc_new w (.cells #[.int .i64 i, .int .i64 u, .int .i64 b, .int .i64 m, .int .i64 q, .int .i64 e, .bool x] 27)
  have HC := Lib.hid hc
  generalize lastI ⟨i, u, b, m, q, e, x⟩ d = la at *
  generalize shareI (a * q * (d - la)) 36000000 = res at *
  clear h hq hc l0 l1 l2 hgap
  go_enter Try.func38, Try.ntmps38
  go_wp2_with fail
  refine (HF.out _).mono ?_
  rintro e w2 ⟨rfl, hb2⟩
  have hc2 := obj_below HC.out hb2
  have v0 := obj_cell hc2 0
  have v1 := obj_cell hc2 1
  have v2 := obj_cell hc2 2
  have v3 := obj_cell hc2 3
  have v4 := obj_cell hc2 4
  have v5 := obj_cell hc2 5
  have v6 := obj_cell hc2 6
  simp at v0 v1 v2 v3 v4 v5 v6
  have HC2 := Lib.hid hc2
  have HB2 := Lib.hid (HB.out.trans (hb2.mono (by simp)))
  clear hb2 hc2 HC HB HF
  go_wp2_with fail
  refine (HL.out _).mono ?_
  rintro e w3 ⟨rfl, hb3⟩
  have hc3 := obj_below HC2.out hb3
  have u4 := obj_cell hc3 4
  simp at u4
  have HB3 := Lib.hid (HB2.out.trans (hb3.mono HB2.out.size))
  clear hb3 hc3 HC2 HB2 HL v0 v1 v2 v3 v4 v5 v6
  go_wp2_with (go_at_call 65; refine (HS.out _).mono ?_; rintro e w3 ⟨rfl, rfl⟩)
  go_ret2
  exact ⟨rfl, HB3.out⟩

/-- The coupon days: the first k of them. -/
def daysL (s : Sec) (z : Int) (k : Nat) : List Int := (List.range k).map fun (j : Nat) => s.iss + 30 * z * ((j : Int) + 1)
/-- All coupon days; nothing without coupons. -/
def daysM (s : Sec) (z r : Int) : List Int := if s.ev = 0 then [] else daysL s z r.toNat

theorem daysL_len (s : Sec) (z : Int) (k : Nat) : (daysL s z k).length = k := by simp [daysL]
theorem daysL_snoc (s : Sec) (z : Int) (k : Nat) : cellsI (daysL s z k) ++ [.int .i64 (s.iss + 30 * z * ((k : Int) + 1))] = cellsI (daysL s z (k + 1)) := by
  simp [daysL, List.range_succ, cellsI]
theorem daysL_get (s : Sec) (z : Int) (k j : Nat) (h : j < k) : (daysL s z k).getD j 0 = s.iss + 30 * z * ((j : Int) + 1) := by
  simp [daysL, List.getD, h]

/-- What Days hands back: the coupon days, in new memory. -/
def DaysPost (s : Sec) (z r : Int) (w : World) (e : Ending) (w' : World) : Prop := ∃ v, e = .returned v ∧ w'.ownsRow w.heap.size 3 1 v (daysM s z r).length (cellsI (daysM s z r)) ∧ Below w.heap.size w w'

/-- Days on the way. -/
structure DyInv (w : World) (s : Sec) (z : Int) (k : Nat) (v : Value) (W : World) : Prop where
  box : W.heap[w.heap.size]? = some (.cells s.cells.toArray 27 (0, 0))
  own : W.ownsRow (w.heap.size + 1) 3 1 v k (cellsI (daysL s z k))
  old : Below w.heap.size w W

end Go.Proofs.Ythajkhonapjihab
