/- Contracts of package coupon's functions of one security that is right. -/
import Derived.Test.YtblidmkkbcobgaaMG1
import Derived.IntWalk
set_option linter.unusedSimpArgs false
set_option linter.unusedVariables false
namespace Go.Proofs.Ytblidmkkbcobgaa
open Go.RowKit Go.Lib Go.Proofs

/-- n over d, rounded to the nearest whole number, a half up. -/
def shareI (n d : Int) : Int := (n + d / 2) / d
/-- The coupon on an amount. -/
def couponI (s : Sec) (a : Int) : Int := shareI (a * s.rate * s.ev) 1200000
/-- The last coupon day until a day. -/
def lastI (s : Sec) (d : Int) : Int := if s.ev = 0 then s.iss else d - (d - s.iss) % (s.ev * 30)
/-- The interest that has accrued. -/
def accruedI (s : Sec) (a d : Int) : Int := shareI (a * s.rate * (d - lastI s d)) 36000000

set_option maxHeartbeats 400000 in
theorem cpshare_any (n d : Int) (w : World) (n0 : 0 ≤ n) (n1 : n ≤ 8000000000000000000) (d0 : 1 ≤ d) (d1 : d ≤ 36000000) :
    Calls Try.prog 79 #[.int .i64 n, .int .i64 d] w fun e w' => e = .returned (.int .i64 (shareI n d)) ∧ w = w' := by
  unfold shareI
  have h0 : 0 ≤ d / 2 := by omega
  have h1 : d / 2 ≤ 36000000 := by omega
  have h2 : 0 ≤ n + d / 2 := by omega
  have h3 : n + d / 2 ≤ 8000000001000000000 := by omega
  have q0 : 0 ≤ (n + d / 2) / d := Int.ediv_nonneg h2 (by omega)
  have q1 : (n + d / 2) / d ≤ 8000000001000000000 := Int.le_trans (Int.ediv_le_self _ h2) h3
  go_enter Try.func79, Try.ntmps79
  go_wp2
  go_ret
  exact ⟨rfl, rfl⟩

set_option maxHeartbeats 400000 in
theorem cpfault_ok {s : Sec} {z r : Int} (h : SecOk s z r) (a : Int) (a0 : 0 ≤ a) (a1 : a ≤ 1000000000000) (w : World) :
    Calls Try.prog 78 #[.agg s.cells.toArray, .int .i64 a] w fun e w' => e = .returned (.int .i64 0) ∧ Below w.heap.size w w' := by
  have HS := Lib.hid (fun W => rgSecurity_ok h W)
  obtain ⟨i, u, b, m, q, e, x⟩ := s
  simp only [Sec.cells] at *
  have HB := Lib.hid (below_alloc w (.cells #[.int .i64 i, .int .i64 u, .int .i64 b, .int .i64 m, .int .i64 q, .int .i64 e, .bool x] 55))
  clear h
  go_enter Try.func78, Try.ntmps78
  go_wp2_with (go_at_call 80; refine (HS.out _).mono ?_; rintro e w2 ⟨rfl, hb2⟩)
  go_ret
  exact ⟨rfl, HB.out.trans (hb2.mono (by simp))⟩

theorem mul3_le {a q e A Q E : Int} (a0 : 0 ≤ a) (a1 : a ≤ A) (q0 : 0 ≤ q) (q1 : q ≤ Q) (e0 : 0 ≤ e) (e1 : e ≤ E) : 0 ≤ a * q ∧ a * q ≤ A * Q ∧ 0 ≤ a * q * e ∧ a * q * e ≤ A * Q * E := by
  have h0 : 0 ≤ a * q := Int.mul_nonneg a0 q0
  have h1 : a * q ≤ A * Q := Int.mul_le_mul a1 q1 q0 (by omega)
  exact ⟨h0, h1, Int.mul_nonneg h0 e0, Int.mul_le_mul h1 e1 e0 (by omega)⟩

theorem SecOk.ev0 {s : Sec} {z r : Int} (h : SecOk s z r) : 0 ≤ s.ev ∧ s.ev ≤ 12 := by rcases h.ev with h | h | h | h | h <;> omega

set_option maxHeartbeats 1000000 in
theorem cpCoupon_ok {s : Sec} {z r : Int} (h : SecOk s z r) (a : Int) (a0 : 0 ≤ a) (a1 : a ≤ 1000000000000) (w : World) :
    Calls Try.prog 33 #[.agg s.cells.toArray, .int .i64 a] w fun e w' => e = .returned (.tuple #[.int .i64 (couponI s a), .int .i64 0]) ∧ Below w.heap.size w w' := by
  have HF := Lib.hid (fun W => cpfault_ok h a a0 a1 W)
  obtain ⟨m1, m2, m3, m4⟩ := mul3_le a0 a1 h.rate0 h.rate1 h.ev0.1 h.ev0.2
  have HS := Lib.hid (fun W => cpshare_any (a * s.rate * s.ev) 1200000 W m3 (by omega) (by omega) (by omega))
  have hq : couponI s a = shareI (a * s.rate * s.ev) 1200000 := rfl
  rw [hq]
  obtain ⟨i, u, b, m, q, e, x⟩ := s
  simp only [Sec.cells] at *
  have HB := Lib.hid (below_alloc w (.cells #[.int .i64 i, .int .i64 u, .int .i64 b, .int .i64 m, .int .i64 q, .int .i64 e, .bool x] 55))
  have hc := heap_alloc_new w (.cells #[.int .i64 i, .int .i64 u, .int .i64 b, .int .i64 m, .int .i64 q, .int .i64 e, .bool x] 55)
  have HC := Lib.hid hc
  generalize shareI (a * q * e) 1200000 = res at *
  clear h hq hc
  go_enter Try.func33, Try.ntmps33
  go_wp2_with fail
  refine (HF.out _).mono ?_
  rintro e w2 ⟨rfl, hb2⟩
  have hc2 := obj_below HC.out hb2
  have v4 := obj_cell hc2 4
  have v5 := obj_cell hc2 5
  simp at v4 v5
  have HB2 := Lib.hid (HB.out.trans (hb2.mono (by simp)))
  clear hb2 hc2 HC HB HF
  go_wp2_with (go_at_call 79; refine (HS.out _).mono ?_; rintro e w3 ⟨rfl, rfl⟩)
  go_ret2
  exact ⟨rfl, HB2.out⟩

theorem lastI_in {s : Sec} {z r : Int} (h : SecOk s z r) {d : Int} (h0 : s.iss ≤ d) : s.iss ≤ lastI s d ∧ lastI s d ≤ d ∧ (s.ev = 0 ∨ d - lastI s d < 30 * s.ev) := by
  unfold lastI
  rcases h.ev with h | h | h | h | h
  · rw [if_pos h.1]; omega
  · rw [if_neg (by omega), h.1]; omega
  · rw [if_neg (by omega), h.1]; omega
  · rw [if_neg (by omega), h.1]; omega
  · rw [if_neg (by omega), h.1]; omega

set_option maxHeartbeats 1000000 in
theorem cpLast_ok {s : Sec} {z r : Int} (h : SecOk s z r) (d : Int) (d0 : s.iss ≤ d) (d1 : d ≤ s.mat) (w : World) :
    Calls Try.prog 83 #[.agg s.cells.toArray, .int .i64 d] w fun e w' => e = .returned (.int .i64 (lastI s d)) ∧ Below w.heap.size w w' := by
  have HS := Lib.hid (fun W => rgSecurity_ok h W)
  have hq : lastI s d = (if s.ev = 0 then s.iss else d - (d - s.iss) % (s.ev * 30)) := rfl
  have b0 := h.iss0
  have b1 := h.mat1
  have HL := Lib.hid (lastI_in h d0)
  have hev := h.ev
  rw [hq] at HL ⊢
  obtain ⟨i, u, b, m, q, e, x⟩ := s
  simp only [Sec.cells] at *
  have HB := Lib.hid (below_alloc w (.cells #[.int .i64 i, .int .i64 u, .int .i64 b, .int .i64 m, .int .i64 q, .int .i64 e, .bool x] 55))
  have hc := heap_alloc_new w (.cells #[.int .i64 i, .int .i64 u, .int .i64 b, .int .i64 m, .int .i64 q, .int .i64 e, .bool x] 55)
  have HC := Lib.hid hc
  clear h hq hc
  go_enter Try.func83, Try.ntmps83
  go_wp2_with fail
  refine (HS.out _).mono ?_
  rintro e w2 ⟨rfl, hb2⟩
  have hc2 := obj_below HC.out hb2
  have v2 := obj_cell hc2 2
  have v3 := obj_cell hc2 3
  have v5 := obj_cell hc2 5
  simp at v2 v3 v5
  have HB2 := Lib.hid (HB.out.trans (hb2.mono (by simp)))
  clear hb2 hc2 HC HB HS
  have t0 : 0 ≤ d - b := by omega
  have t1 : d - b ≤ 36000 := by omega
  rcases hev with ⟨rfl, rfl, rfl⟩ | ⟨rfl, rfl⟩ | ⟨rfl, rfl⟩ | ⟨rfl, rfl⟩ | ⟨rfl, rfl⟩
  · go_wp2
    go_ret
    exact ⟨rfl, HB2.out⟩
  · have e0 := Int.emod_nonneg (d - b) (show (30 : Int) ≠ 0 by omega)
    have e1 := Int.emod_lt_of_pos (d - b) (show (0 : Int) < 30 by omega)
    go_wp2
    go_ret
    exact ⟨rfl, HB2.out⟩
  · have e0 := Int.emod_nonneg (d - b) (show (90 : Int) ≠ 0 by omega)
    have e1 := Int.emod_lt_of_pos (d - b) (show (0 : Int) < 90 by omega)
    go_wp2
    go_ret
    exact ⟨rfl, HB2.out⟩
  · have e0 := Int.emod_nonneg (d - b) (show (180 : Int) ≠ 0 by omega)
    have e1 := Int.emod_lt_of_pos (d - b) (show (0 : Int) < 180 by omega)
    go_wp2
    go_ret
    exact ⟨rfl, HB2.out⟩
  · have e0 := Int.emod_nonneg (d - b) (show (360 : Int) ≠ 0 by omega)
    have e1 := Int.emod_lt_of_pos (d - b) (show (0 : Int) < 360 by omega)
    go_wp2
    go_ret
    exact ⟨rfl, HB2.out⟩

set_option maxHeartbeats 1000000 in
theorem cpAccrued_ok {s : Sec} {z r : Int} (h : SecOk s z r) (a d : Int) (a0 : 0 ≤ a) (a1 : a ≤ 1000000000000) (d0 : s.iss ≤ d) (d1 : d ≤ s.mat) (w : World) :
    Calls Try.prog 82 #[.agg s.cells.toArray, .int .i64 a, .int .i64 d] w fun e w' => e = .returned (.tuple #[.int .i64 (accruedI s a d), .int .i64 0]) ∧ Below w.heap.size w w' := by
  have HF := Lib.hid (fun W => cpfault_ok h a a0 a1 W)
  have HL := Lib.hid (fun W => cpLast_ok h d d0 d1 W)
  obtain ⟨l0, l1, l2⟩ := lastI_in h d0
  have b0 := h.iss0
  have b1 := h.mat1
  have hgap : 0 ≤ d - lastI s d ∧ (d - lastI s d ≤ 360 ∨ s.rate = 0) := by
    refine ⟨by omega, ?_⟩
    rcases l2 with l2 | l2
    · rcases h.ev with h | h | h | h | h <;> omega
    · have := h.ev0; omega
  have hprod : 0 ≤ a * s.rate ∧ a * s.rate ≤ 20000000000000000 ∧ 0 ≤ a * s.rate * (d - lastI s d) ∧ a * s.rate * (d - lastI s d) ≤ 8000000000000000000 := by
    rcases hgap.2 with hg | hg
    · obtain ⟨m1, m2, m3, m4⟩ := mul3_le a0 a1 h.rate0 h.rate1 hgap.1 hg
      exact ⟨m1, m2, m3, by omega⟩
    · rw [hg]; simp
  obtain ⟨m1, m2, m3, m4⟩ := hprod
  have HS := Lib.hid (fun W => cpshare_any (a * s.rate * (d - lastI s d)) 36000000 W m3 (by omega) (by omega) (by omega))
  have hq : accruedI s a d = shareI (a * s.rate * (d - lastI s d)) 36000000 := rfl
  rw [hq]
  have hl0 : 0 ≤ lastI s d := by omega
  have hg0 := hgap.1
  have hg1 : d - lastI s d ≤ 36000 := by omega
  have hd0 : 0 ≤ d := by omega
  have hd1 : d ≤ 36000 := by omega
  obtain ⟨i, u, b, m, q, e, x⟩ := s
  simp only [Sec.cells] at *
  have HB := Lib.hid (below_alloc w (.cells #[.int .i64 i, .int .i64 u, .int .i64 b, .int .i64 m, .int .i64 q, .int .i64 e, .bool x] 55))
  have hc := heap_alloc_new w (.cells #[.int .i64 i, .int .i64 u, .int .i64 b, .int .i64 m, .int .i64 q, .int .i64 e, .bool x] 55)
  have HC := Lib.hid hc
  generalize lastI ⟨i, u, b, m, q, e, x⟩ d = la at *
  generalize shareI (a * q * (d - la)) 36000000 = res at *
  clear h hq hc l0 l1 l2 hgap
  go_enter Try.func82, Try.ntmps82
  go_wp2_with fail
  refine (HF.out _).mono ?_
  rintro e w2 ⟨rfl, hb2⟩
  have hc2 := obj_below HC.out hb2
  have v0 := obj_cell hc2 0
  have v1 := obj_cell hc2 1
  have v2 := obj_cell hc2 2
  have v3 := obj_cell hc2 3
  have v4 := obj_cell hc2 4
  have v5 := obj_cell hc2 5
  have v6 := obj_cell hc2 6
  simp at v0 v1 v2 v3 v4 v5 v6
  have HC2 := Lib.hid hc2
  have HB2 := Lib.hid (HB.out.trans (hb2.mono (by simp)))
  clear hb2 hc2 HC HB HF
  go_wp2_with fail
  refine (HL.out _).mono ?_
  rintro e w3 ⟨rfl, hb3⟩
  have hc3 := obj_below HC2.out hb3
  have u4 := obj_cell hc3 4
  simp at u4
  have HB3 := Lib.hid (HB2.out.trans (hb3.mono HB2.out.size))
  clear hb3 hc3 HC2 HB2 HL v0 v1 v2 v3 v4 v5 v6
  go_wp2_with (go_at_call 79; refine (HS.out _).mono ?_; rintro e w3 ⟨rfl, rfl⟩)
  go_ret2
  exact ⟨rfl, HB3.out⟩

/-- The coupon days: the first k of them. -/
def daysL (s : Sec) (z : Int) (k : Nat) : List Int := (List.range k).map fun (j : Nat) => s.iss + 30 * z * ((j : Int) + 1)
/-- All coupon days; nothing without coupons. -/
def daysM (s : Sec) (z r : Int) : List Int := if s.ev = 0 then [] else daysL s z r.toNat

theorem daysL_len (s : Sec) (z : Int) (k : Nat) : (daysL s z k).length = k := by simp [daysL]
theorem daysL_snoc (s : Sec) (z : Int) (k : Nat) : cellsI (daysL s z k) ++ [.int .i64 (s.iss + 30 * z * ((k : Int) + 1))] = cellsI (daysL s z (k + 1)) := by
  simp [daysL, List.range_succ, cellsI]
theorem daysL_get (s : Sec) (z : Int) (k j : Nat) (h : j < k) : (daysL s z k).getD j 0 = s.iss + 30 * z * ((j : Int) + 1) := by
  simp [daysL, List.getD, h]

/-- What Days hands back: the coupon days, in new memory. -/
def DaysPost (s : Sec) (z r : Int) (w : World) (e : Ending) (w' : World) : Prop := ∃ v, e = .returned v ∧ w'.ownsRow w.heap.size 3 1 v (daysM s z r).length (cellsI (daysM s z r)) ∧ Below w.heap.size w w'

/-- Days on the way. -/
structure DyInv (w : World) (s : Sec) (z : Int) (k : Nat) (v : Value) (W : World) : Prop where
  box : W.heap[w.heap.size]? = some (.cells s.cells.toArray 55 (0, 0))
  own : W.ownsRow (w.heap.size + 1) 3 1 v k (cellsI (daysL s z k))
  old : Below w.heap.size w W

set_option maxHeartbeats 2000000 in
theorem cpDays_ok {s : Sec} {z r : Int} (h : SecOk s z r) (w : World) : Calls Try.prog 34 #[.agg s.cells.toArray] w (DaysPost s z r w) := by
  obtain ⟨i0, hi0, hz0, hz1, hz2⟩ := info_parts Try.infoInt
  have HS := Lib.hid (fun W => rgSecurity_ok h W)
  have HH := Lib.hid h
  have HS0 := Lib.hid (show ∃ c, s.cells.toArray = c from ⟨_, rfl⟩)
  have hev := h.ev
  have b0 := h.iss0
  have b1 := h.mat1
  have b9 := h.iss1
  have hr0 := h.r0
  have htm := h.term
  have hzr := h.zr
  by_cases hz : s.ev = 0
  · have hd : daysM s z r = [] := by unfold daysM; rw [if_pos hz]
    unfold DaysPost
    rw [hd]
    clear hev htm hzr
    obtain ⟨i, u, b, m, q, e, x⟩ := s
    simp only [Sec.cells] at *
    subst hz
    have HB := Lib.hid (below_alloc w (.cells #[.int .i64 i, .int .i64 u, .int .i64 b, .int .i64 m, .int .i64 q, .int .i64 0, .bool x] 55))
    have hc := heap_alloc_new w (.cells #[.int .i64 i, .int .i64 u, .int .i64 b, .int .i64 m, .int .i64 q, .int .i64 0, .bool x] 55)
    have HC := Lib.hid hc
    clear h hd hc
    go_enter Try.func34, Try.ntmps34
    go_wp2_with fail
    refine (HS.out _).mono ?_
    rintro e w2 ⟨rfl, hb2⟩
    have hc2 := obj_below HC.out hb2
    have v5 := obj_cell hc2 5
    simp at v5
    have HB2 := Lib.hid (HB.out.trans (hb2.mono (by simp)))
    clear hb2 hc2 HC HB HS
    go_wp2
    go_ret
    exact ⟨_, rfl, World.ownsRow_nil _ _ _ _, HB2.out⟩
  · have hd : daysM s z r = daysL s z r.toNat := by unfold daysM; rw [if_neg hz]
    have hez : s.ev = z := by rcases hev with h | h | h | h | h <;> omega
    obtain ⟨n, rfl⟩ : ∃ n : Nat, r = n := ⟨r.toNat, by omega⟩
    unfold DaysPost
    rw [hd, daysL_len, Int.toNat_natCast]
    obtain ⟨i, u, b, m, q, e, x⟩ := s
    simp only at *
    subst hez
    have HBX := Lib.hid (show (w.alloc (.cells #[.int .i64 i, .int .i64 u, .int .i64 b, .int .i64 m, .int .i64 q, .int .i64 e, .bool x] 55)).heap[w.heap.size]? = some (.cells (Sec.cells ⟨i, u, b, m, q, e, x⟩).toArray 55 (0, 0)) from heap_alloc_new w _)
    have HB := Lib.hid (below_alloc w (.cells #[.int .i64 i, .int .i64 u, .int .i64 b, .int .i64 m, .int .i64 q, .int .i64 e, .bool x] 55))
    have hev2 : e = 1 ∨ e = 3 ∨ e = 6 ∨ e = 12 := by omega
    have HT := Lib.hid htm
    clear hev hd h htm
    rcases hev2 with rfl | rfl | rfl | rfl
    · have hn : n ≤ 600 := by omega
      have HT2 : Hid (m = b + 30 * (n : Int)) := Lib.hid (by have := HT.out; omega)
      simp only [Sec.cells] at HS HBX ⊢
      clear HT HH HS0 hzr hz
      go_enter Try.func34, Try.ntmps34
      go_wp2_with fail
      with_reducible refine (HS.out _).mono ?_
      rintro e w2 ⟨rfl, hb2⟩
      have hc2 := obj_below HBX.out hb2
      have v2 := obj_cell hc2 2
      have v3 := obj_cell hc2 3
      have v5 := obj_cell hc2 5
      simp at v2 v3 v5
      have HC2 := Lib.hid hc2
      have HB2 := Lib.hid (HB.out.trans (hb2.mono (by simp)))
      clear hb2 hc2 HBX HB HS
      go_wp2
      clear v2 v3 v5
      go_loopw [3, 4] (fun v c wr => ∃ (k : Nat) (dd : Int), c = .int .i64 dd ∧ dd = b + 30 * ((k : Int) + 1) ∧ k ≤ n ∧ DyInv w ⟨i, u, b, m, q, 1, x⟩ 1 k v wr) (fun _ c _ => (m + 1000 - RowKit.intOf c).toNat)
      case atStart => exact ⟨0, b + 30, by go_num, by omega, Nat.zero_le _, HC2.out, World.ownsRow_nil _ _ _ _, HB2.out⟩
      case round =>
        obtain ⟨k, dd, rfl, hdd, hkn, hinv⟩ := hrel
        have hbx := hinv.box
        have hown := hinv.own
        have hold := hinv.old.size
        have hsz := obj_lt hbx
        have HDD := Lib.hid hdd
        have HI := Lib.hid hinv
        have z3 := obj_cell hbx 3
        have z5 := obj_cell hbx 5
        simp [Sec.cells] at z3 z5
        by_cases hlt : k < n
        · have hle : dd ≤ m := by have := HT2.out; omega
          have hdd0 : 0 ≤ dd := by omega
          have hnd : ¬ m < dd := by omega
          have HBX := Lib.hid hbx
          clear hinv hdd hbx
          go_wp2_with (at_builtin; refine wpList_append_own _ rfl _ _ 22 rfl (w.heap.size + 1) 3 i0 (.int .i64 0) 1 8 Try.underlying22 hi0 hz0 hz1 hz2 rfl (by decide) _ _ _ rfl (hown.alloc _) ⟨wr.heap.size, 0, none⟩ 1 1 [.int .i64 dd] rfl rfl (one_new _ _ _ _ rfl) (one_int _ _) (by unfold maxLen; omega) (by omega) (by simp; omega) ?_; intro v' w4 hown4 hgr4 _; (have hbx4 : w4.heap[w.heap.size]? = some (.cells (Sec.cells ⟨i, u, b, m, q, 1, x⟩).toArray 55 (0, 0)) := (hgr4.block _ (by simp; omega) (fun e => by have := ownBlock_le HI.out.own _ e.symm; omega)).trans (obj_below HBX.out (below_alloc wr _))); (have z5 := obj_cell hbx4 5); (simp [Sec.cells] at z5); (have HBX4 := Lib.hid hbx4); clear hbx4)
          go_roundw
          case rel =>
            refine ⟨k + 1, dd + 30, by go_num, by have := HDD.out; omega, by omega, HBX4.out, ?_, ((HI.out.old.alloc HI.out.old.size _).grown hgr4 (by simp; omega) fun r hr => by have := ownBlock_le HI.out.own r hr; omega)⟩
            rw [HDD.out] at hown4
            have h5 := daysL_snoc ⟨i, u, b, m, q, 1, x⟩ 1 k
            simp only at h5
            rw [show b + 30 * 1 * ((k : Int) + 1) = b + 30 * ((k : Int) + 1) by omega] at h5
            rw [h5] at hown4
            exact hown4
          case measure => simp [RowKit.intOf]; omega
        · obtain rfl : k = n := by omega
          have hgt : m < dd := by have := HT2.out; omega
          have hnd : ¬ dd ≤ m := by omega
          clear hinv hdd hbx
          go_wp2
          go_ret
          exact ⟨_, rfl, ownsRow_mono HI.out.own (by omega), HI.out.old⟩
    · have hn : n ≤ 600 := by omega
      have HT2 : Hid (m = b + 90 * (n : Int)) := Lib.hid (by have := HT.out; omega)
      simp only [Sec.cells] at HS HBX ⊢
      clear HT HH HS0 hzr hz
      go_enter Try.func34, Try.ntmps34
      go_wp2_with fail
      with_reducible refine (HS.out _).mono ?_
      rintro e w2 ⟨rfl, hb2⟩
      have hc2 := obj_below HBX.out hb2
      have v2 := obj_cell hc2 2
      have v3 := obj_cell hc2 3
      have v5 := obj_cell hc2 5
      simp at v2 v3 v5
      have HC2 := Lib.hid hc2
      have HB2 := Lib.hid (HB.out.trans (hb2.mono (by simp)))
      clear hb2 hc2 HBX HB HS
      go_wp2
      clear v2 v3 v5
      go_loopw [3, 4] (fun v c wr => ∃ (k : Nat) (dd : Int), c = .int .i64 dd ∧ dd = b + 90 * ((k : Int) + 1) ∧ k ≤ n ∧ DyInv w ⟨i, u, b, m, q, 3, x⟩ 3 k v wr) (fun _ c _ => (m + 1000 - RowKit.intOf c).toNat)
      case atStart => exact ⟨0, b + 90, by go_num, by omega, Nat.zero_le _, HC2.out, World.ownsRow_nil _ _ _ _, HB2.out⟩
      case round =>
        obtain ⟨k, dd, rfl, hdd, hkn, hinv⟩ := hrel
        have hbx := hinv.box
        have hown := hinv.own
        have hold := hinv.old.size
        have hsz := obj_lt hbx
        have HDD := Lib.hid hdd
        have HI := Lib.hid hinv
        have z3 := obj_cell hbx 3
        have z5 := obj_cell hbx 5
        simp [Sec.cells] at z3 z5
        by_cases hlt : k < n
        · have hle : dd ≤ m := by have := HT2.out; omega
          have hdd0 : 0 ≤ dd := by omega
          have hnd : ¬ m < dd := by omega
          have HBX := Lib.hid hbx
          clear hinv hdd hbx
          go_wp2_with (at_builtin; refine wpList_append_own _ rfl _ _ 22 rfl (w.heap.size + 1) 3 i0 (.int .i64 0) 1 8 Try.underlying22 hi0 hz0 hz1 hz2 rfl (by decide) _ _ _ rfl (hown.alloc _) ⟨wr.heap.size, 0, none⟩ 1 1 [.int .i64 dd] rfl rfl (one_new _ _ _ _ rfl) (one_int _ _) (by unfold maxLen; omega) (by omega) (by simp; omega) ?_; intro v' w4 hown4 hgr4 _; (have hbx4 : w4.heap[w.heap.size]? = some (.cells (Sec.cells ⟨i, u, b, m, q, 3, x⟩).toArray 55 (0, 0)) := (hgr4.block _ (by simp; omega) (fun e => by have := ownBlock_le HI.out.own _ e.symm; omega)).trans (obj_below HBX.out (below_alloc wr _))); (have z5 := obj_cell hbx4 5); (simp [Sec.cells] at z5); (have HBX4 := Lib.hid hbx4); clear hbx4)
          go_roundw
          case rel =>
            refine ⟨k + 1, dd + 90, by go_num, by have := HDD.out; omega, by omega, HBX4.out, ?_, ((HI.out.old.alloc HI.out.old.size _).grown hgr4 (by simp; omega) fun r hr => by have := ownBlock_le HI.out.own r hr; omega)⟩
            rw [HDD.out] at hown4
            have h5 := daysL_snoc ⟨i, u, b, m, q, 3, x⟩ 3 k
            simp only at h5
            rw [show b + 30 * 3 * ((k : Int) + 1) = b + 90 * ((k : Int) + 1) by omega] at h5
            rw [h5] at hown4
            exact hown4
          case measure => simp [RowKit.intOf]; omega
        · obtain rfl : k = n := by omega
          have hgt : m < dd := by have := HT2.out; omega
          have hnd : ¬ dd ≤ m := by omega
          clear hinv hdd hbx
          go_wp2
          go_ret
          exact ⟨_, rfl, ownsRow_mono HI.out.own (by omega), HI.out.old⟩
    · have hn : n ≤ 600 := by omega
      have HT2 : Hid (m = b + 180 * (n : Int)) := Lib.hid (by have := HT.out; omega)
      simp only [Sec.cells] at HS HBX ⊢
      clear HT HH HS0 hzr hz
      go_enter Try.func34, Try.ntmps34
      go_wp2_with fail
      with_reducible refine (HS.out _).mono ?_
      rintro e w2 ⟨rfl, hb2⟩
      have hc2 := obj_below HBX.out hb2
      have v2 := obj_cell hc2 2
      have v3 := obj_cell hc2 3
      have v5 := obj_cell hc2 5
      simp at v2 v3 v5
      have HC2 := Lib.hid hc2
      have HB2 := Lib.hid (HB.out.trans (hb2.mono (by simp)))
      clear hb2 hc2 HBX HB HS
      go_wp2
      clear v2 v3 v5
      go_loopw [3, 4] (fun v c wr => ∃ (k : Nat) (dd : Int), c = .int .i64 dd ∧ dd = b + 180 * ((k : Int) + 1) ∧ k ≤ n ∧ DyInv w ⟨i, u, b, m, q, 6, x⟩ 6 k v wr) (fun _ c _ => (m + 1000 - RowKit.intOf c).toNat)
      case atStart => exact ⟨0, b + 180, by go_num, by omega, Nat.zero_le _, HC2.out, World.ownsRow_nil _ _ _ _, HB2.out⟩
      case round =>
        obtain ⟨k, dd, rfl, hdd, hkn, hinv⟩ := hrel
        have hbx := hinv.box
        have hown := hinv.own
        have hold := hinv.old.size
        have hsz := obj_lt hbx
        have HDD := Lib.hid hdd
        have HI := Lib.hid hinv
        have z3 := obj_cell hbx 3
        have z5 := obj_cell hbx 5
        simp [Sec.cells] at z3 z5
        by_cases hlt : k < n
        · have hle : dd ≤ m := by have := HT2.out; omega
          have hdd0 : 0 ≤ dd := by omega
          have hnd : ¬ m < dd := by omega
          have HBX := Lib.hid hbx
          clear hinv hdd hbx
          go_wp2_with (at_builtin; refine wpList_append_own _ rfl _ _ 22 rfl (w.heap.size + 1) 3 i0 (.int .i64 0) 1 8 Try.underlying22 hi0 hz0 hz1 hz2 rfl (by decide) _ _ _ rfl (hown.alloc _) ⟨wr.heap.size, 0, none⟩ 1 1 [.int .i64 dd] rfl rfl (one_new _ _ _ _ rfl) (one_int _ _) (by unfold maxLen; omega) (by omega) (by simp; omega) ?_; intro v' w4 hown4 hgr4 _; (have hbx4 : w4.heap[w.heap.size]? = some (.cells (Sec.cells ⟨i, u, b, m, q, 6, x⟩).toArray 55 (0, 0)) := (hgr4.block _ (by simp; omega) (fun e => by have := ownBlock_le HI.out.own _ e.symm; omega)).trans (obj_below HBX.out (below_alloc wr _))); (have z5 := obj_cell hbx4 5); (simp [Sec.cells] at z5); (have HBX4 := Lib.hid hbx4); clear hbx4)
          go_roundw
          case rel =>
            refine ⟨k + 1, dd + 180, by go_num, by have := HDD.out; omega, by omega, HBX4.out, ?_, ((HI.out.old.alloc HI.out.old.size _).grown hgr4 (by simp; omega) fun r hr => by have := ownBlock_le HI.out.own r hr; omega)⟩
            rw [HDD.out] at hown4
            have h5 := daysL_snoc ⟨i, u, b, m, q, 6, x⟩ 6 k
            simp only at h5
            rw [show b + 30 * 6 * ((k : Int) + 1) = b + 180 * ((k : Int) + 1) by omega] at h5
            rw [h5] at hown4
            exact hown4
          case measure => simp [RowKit.intOf]; omega
        · obtain rfl : k = n := by omega
          have hgt : m < dd := by have := HT2.out; omega
          have hnd : ¬ dd ≤ m := by omega
          clear hinv hdd hbx
          go_wp2
          go_ret
          exact ⟨_, rfl, ownsRow_mono HI.out.own (by omega), HI.out.old⟩
    · have hn : n ≤ 600 := by omega
      have HT2 : Hid (m = b + 360 * (n : Int)) := Lib.hid (by have := HT.out; omega)
      simp only [Sec.cells] at HS HBX ⊢
      clear HT HH HS0 hzr hz
      go_enter Try.func34, Try.ntmps34
      go_wp2_with fail
      with_reducible refine (HS.out _).mono ?_
      rintro e w2 ⟨rfl, hb2⟩
      have hc2 := obj_below HBX.out hb2
      have v2 := obj_cell hc2 2
      have v3 := obj_cell hc2 3
      have v5 := obj_cell hc2 5
      simp at v2 v3 v5
      have HC2 := Lib.hid hc2
      have HB2 := Lib.hid (HB.out.trans (hb2.mono (by simp)))
      clear hb2 hc2 HBX HB HS
      go_wp2
      clear v2 v3 v5
      go_loopw [3, 4] (fun v c wr => ∃ (k : Nat) (dd : Int), c = .int .i64 dd ∧ dd = b + 360 * ((k : Int) + 1) ∧ k ≤ n ∧ DyInv w ⟨i, u, b, m, q, 12, x⟩ 12 k v wr) (fun _ c _ => (m + 1000 - RowKit.intOf c).toNat)
      case atStart => exact ⟨0, b + 360, by go_num, by omega, Nat.zero_le _, HC2.out, World.ownsRow_nil _ _ _ _, HB2.out⟩
      case round =>
        obtain ⟨k, dd, rfl, hdd, hkn, hinv⟩ := hrel
        have hbx := hinv.box
        have hown := hinv.own
        have hold := hinv.old.size
        have hsz := obj_lt hbx
        have HDD := Lib.hid hdd
        have HI := Lib.hid hinv
        have z3 := obj_cell hbx 3
        have z5 := obj_cell hbx 5
        simp [Sec.cells] at z3 z5
        by_cases hlt : k < n
        · have hle : dd ≤ m := by have := HT2.out; omega
          have hdd0 : 0 ≤ dd := by omega
          have hnd : ¬ m < dd := by omega
          have HBX := Lib.hid hbx
          clear hinv hdd hbx
          go_wp2_with (at_builtin; refine wpList_append_own _ rfl _ _ 22 rfl (w.heap.size + 1) 3 i0 (.int .i64 0) 1 8 Try.underlying22 hi0 hz0 hz1 hz2 rfl (by decide) _ _ _ rfl (hown.alloc _) ⟨wr.heap.size, 0, none⟩ 1 1 [.int .i64 dd] rfl rfl (one_new _ _ _ _ rfl) (one_int _ _) (by unfold maxLen; omega) (by omega) (by simp; omega) ?_; intro v' w4 hown4 hgr4 _; (have hbx4 : w4.heap[w.heap.size]? = some (.cells (Sec.cells ⟨i, u, b, m, q, 12, x⟩).toArray 55 (0, 0)) := (hgr4.block _ (by simp; omega) (fun e => by have := ownBlock_le HI.out.own _ e.symm; omega)).trans (obj_below HBX.out (below_alloc wr _))); (have z5 := obj_cell hbx4 5); (simp [Sec.cells] at z5); (have HBX4 := Lib.hid hbx4); clear hbx4)
          go_roundw
          case rel =>
            refine ⟨k + 1, dd + 360, by go_num, by have := HDD.out; omega, by omega, HBX4.out, ?_, ((HI.out.old.alloc HI.out.old.size _).grown hgr4 (by simp; omega) fun r hr => by have := ownBlock_le HI.out.own r hr; omega)⟩
            rw [HDD.out] at hown4
            have h5 := daysL_snoc ⟨i, u, b, m, q, 12, x⟩ 12 k
            simp only at h5
            rw [show b + 30 * 12 * ((k : Int) + 1) = b + 360 * ((k : Int) + 1) by omega] at h5
            rw [h5] at hown4
            exact hown4
          case measure => simp [RowKit.intOf]; omega
        · obtain rfl : k = n := by omega
          have hgt : m < dd := by have := HT2.out; omega
          have hnd : ¬ dd ≤ m := by omega
          clear hinv hdd hbx
          go_wp2
          go_ret
          exact ⟨_, rfl, ownsRow_mono HI.out.own (by omega), HI.out.old⟩

end Go.Proofs.Ytblidmkkbcobgaa
