/- Texts of one claim, merged: Coup, MonF, RoF, RowC, RowL, RhM, RhN, Sfun. -/
import Derived.Test.YtnfllgeneehjjaaMG1
import Derived.Test.YtnfllgeneehjjaaMPut7
import Derived.IntWalk
/- Contracts of package coupon's functions of one security that is right. -/
set_option linter.unusedSimpArgs false
set_option linter.unusedVariables false
namespace Go.Proofs.Ytnfllgeneehjjaa
open Go.RowKit Go.Lib Go.Proofs

/-- n over d, rounded to the nearest whole number, a half up. -/
def shareI (n d : Int) : Int := (n + d / 2) / d
/-- The coupon on an amount. -/
def couponI (s : Sec) (a : Int) : Int := shareI (a * s.rate * s.ev) 1200000
/-- The last coupon day until a day. -/
def lastI (s : Sec) (d : Int) : Int := if s.ev = 0 then s.iss else d - (d - s.iss) % (s.ev * 30)
/-- The interest that has accrued. -/
def accruedI (s : Sec) (a d : Int) : Int := shareI (a * s.rate * (d - lastI s d)) 36000000

set_option maxHeartbeats 400000 in
theorem cpshare_any (n d : Int) (w : World) (n0 : 0 ≤ n) (n1 : n ≤ 8000000000000000000) (d0 : 1 ≤ d) (d1 : d ≤ 36000000) :
    Calls Try.prog 79 #[.int .i64 n, .int .i64 d] w fun e w' => e = .returned (.int .i64 (shareI n d)) ∧ w = w' := by
  unfold shareI
  have h0 : 0 ≤ d / 2 := by omega
  have h1 : d / 2 ≤ 36000000 := by omega
  have h2 : 0 ≤ n + d / 2 := by omega
  have h3 : n + d / 2 ≤ 8000000001000000000 := by omega
  have q0 : 0 ≤ (n + d / 2) / d := Int.ediv_nonneg h2 (by omega)
  have q1 : (n + d / 2) / d ≤ 8000000001000000000 := Int.le_trans (Int.ediv_le_self _ h2) h3
  go_enter Try.func79, Try.ntmps79
  go_wp2
  go_ret
  exact ⟨rfl, rfl⟩

set_option maxHeartbeats 400000 in
theorem cpfault_ok {s : Sec} {z r : Int} (h : SecOk s z r) (a : Int) (a0 : 0 ≤ a) (a1 : a ≤ 1000000000000) (w : World) :
    Calls Try.prog 78 #[.agg s.cells.toArray, .int .i64 a] w fun e w' => e = .returned (.int .i64 0) ∧ Below w.heap.size w w' := by
  have HS := Lib.hid (fun W => rgSecurity_ok h W)
  obtain ⟨i, u, b, m, q, e, x⟩ := s
  simp only [Sec.cells] at *
  have HB := Lib.hid (below_alloc w (.cells #[.int .i64 i, .int .i64 u, .int .i64 b, .int .i64 m, .int .i64 q, .int .i64 e, .bool x] 34))
  clear h
  go_enter Try.func78, Try.ntmps78
  go_wp2_with (go_at_call 34; refine (HS.out _).mono ?_; rintro e w2 ⟨rfl, hb2⟩)
  go_ret
  exact ⟨rfl, HB.out.trans (hb2.mono (by simp))⟩

theorem mul3_le {a q e A Q E : Int} (a0 : 0 ≤ a) (a1 : a ≤ A) (q0 : 0 ≤ q) (q1 : q ≤ Q) (e0 : 0 ≤ e) (e1 : e ≤ E) : 0 ≤ a * q ∧ a * q ≤ A * Q ∧ 0 ≤ a * q * e ∧ a * q * e ≤ A * Q * E := by
  have h0 : 0 ≤ a * q := Int.mul_nonneg a0 q0
  have h1 : a * q ≤ A * Q := Int.mul_le_mul a1 q1 q0 (by omega)
  exact ⟨h0, h1, Int.mul_nonneg h0 e0, Int.mul_le_mul h1 e1 e0 (by omega)⟩

theorem SecOk.ev0 {s : Sec} {z r : Int} (h : SecOk s z r) : 0 ≤ s.ev ∧ s.ev ≤ 12 := by rcases h.ev with h | h | h | h | h <;> omega

set_option maxHeartbeats 1000000 in
theorem cpCoupon_ok {s : Sec} {z r : Int} (h : SecOk s z r) (a : Int) (a0 : 0 ≤ a) (a1 : a ≤ 1000000000000) (w : World) :
    Calls Try.prog 48 #[.agg s.cells.toArray, .int .i64 a] w fun e w' => e = .returned (.tuple #[.int .i64 (couponI s a), .int .i64 0]) ∧ Below w.heap.size w w' := by
  have HF := Lib.hid (fun W => cpfault_ok h a a0 a1 W)
  obtain ⟨m1, m2, m3, m4⟩ := mul3_le a0 a1 h.rate0 h.rate1 h.ev0.1 h.ev0.2
  have HS := Lib.hid (fun W => cpshare_any (a * s.rate * s.ev) 1200000 W m3 (by omega) (by omega) (by omega))
  have hq : couponI s a = shareI (a * s.rate * s.ev) 1200000 := rfl
  rw [hq]
  obtain ⟨i, u, b, m, q, e, x⟩ := s
  simp only [Sec.cells] at *
  have HB := Lib.hid (below_alloc w (.cells #[.int .i64 i, .int .i64 u, .int .i64 b, .int .i64 m, .int .i64 q, .int .i64 e, .bool x] 34))
  have hc := heap_alloc_new w (.cells #[.int .i64 i, .int .i64 u, .int .i64 b, .int .i64 m, .int .i64 q, .int .i64 e, .bool x] 34)
  have HC := Lib.hid hc
  generalize shareI (a * q * e) 1200000 = res at *
  clear h hq hc
  go_enter Try.func48, Try.ntmps48
  go_wp2_with fail
  refine (HF.out _).mono ?_
  rintro e w2 ⟨rfl, hb2⟩
  have hc2 := obj_below HC.out hb2
  have v4 := obj_cell hc2 4
  have v5 := obj_cell hc2 5
  simp at v4 v5
  have HB2 := Lib.hid (HB.out.trans (hb2.mono (by simp)))
  clear hb2 hc2 HC HB HF
  go_wp2_with (go_at_call 79; refine (HS.out _).mono ?_; rintro e w3 ⟨rfl, rfl⟩)
  go_ret2
  exact ⟨rfl, HB2.out⟩

theorem lastI_in {s : Sec} {z r : Int} (h : SecOk s z r) {d : Int} (h0 : s.iss ≤ d) : s.iss ≤ lastI s d ∧ lastI s d ≤ d ∧ (s.ev = 0 ∨ d - lastI s d < 30 * s.ev) := by
  unfold lastI
  rcases h.ev with h | h | h | h | h
  · rw [if_pos h.1]; omega
  · rw [if_neg (by omega), h.1]; omega
  · rw [if_neg (by omega), h.1]; omega
  · rw [if_neg (by omega), h.1]; omega
  · rw [if_neg (by omega), h.1]; omega

set_option maxHeartbeats 1000000 in
theorem cpLast_ok {s : Sec} {z r : Int} (h : SecOk s z r) (d : Int) (d0 : s.iss ≤ d) (d1 : d ≤ s.mat) (w : World) :
    Calls Try.prog 81 #[.agg s.cells.toArray, .int .i64 d] w fun e w' => e = .returned (.int .i64 (lastI s d)) ∧ Below w.heap.size w w' := by
  have HS := Lib.hid (fun W => rgSecurity_ok h W)
  have hq : lastI s d = (if s.ev = 0 then s.iss else d - (d - s.iss) % (s.ev * 30)) := rfl
  have b0 := h.iss0
  have b1 := h.mat1
  have HL := Lib.hid (lastI_in h d0)
  have hev := h.ev
  rw [hq] at HL ⊢
  obtain ⟨i, u, b, m, q, e, x⟩ := s
  simp only [Sec.cells] at *
  have HB := Lib.hid (below_alloc w (.cells #[.int .i64 i, .int .i64 u, .int .i64 b, .int .i64 m, .int .i64 q, .int .i64 e, .bool x] 34))
  have hc := heap_alloc_new w (.cells #[.int .i64 i, .int .i64 u, .int .i64 b, .int .i64 m, .int .i64 q, .int .i64 e, .bool x] 34)
  have HC := Lib.hid hc
  clear h hq hc
  go_enter Try.func81, Try.ntmps81
  go_wp2_with fail
  refine (HS.out _).mono ?_
  rintro e w2 ⟨rfl, hb2⟩
  have hc2 := obj_below HC.out hb2
  have v2 := obj_cell hc2 2
  have v3 := obj_cell hc2 3
  have v5 := obj_cell hc2 5
  simp at v2 v3 v5
  have HB2 := Lib.hid (HB.out.trans (hb2.mono (by simp)))
  clear hb2 hc2 HC HB HS
  have t0 : 0 ≤ d - b := by omega
  have t1 : d - b ≤ 36000 := by omega
  rcases hev with ⟨rfl, rfl, rfl⟩ | ⟨rfl, rfl⟩ | ⟨rfl, rfl⟩ | ⟨rfl, rfl⟩ | ⟨rfl, rfl⟩
  · go_wp2
    go_ret
    exact ⟨rfl, HB2.out⟩
  · have e0 := Int.emod_nonneg (d - b) (show (30 : Int) ≠ 0 by omega)
    have e1 := Int.emod_lt_of_pos (d - b) (show (0 : Int) < 30 by omega)
    go_wp2
    go_ret
    exact ⟨rfl, HB2.out⟩
  · have e0 := Int.emod_nonneg (d - b) (show (90 : Int) ≠ 0 by omega)
    have e1 := Int.emod_lt_of_pos (d - b) (show (0 : Int) < 90 by omega)
    go_wp2
    go_ret
    exact ⟨rfl, HB2.out⟩
  · have e0 := Int.emod_nonneg (d - b) (show (180 : Int) ≠ 0 by omega)
    have e1 := Int.emod_lt_of_pos (d - b) (show (0 : Int) < 180 by omega)
    go_wp2
    go_ret
    exact ⟨rfl, HB2.out⟩
  · have e0 := Int.emod_nonneg (d - b) (show (360 : Int) ≠ 0 by omega)
    have e1 := Int.emod_lt_of_pos (d - b) (show (0 : Int) < 360 by omega)
    go_wp2
    go_ret
    exact ⟨rfl, HB2.out⟩

set_option maxHeartbeats 1000000 in
theorem cpAccrued_ok {s : Sec} {z r : Int} (h : SecOk s z r) (a d : Int) (a0 : 0 ≤ a) (a1 : a ≤ 1000000000000) (d0 : s.iss ≤ d) (d1 : d ≤ s.mat) (w : World) :
    Calls Try.prog 80 #[.agg s.cells.toArray, .int .i64 a, .int .i64 d] w fun e w' => e = .returned (.tuple #[.int .i64 (accruedI s a d), .int .i64 0]) ∧ Below w.heap.size w w' := by
  have HF := Lib.hid (fun W => cpfault_ok h a a0 a1 W)
  have HL := Lib.hid (fun W => cpLast_ok h d d0 d1 W)
  obtain ⟨l0, l1, l2⟩ := lastI_in h d0
  have b0 := h.iss0
  have b1 := h.mat1
  have hgap : 0 ≤ d - lastI s d ∧ (d - lastI s d ≤ 360 ∨ s.rate = 0) := by
    refine ⟨by omega, ?_⟩
    rcases l2 with l2 | l2
    · rcases h.ev with h | h | h | h | h <;> omega
    · have := h.ev0; omega
  have hprod : 0 ≤ a * s.rate ∧ a * s.rate ≤ 20000000000000000 ∧ 0 ≤ a * s.rate * (d - lastI s d) ∧ a * s.rate * (d - lastI s d) ≤ 8000000000000000000 := by
    rcases hgap.2 with hg | hg
    · obtain ⟨m1, m2, m3, m4⟩ := mul3_le a0 a1 h.rate0 h.rate1 hgap.1 hg
      exact ⟨m1, m2, m3, by omega⟩
    · rw [hg]; simp
  obtain ⟨m1, m2, m3, m4⟩ := hprod
  have HS := Lib.hid (fun W => cpshare_any (a * s.rate * (d - lastI s d)) 36000000 W m3 (by omega) (by omega) (by omega))
  have hq : accruedI s a d = shareI (a * s.rate * (d - lastI s d)) 36000000 := rfl
  rw [hq]
  have hl0 : 0 ≤ lastI s d := by omega
  have hg0 := hgap.1
  have hg1 : d - lastI s d ≤ 36000 := by omega
  have hd0 : 0 ≤ d := by omega
  have hd1 : d ≤ 36000 := by omega
  obtain ⟨i, u, b, m, q, e, x⟩ := s
  simp only [Sec.cells] at *
  have HB := Lib.hid (below_alloc w (.cells #[.int .i64 i, .int .i64 u, .int .i64 b, .int .i64 m, .int .i64 q, .int .i64 e, .bool x] 34))
  have hc := heap_alloc_new w (.cells #[.int .i64 i, .int .i64 u, .int .i64 b, .int .i64 m, .int .i64 q, .int .i64 e, .bool x] 34)
  have HC := Lib.hid hc
  generalize lastI ⟨i, u, b, m, q, e, x⟩ d = la at *
  generalize shareI (a * q * (d - la)) 36000000 = res at *
  clear h hq hc l0 l1 l2 hgap
  go_enter Try.func80, Try.ntmps80
  go_wp2_with fail
  refine (HF.out _).mono ?_
  rintro e w2 ⟨rfl, hb2⟩
  have hc2 := obj_below HC.out hb2
  have v0 := obj_cell hc2 0
  have v1 := obj_cell hc2 1
  have v2 := obj_cell hc2 2
  have v3 := obj_cell hc2 3
  have v4 := obj_cell hc2 4
  have v5 := obj_cell hc2 5
  have v6 := obj_cell hc2 6
  simp at v0 v1 v2 v3 v4 v5 v6
  have HC2 := Lib.hid hc2
  have HB2 := Lib.hid (HB.out.trans (hb2.mono (by simp)))
  clear hb2 hc2 HC HB HF
  go_wp2_with fail
  refine (HL.out _).mono ?_
  rintro e w3 ⟨rfl, hb3⟩
  have hc3 := obj_below HC2.out hb3
  have u4 := obj_cell hc3 4
  simp at u4
  have HB3 := Lib.hid (HB2.out.trans (hb3.mono HB2.out.size))
  clear hb3 hc3 HC2 HB2 HL v0 v1 v2 v3 v4 v5 v6
  go_wp2_with (go_at_call 79; refine (HS.out _).mono ?_; rintro e w3 ⟨rfl, rfl⟩)
  go_ret2
  exact ⟨rfl, HB3.out⟩

/-- The coupon days: the first k of them. -/
def daysL (s : Sec) (z : Int) (k : Nat) : List Int := (List.range k).map fun (j : Nat) => s.iss + 30 * z * ((j : Int) + 1)
/-- All coupon days; nothing without coupons. -/
def daysM (s : Sec) (z r : Int) : List Int := if s.ev = 0 then [] else daysL s z r.toNat

theorem daysL_len (s : Sec) (z : Int) (k : Nat) : (daysL s z k).length = k := by simp [daysL]
theorem daysL_snoc (s : Sec) (z : Int) (k : Nat) : cellsI (daysL s z k) ++ [.int .i64 (s.iss + 30 * z * ((k : Int) + 1))] = cellsI (daysL s z (k + 1)) := by
  simp [daysL, List.range_succ, cellsI]
theorem daysL_get (s : Sec) (z : Int) (k j : Nat) (h : j < k) : (daysL s z k).getD j 0 = s.iss + 30 * z * ((j : Int) + 1) := by
  simp [daysL, List.getD, h]

/-- What Days hands back: the coupon days, in new memory. -/
def DaysPost (s : Sec) (z r : Int) (w : World) (e : Ending) (w' : World) : Prop := ∃ v, e = .returned v ∧ w'.ownsRow w.heap.size 3 1 v (daysM s z r).length (cellsI (daysM s z r)) ∧ Below w.heap.size w w'

/-- Days on the way. -/
structure DyInv (w : World) (s : Sec) (z : Int) (k : Nat) (v : Value) (W : World) : Prop where
  box : W.heap[w.heap.size]? = some (.cells s.cells.toArray 34 (0, 0))
  own : W.ownsRow (w.heap.size + 1) 3 1 v k (cellsI (daysL s z k))
  old : Below w.heap.size w W

set_option maxHeartbeats 2000000 in
theorem cpDays_ok {s : Sec} {z r : Int} (h : SecOk s z r) (w : World) : Calls Try.prog 77 #[.agg s.cells.toArray] w (DaysPost s z r w) := by
  obtain ⟨i0, hi0, hz0, hz1, hz2⟩ := info_parts Try.infoInt
  have HS := Lib.hid (fun W => rgSecurity_ok h W)
  have HH := Lib.hid h
  have HS0 := Lib.hid (show ∃ c, s.cells.toArray = c from ⟨_, rfl⟩)
  have hev := h.ev
  have b0 := h.iss0
  have b1 := h.mat1
  have b9 := h.iss1
  have hr0 := h.r0
  have htm := h.term
  have hzr := h.zr
  by_cases hz : s.ev = 0
  · have hd : daysM s z r = [] := by unfold daysM; rw [if_pos hz]
    unfold DaysPost
    rw [hd]
    clear hev htm hzr
    obtain ⟨i, u, b, m, q, e, x⟩ := s
    simp only [Sec.cells] at *
    subst hz
    have HB := Lib.hid (below_alloc w (.cells #[.int .i64 i, .int .i64 u, .int .i64 b, .int .i64 m, .int .i64 q, .int .i64 0, .bool x] 34))
    have hc := heap_alloc_new w (.cells #[.int .i64 i, .int .i64 u, .int .i64 b, .int .i64 m, .int .i64 q, .int .i64 0, .bool x] 34)
    have HC := Lib.hid hc
    clear h hd hc
    go_enter Try.func77, Try.ntmps77
    go_wp2_with fail
    refine (HS.out _).mono ?_
    rintro e w2 ⟨rfl, hb2⟩
    have hc2 := obj_below HC.out hb2
    have v5 := obj_cell hc2 5
    simp at v5
    have HB2 := Lib.hid (HB.out.trans (hb2.mono (by simp)))
    clear hb2 hc2 HC HB HS
    go_wp2
    go_ret
    exact ⟨_, rfl, World.ownsRow_nil _ _ _ _, HB2.out⟩
  · have hd : daysM s z r = daysL s z r.toNat := by unfold daysM; rw [if_neg hz]
    have hez : s.ev = z := by rcases hev with h | h | h | h | h <;> omega
    obtain ⟨n, rfl⟩ : ∃ n : Nat, r = n := ⟨r.toNat, by omega⟩
    unfold DaysPost
    rw [hd, daysL_len, Int.toNat_natCast]
    obtain ⟨i, u, b, m, q, e, x⟩ := s
    simp only at *
    subst hez
    have HBX := Lib.hid (show (w.alloc (.cells #[.int .i64 i, .int .i64 u, .int .i64 b, .int .i64 m, .int .i64 q, .int .i64 e, .bool x] 34)).heap[w.heap.size]? = some (.cells (Sec.cells ⟨i, u, b, m, q, e, x⟩).toArray 34 (0, 0)) from heap_alloc_new w _)
    have HB := Lib.hid (below_alloc w (.cells #[.int .i64 i, .int .i64 u, .int .i64 b, .int .i64 m, .int .i64 q, .int .i64 e, .bool x] 34))
    have hev2 : e = 1 ∨ e = 3 ∨ e = 6 ∨ e = 12 := by omega
    have HT := Lib.hid htm
    clear hev hd h htm
    rcases hev2 with rfl | rfl | rfl | rfl
    · have hn : n ≤ 600 := by omega
      have HT2 : Hid (m = b + 30 * (n : Int)) := Lib.hid (by have := HT.out; omega)
      simp only [Sec.cells] at HS HBX ⊢
      clear HT HH HS0 hzr hz
      go_enter Try.func77, Try.ntmps77
      go_wp2_with fail
      with_reducible refine (HS.out _).mono ?_
      rintro e w2 ⟨rfl, hb2⟩
      have hc2 := obj_below HBX.out hb2
      have v2 := obj_cell hc2 2
      have v3 := obj_cell hc2 3
      have v5 := obj_cell hc2 5
      simp at v2 v3 v5
      have HC2 := Lib.hid hc2
      have HB2 := Lib.hid (HB.out.trans (hb2.mono (by simp)))
      clear hb2 hc2 HBX HB HS
      go_wp2
      clear v2 v3 v5
      go_loopw [3, 4] (fun v c wr => ∃ (k : Nat) (dd : Int), c = .int .i64 dd ∧ dd = b + 30 * ((k : Int) + 1) ∧ k ≤ n ∧ DyInv w ⟨i, u, b, m, q, 1, x⟩ 1 k v wr) (fun _ c _ => (m + 1000 - RowKit.intOf c).toNat)
      case atStart => exact ⟨0, b + 30, by go_num, by omega, Nat.zero_le _, HC2.out, World.ownsRow_nil _ _ _ _, HB2.out⟩
      case round =>
        obtain ⟨k, dd, rfl, hdd, hkn, hinv⟩ := hrel
        have hbx := hinv.box
        have hown := hinv.own
        have hold := hinv.old.size
        have hsz := obj_lt hbx
        have HDD := Lib.hid hdd
        have HI := Lib.hid hinv
        have z3 := obj_cell hbx 3
        have z5 := obj_cell hbx 5
        simp [Sec.cells] at z3 z5
        by_cases hlt : k < n
        · have hle : dd ≤ m := by have := HT2.out; omega
          have hdd0 : 0 ≤ dd := by omega
          have hnd : ¬ m < dd := by omega
          have HBX := Lib.hid hbx
          clear hinv hdd hbx
          go_wp2_with (at_builtin; refine wpList_append_own _ rfl _ _ 22 rfl (w.heap.size + 1) 3 i0 (.int .i64 0) 1 8 Try.underlying22 hi0 hz0 hz1 hz2 rfl (by decide) _ _ _ rfl (hown.alloc _) ⟨wr.heap.size, 0, none⟩ 1 1 [.int .i64 dd] rfl rfl (one_new _ _ _ _ rfl) (one_int _ _) (by unfold maxLen; omega) (by omega) (by simp; omega) ?_; intro v' w4 hown4 hgr4 _; (have hbx4 : w4.heap[w.heap.size]? = some (.cells (Sec.cells ⟨i, u, b, m, q, 1, x⟩).toArray 34 (0, 0)) := (hgr4.block _ (by simp; omega) (fun e => by have := ownBlock_le HI.out.own _ e.symm; omega)).trans (obj_below HBX.out (below_alloc wr _))); (have z5 := obj_cell hbx4 5); (simp [Sec.cells] at z5); (have HBX4 := Lib.hid hbx4); clear hbx4)
          go_roundw
          case rel =>
            refine ⟨k + 1, dd + 30, by go_num, by have := HDD.out; omega, by omega, HBX4.out, ?_, ((HI.out.old.alloc HI.out.old.size _).grown hgr4 (by simp; omega) fun r hr => by have := ownBlock_le HI.out.own r hr; omega)⟩
            rw [HDD.out] at hown4
            have h5 := daysL_snoc ⟨i, u, b, m, q, 1, x⟩ 1 k
            simp only at h5
            rw [show b + 30 * 1 * ((k : Int) + 1) = b + 30 * ((k : Int) + 1) by omega] at h5
            rw [h5] at hown4
            exact hown4
          case measure => simp [RowKit.intOf]; omega
        · obtain rfl : k = n := by omega
          have hgt : m < dd := by have := HT2.out; omega
          have hnd : ¬ dd ≤ m := by omega
          clear hinv hdd hbx
          go_wp2
          go_ret
          exact ⟨_, rfl, ownsRow_mono HI.out.own (by omega), HI.out.old⟩
    · have hn : n ≤ 600 := by omega
      have HT2 : Hid (m = b + 90 * (n : Int)) := Lib.hid (by have := HT.out; omega)
      simp only [Sec.cells] at HS HBX ⊢
      clear HT HH HS0 hzr hz
      go_enter Try.func77, Try.ntmps77
      go_wp2_with fail
      with_reducible refine (HS.out _).mono ?_
      rintro e w2 ⟨rfl, hb2⟩
      have hc2 := obj_below HBX.out hb2
      have v2 := obj_cell hc2 2
      have v3 := obj_cell hc2 3
      have v5 := obj_cell hc2 5
      simp at v2 v3 v5
      have HC2 := Lib.hid hc2
      have HB2 := Lib.hid (HB.out.trans (hb2.mono (by simp)))
      clear hb2 hc2 HBX HB HS
      go_wp2
      clear v2 v3 v5
      go_loopw [3, 4] (fun v c wr => ∃ (k : Nat) (dd : Int), c = .int .i64 dd ∧ dd = b + 90 * ((k : Int) + 1) ∧ k ≤ n ∧ DyInv w ⟨i, u, b, m, q, 3, x⟩ 3 k v wr) (fun _ c _ => (m + 1000 - RowKit.intOf c).toNat)
      case atStart => exact ⟨0, b + 90, by go_num, by omega, Nat.zero_le _, HC2.out, World.ownsRow_nil _ _ _ _, HB2.out⟩
      case round =>
        obtain ⟨k, dd, rfl, hdd, hkn, hinv⟩ := hrel
        have hbx := hinv.box
        have hown := hinv.own
        have hold := hinv.old.size
        have hsz := obj_lt hbx
        have HDD := Lib.hid hdd
        have HI := Lib.hid hinv
        have z3 := obj_cell hbx 3
        have z5 := obj_cell hbx 5
        simp [Sec.cells] at z3 z5
        by_cases hlt : k < n
        · have hle : dd ≤ m := by have := HT2.out; omega
          have hdd0 : 0 ≤ dd := by omega
          have hnd : ¬ m < dd := by omega
          have HBX := Lib.hid hbx
          clear hinv hdd hbx
          go_wp2_with (at_builtin; refine wpList_append_own _ rfl _ _ 22 rfl (w.heap.size + 1) 3 i0 (.int .i64 0) 1 8 Try.underlying22 hi0 hz0 hz1 hz2 rfl (by decide) _ _ _ rfl (hown.alloc _) ⟨wr.heap.size, 0, none⟩ 1 1 [.int .i64 dd] rfl rfl (one_new _ _ _ _ rfl) (one_int _ _) (by unfold maxLen; omega) (by omega) (by simp; omega) ?_; intro v' w4 hown4 hgr4 _; (have hbx4 : w4.heap[w.heap.size]? = some (.cells (Sec.cells ⟨i, u, b, m, q, 3, x⟩).toArray 34 (0, 0)) := (hgr4.block _ (by simp; omega) (fun e => by have := ownBlock_le HI.out.own _ e.symm; omega)).trans (obj_below HBX.out (below_alloc wr _))); (have z5 := obj_cell hbx4 5); (simp [Sec.cells] at z5); (have HBX4 := Lib.hid hbx4); clear hbx4)
          go_roundw
          case rel =>
            refine ⟨k + 1, dd + 90, by go_num, by have := HDD.out; omega, by omega, HBX4.out, ?_, ((HI.out.old.alloc HI.out.old.size _).grown hgr4 (by simp; omega) fun r hr => by have := ownBlock_le HI.out.own r hr; omega)⟩
            rw [HDD.out] at hown4
            have h5 := daysL_snoc ⟨i, u, b, m, q, 3, x⟩ 3 k
            simp only at h5
            rw [show b + 30 * 3 * ((k : Int) + 1) = b + 90 * ((k : Int) + 1) by omega] at h5
            rw [h5] at hown4
            exact hown4
          case measure => simp [RowKit.intOf]; omega
        · obtain rfl : k = n := by omega
          have hgt : m < dd := by have := HT2.out; omega
          have hnd : ¬ dd ≤ m := by omega
          clear hinv hdd hbx
          go_wp2
          go_ret
          exact ⟨_, rfl, ownsRow_mono HI.out.own (by omega), HI.out.old⟩
    · have hn : n ≤ 600 := by omega
      have HT2 : Hid (m = b + 180 * (n : Int)) := Lib.hid (by have := HT.out; omega)
      simp only [Sec.cells] at HS HBX ⊢
      clear HT HH HS0 hzr hz
      go_enter Try.func77, Try.ntmps77
      go_wp2_with fail
      with_reducible refine (HS.out _).mono ?_
      rintro e w2 ⟨rfl, hb2⟩
      have hc2 := obj_below HBX.out hb2
      have v2 := obj_cell hc2 2
      have v3 := obj_cell hc2 3
      have v5 := obj_cell hc2 5
      simp at v2 v3 v5
      have HC2 := Lib.hid hc2
      have HB2 := Lib.hid (HB.out.trans (hb2.mono (by simp)))
      clear hb2 hc2 HBX HB HS
      go_wp2
      clear v2 v3 v5
      go_loopw [3, 4] (fun v c wr => ∃ (k : Nat) (dd : Int), c = .int .i64 dd ∧ dd = b + 180 * ((k : Int) + 1) ∧ k ≤ n ∧ DyInv w ⟨i, u, b, m, q, 6, x⟩ 6 k v wr) (fun _ c _ => (m + 1000 - RowKit.intOf c).toNat)
      case atStart => exact ⟨0, b + 180, by go_num, by omega, Nat.zero_le _, HC2.out, World.ownsRow_nil _ _ _ _, HB2.out⟩
      case round =>
        obtain ⟨k, dd, rfl, hdd, hkn, hinv⟩ := hrel
        have hbx := hinv.box
        have hown := hinv.own
        have hold := hinv.old.size
        have hsz := obj_lt hbx
        have HDD := Lib.hid hdd
        have HI := Lib.hid hinv
        have z3 := obj_cell hbx 3
        have z5 := obj_cell hbx 5
        simp [Sec.cells] at z3 z5
        by_cases hlt : k < n
        · have hle : dd ≤ m := by have := HT2.out; omega
          have hdd0 : 0 ≤ dd := by omega
          have hnd : ¬ m < dd := by omega
          have HBX := Lib.hid hbx
          clear hinv hdd hbx
          go_wp2_with (at_builtin; refine wpList_append_own _ rfl _ _ 22 rfl (w.heap.size + 1) 3 i0 (.int .i64 0) 1 8 Try.underlying22 hi0 hz0 hz1 hz2 rfl (by decide) _ _ _ rfl (hown.alloc _) ⟨wr.heap.size, 0, none⟩ 1 1 [.int .i64 dd] rfl rfl (one_new _ _ _ _ rfl) (one_int _ _) (by unfold maxLen; omega) (by omega) (by simp; omega) ?_; intro v' w4 hown4 hgr4 _; (have hbx4 : w4.heap[w.heap.size]? = some (.cells (Sec.cells ⟨i, u, b, m, q, 6, x⟩).toArray 34 (0, 0)) := (hgr4.block _ (by simp; omega) (fun e => by have := ownBlock_le HI.out.own _ e.symm; omega)).trans (obj_below HBX.out (below_alloc wr _))); (have z5 := obj_cell hbx4 5); (simp [Sec.cells] at z5); (have HBX4 := Lib.hid hbx4); clear hbx4)
          go_roundw
          case rel =>
            refine ⟨k + 1, dd + 180, by go_num, by have := HDD.out; omega, by omega, HBX4.out, ?_, ((HI.out.old.alloc HI.out.old.size _).grown hgr4 (by simp; omega) fun r hr => by have := ownBlock_le HI.out.own r hr; omega)⟩
            rw [HDD.out] at hown4
            have h5 := daysL_snoc ⟨i, u, b, m, q, 6, x⟩ 6 k
            simp only at h5
            rw [show b + 30 * 6 * ((k : Int) + 1) = b + 180 * ((k : Int) + 1) by omega] at h5
            rw [h5] at hown4
            exact hown4
          case measure => simp [RowKit.intOf]; omega
        · obtain rfl : k = n := by omega
          have hgt : m < dd := by have := HT2.out; omega
          have hnd : ¬ dd ≤ m := by omega
          clear hinv hdd hbx
          go_wp2
          go_ret
          exact ⟨_, rfl, ownsRow_mono HI.out.own (by omega), HI.out.old⟩
    · have hn : n ≤ 600 := by omega
      have HT2 : Hid (m = b + 360 * (n : Int)) := Lib.hid (by have := HT.out; omega)
      simp only [Sec.cells] at HS HBX ⊢
      clear HT HH HS0 hzr hz
      go_enter Try.func77, Try.ntmps77
      go_wp2_with fail
      with_reducible refine (HS.out _).mono ?_
      rintro e w2 ⟨rfl, hb2⟩
      have hc2 := obj_below HBX.out hb2
      have v2 := obj_cell hc2 2
      have v3 := obj_cell hc2 3
      have v5 := obj_cell hc2 5
      simp at v2 v3 v5
      have HC2 := Lib.hid hc2
      have HB2 := Lib.hid (HB.out.trans (hb2.mono (by simp)))
      clear hb2 hc2 HBX HB HS
      go_wp2
      clear v2 v3 v5
      go_loopw [3, 4] (fun v c wr => ∃ (k : Nat) (dd : Int), c = .int .i64 dd ∧ dd = b + 360 * ((k : Int) + 1) ∧ k ≤ n ∧ DyInv w ⟨i, u, b, m, q, 12, x⟩ 12 k v wr) (fun _ c _ => (m + 1000 - RowKit.intOf c).toNat)
      case atStart => exact ⟨0, b + 360, by go_num, by omega, Nat.zero_le _, HC2.out, World.ownsRow_nil _ _ _ _, HB2.out⟩
      case round =>
        obtain ⟨k, dd, rfl, hdd, hkn, hinv⟩ := hrel
        have hbx := hinv.box
        have hown := hinv.own
        have hold := hinv.old.size
        have hsz := obj_lt hbx
        have HDD := Lib.hid hdd
        have HI := Lib.hid hinv
        have z3 := obj_cell hbx 3
        have z5 := obj_cell hbx 5
        simp [Sec.cells] at z3 z5
        by_cases hlt : k < n
        · have hle : dd ≤ m := by have := HT2.out; omega
          have hdd0 : 0 ≤ dd := by omega
          have hnd : ¬ m < dd := by omega
          have HBX := Lib.hid hbx
          clear hinv hdd hbx
          go_wp2_with (at_builtin; refine wpList_append_own _ rfl _ _ 22 rfl (w.heap.size + 1) 3 i0 (.int .i64 0) 1 8 Try.underlying22 hi0 hz0 hz1 hz2 rfl (by decide) _ _ _ rfl (hown.alloc _) ⟨wr.heap.size, 0, none⟩ 1 1 [.int .i64 dd] rfl rfl (one_new _ _ _ _ rfl) (one_int _ _) (by unfold maxLen; omega) (by omega) (by simp; omega) ?_; intro v' w4 hown4 hgr4 _; (have hbx4 : w4.heap[w.heap.size]? = some (.cells (Sec.cells ⟨i, u, b, m, q, 12, x⟩).toArray 34 (0, 0)) := (hgr4.block _ (by simp; omega) (fun e => by have := ownBlock_le HI.out.own _ e.symm; omega)).trans (obj_below HBX.out (below_alloc wr _))); (have z5 := obj_cell hbx4 5); (simp [Sec.cells] at z5); (have HBX4 := Lib.hid hbx4); clear hbx4)
          go_roundw
          case rel =>
            refine ⟨k + 1, dd + 360, by go_num, by have := HDD.out; omega, by omega, HBX4.out, ?_, ((HI.out.old.alloc HI.out.old.size _).grown hgr4 (by simp; omega) fun r hr => by have := ownBlock_le HI.out.own r hr; omega)⟩
            rw [HDD.out] at hown4
            have h5 := daysL_snoc ⟨i, u, b, m, q, 12, x⟩ 12 k
            simp only at h5
            rw [show b + 30 * 12 * ((k : Int) + 1) = b + 360 * ((k : Int) + 1) by omega] at h5
            rw [h5] at hown4
            exact hown4
          case measure => simp [RowKit.intOf]; omega
        · obtain rfl : k = n := by omega
          have hgt : m < dd := by have := HT2.out; omega
          have hnd : ¬ dd ≤ m := by omega
          clear hinv hdd hbx
          go_wp2
          go_ret
          exact ⟨_, rfl, ownsRow_mono HI.out.own (by omega), HI.out.old⟩

end Go.Proofs.Ytnfllgeneehjjaa

/- Contracts of package money's range tests. -/
set_option linter.unusedSimpArgs false
set_option linter.unusedVariables false
namespace Go.Proofs.Ytnfllgeneehjjaa
open Go.RowKit Go.Lib Go.Proofs

set_option maxHeartbeats 400000 in
theorem within_any (n lo hi : Int) (w : World) :
    Calls Try.prog 100 #[.int .i64 n, .int .i64 lo, .int .i64 hi] w fun e w' => e = .returned (.bool (inB n lo hi)) ∧ w = w' := by
  by_cases h1 : lo ≤ n
  · by_cases h2 : n ≤ hi
    · rw [show inB n lo hi = true from inB_true.2 ⟨h1, h2⟩]
      go_enter Try.func100, Try.ntmps100
      go_wp2
      go_ret
      exact ⟨rfl, rfl⟩
    · rw [show inB n lo hi = false from inB_false.2 (fun q => h2 q.2)]
      go_enter Try.func100, Try.ntmps100
      go_wp2
      go_ret
      exact ⟨rfl, rfl⟩
  · rw [show inB n lo hi = false from inB_false.2 (fun q => h1 q.1)]
    go_enter Try.func100, Try.ntmps100
    go_wp2
    go_ret
    exact ⟨rfl, rfl⟩
theorem within_yes {n lo hi : Int} (w : World) (h1 : lo ≤ n) (h2 : n ≤ hi) : Calls Try.prog 100 #[.int .i64 n, .int .i64 lo, .int .i64 hi] w fun e w' => e = .returned (.bool true) ∧ w = w' := by
  have := within_any n lo hi w; rw [inB_true.2 ⟨h1, h2⟩] at this; exact this
theorem within_no {n lo hi : Int} (w : World) (h : ¬ (lo ≤ n ∧ n ≤ hi)) : Calls Try.prog 100 #[.int .i64 n, .int .i64 lo, .int .i64 hi] w fun e w' => e = .returned (.bool false) ∧ w = w' := by
  have := within_any n lo hi w; rw [inB_false.2 h] at this; exact this
theorem within_eq {n lo hi : Int} {c : Bool} (h : inB n lo hi = c) (w : World) : Calls Try.prog 100 #[.int .i64 n, .int .i64 lo, .int .i64 hi] w fun e w' => e = .returned (.bool c) ∧ w = w' := by
  have := within_any n lo hi w; rw [h] at this; exact this

set_option maxHeartbeats 400000 in
theorem Valid_any (n : Int) (w : World) : Calls Try.prog 83 #[.int .i64 n] w fun e w' => e = .returned (.bool (inB n (0) 1000000000000)) ∧ w = w' := by
  go_enter Try.func83, Try.ntmps83
  go_wp2_with (go_at_call 100; refine (within_any _ _ _ _).mono ?_; rintro e w' ⟨rfl, rfl⟩)
  go_ret
  exact ⟨rfl, rfl⟩
theorem Valid_yes {n : Int} (w : World) (h0 : 0 ≤ n) (h1 : n ≤ 1000000000000) : Calls Try.prog 83 #[.int .i64 n] w fun e w' => e = .returned (.bool true) ∧ w = w' := by
  have := Valid_any n w; rw [inB_true.2 ⟨h0, h1⟩] at this; exact this

end Go.Proofs.Ytnfllgeneehjjaa

/- Contracts of auction.Pay, reopening.Given (at the chapter's example) and reopening.Cost, for securities that are right. -/
set_option linter.unusedSimpArgs false
set_option linter.unusedVariables false
namespace Go.Proofs.Ytnfllgeneehjjaa
open Go.RowKit Go.Lib Go.Proofs

set_option maxHeartbeats 400000 in
theorem rowithin_any (n lo hi : Int) (w : World) :
    Calls Try.prog 101 #[.int .i64 n, .int .i64 lo, .int .i64 hi] w fun e w' => e = .returned (.bool (inB n lo hi)) ∧ w = w' := by
  by_cases h1 : lo ≤ n
  · by_cases h2 : n ≤ hi
    · rw [show inB n lo hi = true from inB_true.2 ⟨h1, h2⟩]
      go_enter Try.func101, Try.ntmps101
      go_wp2
      go_ret
      exact ⟨rfl, rfl⟩
    · rw [show inB n lo hi = false from inB_false.2 (fun q => h2 q.2)]
      go_enter Try.func101, Try.ntmps101
      go_wp2
      go_ret
      exact ⟨rfl, rfl⟩
  · rw [show inB n lo hi = false from inB_false.2 (fun q => h1 q.1)]
    go_enter Try.func101, Try.ntmps101
    go_wp2
    go_ret
    exact ⟨rfl, rfl⟩
theorem rowithin_yes {n lo hi : Int} (w : World) (h1 : lo ≤ n) (h2 : n ≤ hi) : Calls Try.prog 101 #[.int .i64 n, .int .i64 lo, .int .i64 hi] w fun e w' => e = .returned (.bool true) ∧ w = w' := by
  have := rowithin_any n lo hi w; rw [inB_true.2 ⟨h1, h2⟩] at this; exact this
theorem rowithin_no {n lo hi : Int} (w : World) (h : ¬ (lo ≤ n ∧ n ≤ hi)) : Calls Try.prog 101 #[.int .i64 n, .int .i64 lo, .int .i64 hi] w fun e w' => e = .returned (.bool false) ∧ w = w' := by
  have := rowithin_any n lo hi w; rw [inB_false.2 h] at this; exact this
theorem rowithin_eq {n lo hi : Int} {c : Bool} (h : inB n lo hi = c) (w : World) : Calls Try.prog 101 #[.int .i64 n, .int .i64 lo, .int .i64 hi] w fun e w' => e = .returned (.bool c) ∧ w = w' := by
  have := rowithin_any n lo hi w; rw [h] at this; exact this

set_option maxHeartbeats 400000 in
theorem roisWeight_any (n : Int) (w : World) : Calls Try.prog 99 #[.int .i64 n] w fun e w' => e = .returned (.bool (inB n (1) 1000000)) ∧ w = w' := by
  go_enter Try.func99, Try.ntmps99
  go_wp2_with (go_at_call 101; refine (rowithin_any _ _ _ _).mono ?_; rintro e w' ⟨rfl, rfl⟩)
  go_ret
  exact ⟨rfl, rfl⟩
theorem roisWeight_yes {n : Int} (w : World) (h0 : 1 ≤ n) (h1 : n ≤ 1000000) : Calls Try.prog 99 #[.int .i64 n] w fun e w' => e = .returned (.bool true) ∧ w = w' := by
  have := roisWeight_any n w; rw [inB_true.2 ⟨h0, h1⟩] at this; exact this

def payI (a p : Int) : Int := (2 * a * p + 100000) / 200000
theorem pay_in {a p : Int} (a0 : 0 ≤ a) (a1 : a ≤ 1000000) (p0 : 0 ≤ p) (p1 : p ≤ 200000) : 0 ≤ 2 * a * p ∧ 2 * a * p ≤ 400000000000 ∧ 0 ≤ payI a p ∧ payI a p ≤ 2000001 := by
  have h0 : 0 ≤ 2 * a * p := Int.mul_nonneg (by omega) p0
  have h1 : 2 * a * p ≤ 2000000 * 200000 := Int.mul_le_mul (by omega) p1 p0 (by decide)
  unfold payI
  omega

set_option maxHeartbeats 1000000 in
theorem sane35_any (w : World) : Calls Try.prog 52 #[] w fun e w' => e = .returned (.bool true) ∧ Below w.heap.size w w' := by
  have HG : Hid (∀ W : World, Calls Try.prog 84 #[.agg #[.int .i64 1, .int .i64 2, .int .i64 3, .int .i64 2], .int .i64 400, .int .i64 1000] W fun e w' => e = .returned (.tuple #[.int .i64 1200, .int .i64 300]) ∧ Below W.heap.size W w') := Lib.hid fun W => by
    go_enter Try.func84, Try.ntmps84
    go_wp2_with (first | (go_at_call 83; refine (Valid_yes _ (by omega) (by omega)).mono ?_; rintro e w' ⟨rfl, rfl⟩) | (go_at_call 101; refine (rowithin_yes _ (by omega) (by omega)).mono ?_; rintro e w' ⟨rfl, rfl⟩) | (go_at_call 99; refine (roisWeight_yes _ (by omega) (by omega)).mono ?_; rintro e w' ⟨rfl, rfl⟩))
    go_quiet (fail)
    go_wp2
    go_ret2
    exact ⟨rfl, below_drewN (below_alloc W _) _⟩
  go_enter Try.func52, Try.ntmps52
  go_wp2_with (go_at_call 84; refine (HG.out _).mono ?_; rintro e w1 ⟨rfl, b1⟩)
  go_ret
  exact ⟨rfl, b1⟩

def costI (s : Sec) (d a p : Int) : Int := payI a p + accruedI s a d

end Go.Proofs.Ytnfllgeneehjjaa

/- Rows of elements of one cell or more that lie in memory; of no function of the program; no condition. -/
namespace Go.Proofs.Ytnfllgeneehjjaa
open Go.RowKit Go.Lib Go.Proofs

/-- v is a slice of n elements of some cells each, and these hold xs. -/
def RowG (w : World) (v : Value) (n size : Nat) (xs : List Value) : Prop :=
  xs.length = n * size ∧ ∃ ao cap, v = .slice ao n cap ∧ n ≤ cap ∧ (n = 0 ∨ ∃ b o, ao = some ⟨b, o, none⟩ ∧ b < w.heap.size ∧ ∀ j, j < n * size → w.cell? ⟨b, o + j, none⟩ = xs[j]?)

theorem RowG.below {w w' : World} {v : Value} {n size : Nat} {xs : List Value} (h : RowG w v n size xs) (hb : Below w.heap.size w w') : RowG w' v n size xs := by
  obtain ⟨h0, ao, cap, h1, h2, h3⟩ := h
  refine ⟨h0, ao, cap, h1, h2, ?_⟩
  rcases h3 with h3 | ⟨b, o, h4, h5, h6⟩
  · exact Or.inl h3
  · exact Or.inr ⟨b, o, h4, Nat.lt_of_lt_of_le h5 hb.size, fun j hj => by rw [hb.cell (by exact h5)]; exact h6 j hj⟩

theorem RowG.owns {w : World} {base size n : Nat} {e : TypeId} {v : Value} {xs : List Value} (h : w.ownsRow base e size v n xs) : RowG w v n size xs := by
  refine ⟨h.1, ?_⟩
  rcases h.2 with ⟨hv, h0⟩ | ⟨g, cap, cur, hv, hg, hh, hnc, _⟩
  · exact ⟨none, 0, by rw [hv, h0], by omega, Or.inl h0⟩
  · refine ⟨some ⟨g, 0, none⟩, cap, hv, hnc, Or.inr ⟨g, 0, rfl, ?_, fun j hj => ?_⟩⟩
    · by_cases hlt : g < w.heap.size
      · exact hlt
      · rw [Array.getElem?_eq_none (by omega)] at hh; cases hh
    · subst hv
      rw [Nat.zero_add, h.cellAt j hj]

theorem grownBy_below {A B : World} {row : Option Nat} (h : Below A.heap.size A B) : A.grownBy B row := ⟨h.os, h.tape, h.output, h.size, fun k hk _ => h.block k hk⟩
theorem grownBy_trans {a b c : World} {row : Option Nat} (h : a.grownBy b row) (k : b.grownBy c row) : a.grownBy c row :=
  ⟨k.os.trans h.os, k.tape.trans h.tape, k.output.trans h.output, Nat.le_trans h.size k.size, fun i hi hne => (k.block i (Nat.lt_of_lt_of_le hi h.size) hne).trans (h.block i hi hne)⟩
theorem grownBy_refl (a : World) (row : Option Nat) : a.grownBy a row := ⟨rfl, rfl, rfl, Nat.le_refl _, fun _ _ _ => rfl⟩
theorem below_grownBy {A B : World} (h : A.grownBy B none) : Below A.heap.size A B := ⟨h.os, h.tape, h.output, h.size, fun k hk => h.block k hk (by simp)⟩

end Go.Proofs.Ytnfllgeneehjjaa

/- Slices of structs in memory, for any struct of m one-cell fields: what stands at each place, own rows that grow by one; of no function of the program; no condition. -/
namespace Go.Proofs.Ytnfllgeneehjjaa
open Go.RowKit Go.Lib Go.Proofs

/-- A struct's fields as cells: m of them, each of one cell. -/
structure Fields {α : Type} (f : α → List Value) (m : Nat) : Prop where
  len : ∀ x, (f x).length = m
  one : ∀ x, ∀ u ∈ f x, u.oneCell' = true
  pos : 0 < m

def cellsL {α : Type} (f : α → List Value) : List α → List Value
  | [] => []
  | x :: l => f x ++ cellsL f l

theorem cellsL_len {α : Type} {f : α → List Value} {m : Nat} (hf : Fields f m) : ∀ l : List α, (cellsL f l).length = l.length * m
  | [] => by simp [cellsL]
  | x :: l => by simp only [cellsL, List.length_append, hf.len, cellsL_len hf l, List.length_cons, Nat.add_mul]; omega
theorem cellsL_app {α : Type} (f : α → List Value) : ∀ l k : List α, cellsL f (l ++ k) = cellsL f l ++ cellsL f k
  | [], _ => rfl
  | x :: l, k => by simp only [List.cons_append, cellsL, cellsL_app f l k, List.append_assoc]
theorem cellsL_snoc {α : Type} (f : α → List Value) (l : List α) (x : α) : cellsL f l ++ f x = cellsL f (l ++ [x]) := by
  rw [cellsL_app]; simp [cellsL]
theorem cellsL_one {α : Type} {f : α → List Value} {m : Nat} (hf : Fields f m) : ∀ l : List α, ∀ u ∈ cellsL f l, u.oneCell' = true
  | [], u, h => by simp [cellsL] at h
  | x :: l, u, h => by
    simp only [cellsL, List.mem_append] at h
    rcases h with h | h
    · exact hf.one x u h
    · exact cellsL_one hf l u h
theorem cellsL_get {α : Type} {f : α → List Value} {m : Nat} (hf : Fields f m) : ∀ (l : List α) (i j : Nat) (h : i < l.length), j < m → (cellsL f l)[i * m + j]? = (f l[i])[j]?
  | [], _, _, h, _ => by simp at h
  | x :: l, 0, j, _, hj => by
    rw [Nat.zero_mul, Nat.zero_add]
    exact List.getElem?_append_left (by rw [hf.len]; exact hj)
  | x :: l, i + 1, j, h, hj => by
    have ih := cellsL_get hf l i j (by simpa using h) hj
    rw [show (i + 1) * m + j = (f x).length + (i * m + j) by rw [hf.len, Nat.add_mul]; omega]
    show (f x ++ cellsL f l)[(f x).length + (i * m + j)]? = _
    rw [List.getElem?_append_right (by omega), Nat.add_sub_cancel_left, ih]
    rfl

/-- A slice of structs, wherever it lies. -/
def ListAt {α : Type} (f : α → List Value) (m : Nat) (w : World) (v : Value) (l : List α) : Prop := RowG w v l.length m (cellsL f l)
theorem ListAt.below {α : Type} {f : α → List Value} {m : Nat} {w w' : World} {v : Value} {l : List α} (h : ListAt f m w v l) (hb : Below w.heap.size w w') : ListAt f m w' v l := RowG.below h hb
theorem ListAt.owns {α : Type} {f : α → List Value} {m : Nat} {w : World} {base : Nat} {e : TypeId} {v : Value} {l : List α} (h : w.ownsRow base e m v l.length (cellsL f l)) : ListAt f m w v l := RowG.owns h

/-- A slice of structs, laid open: its parts, and what stands at each place. -/
theorem ListAt.shape {α : Type} {f : α → List Value} {m : Nat} (hf : Fields f m) {w : World} {v : Value} {l : List α} (h : ListAt f m w v l) :
    ∃ ao cap, v = .slice ao l.length cap ∧ l.length ≤ cap ∧ (0 < l.length → ∃ b o, ao = some ⟨b, o, none⟩ ∧ b < w.heap.size ∧ ∀ i (hi : i < l.length), ∀ j, j < m → w.cell? ⟨b, o + i * m + j, none⟩ = (f l[i])[j]?) := by
  obtain ⟨_, ao, cap, rfl, hcap, hc⟩ := h
  refine ⟨ao, cap, rfl, hcap, fun hpos => ?_⟩
  rcases hc with hc | ⟨b, o, rfl, hb, hc⟩
  · omega
  · refine ⟨b, o, rfl, hb, fun i hi j hj => ?_⟩
    have hlt : i * m + j < l.length * m := by
      have : (i + 1) * m ≤ l.length * m := Nat.mul_le_mul_right m hi
      rw [Nat.add_mul] at this
      omega
    rw [Nat.add_assoc, hc _ hlt]
    exact cellsL_get hf l i j hi hj

theorem nil_listAt {α : Type} (f : α → List Value) (m : Nat) (w : World) (ao : Option Addr) (cap : Nat) : ListAt f m w (.slice ao 0 cap) [] := ⟨by simp [cellsL], ao, cap, rfl, Nat.zero_le _, Or.inl rfl⟩

/-- What stands in a new block: what an append of one struct asks. -/
theorem new_cells (w : World) (cs : Array Value) (T : TypeId) (b : Nat) (hb : b = w.heap.size) : ∀ j u, cs.toList[j]? = some u → (w.alloc (.cells cs T)).cell? ((⟨b, 0, none⟩ : Addr).add j) = some u := by
  subst hb
  intro j u hj
  have h1 : (w.alloc (.cells cs T)).heap[w.heap.size]? = some (.cells cs T) := heap_alloc_new w _
  have he : (⟨w.heap.size, 0, none⟩ : Addr).add j = ⟨w.heap.size, j, none⟩ := by unfold Addr.add; split <;> simp_all
  rw [he, cell_of_row _ _ j cs T (0, 0) h1, ← hj, Array.getElem?_toList]

theorem getD_map_len {α : Type} (l : List α) (x : α) : (l ++ [x]).length = l.length + 1 := by simp

end Go.Proofs.Ytnfllgeneehjjaa

/- Registers, as mathematics: holdings in their order, moves, what they make; of no function of the program; no condition. -/
namespace Go.Proofs.Ytnfllgeneehjjaa
open Go.RowKit Go.Lib Go.Proofs

structure Hld where
  sec : Int
  who : Int
  amt : Int
deriving DecidableEq
def Hld.zero : Hld := ⟨0, 0, 0⟩
def hldC (h : Hld) : List Value := [.int .i64 h.sec, .int .i64 h.who, .int .i64 h.amt]
theorem hldF : Fields hldC 3 := ⟨fun _ => rfl, fun _ u hu => by simp only [hldC, List.mem_cons, List.mem_nil_iff, or_false] at hu; rcases hu with rfl | rfl | rfl <;> rfl, by decide⟩
structure Mv where
  num : Int
  day : Int
  kind : Int
  sec : Int
  frm : Int
  «to» : Int
  amt : Int
def Mv.zero : Mv := ⟨0, 0, 0, 0, 0, 0, 0⟩
def mvC (m : Mv) : List Value := [.int .i64 m.num, .int .i64 m.day, .int .i64 m.kind, .int .i64 m.sec, .int .i64 m.frm, .int .i64 m.to, .int .i64 m.amt]
theorem mvF : Fields mvC 7 := ⟨fun _ => rfl, fun _ u hu => by simp only [mvC, List.mem_cons, List.mem_nil_iff, or_false] at hu; rcases hu with rfl | rfl | rfl | rfl | rfl | rfl | rfl <;> rfl, by decide⟩
theorem secF : Fields Sec.cells 7 := ⟨fun _ => rfl, fun _ u hu => by simp only [Sec.cells, List.mem_cons, List.mem_nil_iff, or_false] at hu; rcases hu with rfl | rfl | rfl | rfl | rfl | rfl | rfl <;> rfl, by decide⟩

/-! ### Holdings -/
def hlt (a b : Hld) : Prop := a.sec < b.sec ∨ (a.sec = b.sec ∧ a.who < b.who)
structure HldOk (h : Hld) : Prop where
  sec : 1 ≤ h.sec ∧ h.sec ≤ 1000
  who : 1 ≤ h.who ∧ h.who ≤ 1000
  amt : 1 ≤ h.amt ∧ h.amt ≤ 1000000000000
structure HsOk (l : List Hld) : Prop where
  asc : l.Pairwise hlt
  ok : ∀ h ∈ l, HldOk h
theorem hsOk_nil : HsOk [] := ⟨List.Pairwise.nil, fun h hh => by simp at hh⟩
theorem HsOk.tail {h : Hld} {l : List Hld} (k : HsOk (h :: l)) : HsOk l := ⟨(List.pairwise_cons.1 k.asc).2, fun x hx => k.ok x (List.mem_cons_of_mem _ hx)⟩
/-- The sum of the holdings that are wanted. -/
def sumH (p : Hld → Bool) : List Hld → Int
  | [] => 0
  | h :: l => (if p h then h.amt else 0) + sumH p l
theorem sumH_app (p : Hld → Bool) : ∀ l m : List Hld, sumH p (l ++ m) = sumH p l + sumH p m
  | [], m => by simp [sumH]
  | h :: l, m => by simp only [List.cons_append, sumH, sumH_app p l m]; omega
theorem sumH_bound {p : Hld → Bool} : ∀ {l : List Hld}, (∀ h ∈ l, HldOk h) → 0 ≤ sumH p l ∧ sumH p l ≤ 1000000000000 * (l.length : Int)
  | [], _ => by simp [sumH]
  | h :: l, k => by
    have ih := sumH_bound (p := p) (l := l) fun x hx => k x (List.mem_cons_of_mem _ hx)
    have h1 := (k h List.mem_cons_self).amt
    simp only [sumH, List.length_cons]
    split <;> omega
def isAt (id who : Int) (h : Hld) : Bool := h.sec == id && h.who == who
def isOf (id : Int) (h : Hld) : Bool := h.sec == id
def heldM (l : List Hld) (id who : Int) : Int := sumH (isAt id who) l
def outM (l : List Hld) (id : Int) : Int := sumH (isOf id) l
def debtM (l : List Hld) : Int := sumH (fun _ => true) l

/-- What a holder has of a security changes by an amount; nothing stands there for 0. -/
def setM (id who n : Int) : List Hld → List Hld
  | [] => if n = 0 then [] else [⟨id, who, n⟩]
  | h :: l =>
    if h.sec < id ∨ (h.sec = id ∧ h.who < who) then h :: setM id who n l
    else if h.sec = id ∧ h.who = who then (if h.amt + n = 0 then l else ⟨id, who, h.amt + n⟩ :: l)
    else if n = 0 then h :: l else ⟨id, who, n⟩ :: h :: l
theorem sumH_set {p : Hld → Bool} (hp : ∀ a b : Hld, a.sec = b.sec → a.who = b.who → p a = p b) (id who n : Int) : ∀ l : List Hld, sumH p (setM id who n l) = sumH p l + (if p ⟨id, who, 0⟩ then n else 0)
  | [] => by
    unfold setM
    split
    · rename_i h; subst h; simp [sumH]
    · simp only [sumH]
      rw [hp ⟨id, who, n⟩ ⟨id, who, 0⟩ rfl rfl]; omega
  | h :: l => by
    unfold setM
    split
    · simp only [sumH]; rw [sumH_set hp id who n l]; omega
    · split
      · rename_i h2
        have e : p h = p ⟨id, who, 0⟩ := hp _ _ h2.1 h2.2
        split
        · rename_i h3
          simp only [sumH, e]
          split <;> omega
        · simp only [sumH, e]
          rw [hp ⟨id, who, h.amt + n⟩ ⟨id, who, 0⟩ rfl rfl]
          split <;> omega
      · split
        · rename_i h3; subst h3; simp [sumH]
        · simp only [sumH]
          rw [hp ⟨id, who, n⟩ ⟨id, who, 0⟩ rfl rfl]; omega
theorem heldM_set (id who n i w : Int) (l : List Hld) : heldM (setM id who n l) i w = heldM l i w + (if id = i ∧ who = w then n else 0) := by
  unfold heldM
  rw [sumH_set (fun a b h1 h2 => by simp [isAt, h1, h2])]
  simp [isAt]
theorem outM_set (id who n i : Int) (l : List Hld) : outM (setM id who n l) i = outM l i + (if id = i then n else 0) := by
  unfold outM
  rw [sumH_set (fun a b h1 h2 => by simp [isOf, h1])]
  simp [isOf]
theorem debtM_set (id who n : Int) (l : List Hld) : debtM (setM id who n l) = debtM l + n := by
  unfold debtM
  rw [sumH_set (fun a b h1 h2 => rfl)]
  simp
theorem setM_len (id who n : Int) : ∀ l : List Hld, (setM id who n l).length ≤ l.length + 1
  | [] => by unfold setM; split <;> simp
  | h :: l => by
    unfold setM
    have := setM_len id who n l
    repeat' split
    all_goals simp only [List.length_cons]
    all_goals omega
/-- Nothing of a smaller key, and of the key itself once. -/
theorem heldM_low {id who : Int} : ∀ {l : List Hld}, (∀ h ∈ l, hlt ⟨id, who, 0⟩ h) → heldM l id who = 0
  | [], _ => rfl
  | h :: l, k => by
    have h1 := k h List.mem_cons_self
    have h2 : isAt id who h = false := by
      unfold isAt
      rcases h1 with h1 | ⟨h1, h3⟩
      · simp only at h1; rw [beq_eq_false_iff_ne.2 (show h.sec ≠ id by omega)]; rfl
      · simp only at h3; rw [beq_eq_false_iff_ne.2 (show h.who ≠ who by omega)]; simp
    unfold heldM sumH
    rw [h2]
    have := heldM_low (id := id) (who := who) (l := l) fun x hx => k x (List.mem_cons_of_mem _ hx)
    unfold heldM at this
    simp [this]
theorem hlt_trans {a b c : Hld} (h : hlt a b) (k : hlt b c) : hlt a c := by unfold hlt at *; omega
theorem setM_mem {id who n : Int} {x : Hld} : ∀ {l : List Hld}, x ∈ setM id who n l → x ∈ l ∨ (x.sec = id ∧ x.who = who)
  | [], h => by
    unfold setM at h
    split at h
    · simp at h
    · simp at h; exact Or.inr (by rw [h]; exact ⟨rfl, rfl⟩)
  | a :: l, h => by
    unfold setM at h
    split at h
    · rcases List.mem_cons.1 h with h | h
      · exact Or.inl (by rw [h]; exact List.mem_cons_self)
      · rcases setM_mem h with h | h
        · exact Or.inl (List.mem_cons_of_mem _ h)
        · exact Or.inr h
    · split at h
      · split at h
        · exact Or.inl (List.mem_cons_of_mem _ h)
        · rcases List.mem_cons.1 h with h | h
          · exact Or.inr (by rw [h]; exact ⟨rfl, rfl⟩)
          · exact Or.inl (List.mem_cons_of_mem _ h)
      · split at h
        · exact Or.inl h
        · rcases List.mem_cons.1 h with h | h
          · exact Or.inr (by rw [h]; exact ⟨rfl, rfl⟩)
          · exact Or.inl h
theorem setM_asc {id who n : Int} : ∀ {l : List Hld}, l.Pairwise hlt → (setM id who n l).Pairwise hlt
  | [], _ => by unfold setM; split <;> simp
  | a :: l, h => by
    have h1 := List.pairwise_cons.1 h
    unfold setM
    split
    · rename_i hc
      refine List.pairwise_cons.2 ⟨fun x hx => ?_, setM_asc h1.2⟩
      rcases setM_mem hx with hx | hx
      · exact h1.1 x hx
      · unfold hlt; omega
    · rename_i hc
      split
      · rename_i he
        split
        · exact h1.2
        · refine List.pairwise_cons.2 ⟨fun x hx => ?_, h1.2⟩
          have := h1.1 x hx
          unfold hlt at *; simp only; omega
      · rename_i he
        split
        · exact h
        · refine List.pairwise_cons.2 ⟨fun x hx => ?_, h⟩
          rcases List.mem_cons.1 hx with rfl | hx
          · unfold hlt; simp only; omega
          · have := h1.1 x hx
            unfold hlt at *; simp only; omega
theorem heldM_mem {l : List Hld} (hl : l.Pairwise hlt) {h : Hld} (hm : h ∈ l) : heldM l h.sec h.who = h.amt := by
  induction l with
  | nil => simp at hm
  | cons a l ih =>
    have h1 := List.pairwise_cons.1 hl
    rcases List.mem_cons.1 hm with rfl | hm
    · have h2 : heldM l h.sec h.who = 0 := heldM_low fun x hx => by
        have := h1.1 x hx
        unfold hlt at *; simpa using this
      unfold heldM at h2 ⊢
      simp [sumH, isAt, h2]
    · have h2 := ih h1.2 hm
      have h3 := h1.1 h hm
      have h4 : isAt h.sec h.who a = false := by
        unfold isAt
        rcases h3 with h3 | ⟨h3, h5⟩
        · rw [beq_eq_false_iff_ne.2 (show a.sec ≠ h.sec by omega)]; rfl
        · rw [beq_eq_false_iff_ne.2 (show a.who ≠ h.who by omega)]; simp
      unfold heldM at h2 ⊢
      simp only [sumH, h4]
      simpa using h2
/-- What everybody has tells the holdings. -/
theorem hs_ext : ∀ {l m : List Hld}, HsOk l → HsOk m → (∀ i w, heldM l i w = heldM m i w) → l = m
  | [], [], _, _, _ => rfl
  | [], b :: m, _, hm, h => by
    have h1 := heldM_mem hm.asc (h := b) List.mem_cons_self
    rw [← h] at h1
    have := (hm.ok b List.mem_cons_self).amt
    simp [heldM, sumH] at h1
    omega
  | a :: l, [], hl, _, h => by
    have h1 := heldM_mem hl.asc (h := a) List.mem_cons_self
    rw [h] at h1
    have := (hl.ok a List.mem_cons_self).amt
    simp [heldM, sumH] at h1
    omega
  | a :: l, b :: m, hl, hm, h => by
    have ha := heldM_mem hl.asc (h := a) List.mem_cons_self
    have hb := heldM_mem hm.asc (h := b) List.mem_cons_self
    have pa := (hl.ok a List.mem_cons_self).amt
    have pb := (hm.ok b List.mem_cons_self).amt
    have la := (List.pairwise_cons.1 hl.asc).1
    have lb := (List.pairwise_cons.1 hm.asc).1
    have hab : a = b := by
      by_cases h1 : hlt a b
      · exfalso
        have : heldM (b :: m) a.sec a.who = 0 := heldM_low fun x hx => by
          rcases List.mem_cons.1 hx with rfl | hx
          · unfold hlt at *; simpa using h1
          · have := hlt_trans h1 (lb x hx); unfold hlt at *; simpa using this
        rw [← h, ha] at this; omega
      · by_cases h2 : hlt b a
        · exfalso
          have : heldM (a :: l) b.sec b.who = 0 := heldM_low fun x hx => by
            rcases List.mem_cons.1 hx with rfl | hx
            · unfold hlt at *; simpa using h2
            · have := hlt_trans h2 (la x hx); unfold hlt at *; simpa using this
          rw [h, hb] at this; omega
        · have e1 : a.sec = b.sec := by unfold hlt at *; omega
          have e2 : a.who = b.who := by unfold hlt at *; omega
          have e3 : a.amt = b.amt := by rw [← ha, ← hb, h, e1, e2]
          cases a; cases b; simp_all
    subst hab
    have : l = m := hs_ext hl.tail hm.tail fun i w => by
      have := h i w
      unfold heldM at this ⊢
      simp only [sumH] at this
      omega
    rw [this]
theorem heldM_le_out {l : List Hld} (hl : ∀ h ∈ l, HldOk h) (id who : Int) : heldM l id who ≤ outM l id := by
  induction l with
  | nil => simp [heldM, outM, sumH]
  | cons a l ih =>
    have h1 := ih fun x hx => hl x (List.mem_cons_of_mem _ hx)
    have h2 := (hl a List.mem_cons_self).amt
    unfold heldM outM at *
    simp only [sumH]
    by_cases h3 : isAt id who a = true
    · have h4 : isOf id a = true := by unfold isAt at h3; unfold isOf; simp at h3 ⊢; exact h3.1
      rw [h3, h4]; simp; omega
    · rw [Bool.not_eq_true] at h3
      have h5 : (if isAt id who a = true then a.amt else 0) = 0 := by rw [h3]; rfl
      have h6 : 0 ≤ (if isOf id a = true then a.amt else 0) := by split <;> omega
      omega
theorem setM_ok {l : List Hld} {id who n : Int} (h : HsOk l) (hi : 1 ≤ id ∧ id ≤ 1000) (hw : 1 ≤ who ∧ who ≤ 1000) (h0 : 0 ≤ heldM l id who + n) (h1 : outM l id + n ≤ 1000000000000) : HsOk (setM id who n l) := by
  have hasc := setM_asc (id := id) (who := who) (n := n) h.asc
  refine ⟨hasc, ?_⟩
  have hgen : ∀ l : List Hld, (∀ h ∈ l, HldOk h) → l.Pairwise hlt → 0 ≤ heldM l id who + n → heldM l id who + n ≤ 1000000000000 → ∀ x ∈ setM id who n l, HldOk x := by
    intro l
    induction l with
    | nil =>
      intro _ _ q0 q1 x hx
      simp [heldM, sumH] at q0 q1
      unfold setM at hx
      split at hx
      · simp at hx
      · simp at hx; subst hx; exact ⟨hi, hw, by simp only; omega⟩
    | cons a l ih =>
      intro hk hp q0 q1 x hx
      have hp1 := List.pairwise_cons.1 hp
      unfold setM at hx
      split at hx
      · rename_i hc
        rcases List.mem_cons.1 hx with rfl | hx
        · exact hk _ List.mem_cons_self
        · have e : isAt id who a = false := by
            unfold isAt
            rcases hc with hc | ⟨hc, hc2⟩
            · rw [beq_eq_false_iff_ne.2 (show a.sec ≠ id by omega)]; rfl
            · rw [beq_eq_false_iff_ne.2 (show a.who ≠ who by omega)]; simp
          have e2 : heldM (a :: l) id who = heldM l id who := by unfold heldM; simp [sumH, e]
          rw [e2] at q0 q1
          exact ih (fun y hy => hk y (List.mem_cons_of_mem _ hy)) hp1.2 q0 q1 x hx
      · rename_i hc
        split at hx
        · rename_i he
          have e2 : heldM (a :: l) id who = a.amt := by have := heldM_mem hp (h := a) List.mem_cons_self; rwa [he.1, he.2] at this
          rw [e2] at q0 q1
          split at hx
          · exact hk x (List.mem_cons_of_mem _ hx)
          · rcases List.mem_cons.1 hx with rfl | hx
            · exact ⟨hi, hw, by simp only; omega⟩
            · exact hk x (List.mem_cons_of_mem _ hx)
        · rename_i he
          have e2 : heldM (a :: l) id who = 0 := heldM_low fun y hy => by
            rcases List.mem_cons.1 hy with rfl | hy
            · unfold hlt; simp only; omega
            · have := hp1.1 y hy; unfold hlt at *; simp only; omega
          rw [e2] at q0 q1
          split at hx
          · exact hk x hx
          · rcases List.mem_cons.1 hx with rfl | hx
            · exact ⟨hi, hw, by simp only; omega⟩
            · exact hk x hx
  have h2 := heldM_le_out h.ok id who
  exact hgen l h.ok h.asc h0 (by omega)

/-! ### Moves -/
def findS (id : Int) : List Sec → Option Sec
  | [] => none
  | s :: l => if s.id = id then some s else findS id l
def endsB (m : Mv) : Bool :=
  if m.kind = 1 then decide (m.frm = 0 ∧ 1 ≤ m.to ∧ m.to ≤ 1000)
  else if m.kind = 2 then decide (1 ≤ m.frm ∧ m.frm ≤ 1000 ∧ 1 ≤ m.to ∧ m.to ≤ 1000 ∧ m.frm ≠ m.to)
  else if m.kind = 3 then decide (1 ≤ m.frm ∧ m.frm ≤ 1000 ∧ m.to = 0)
  else false
def faultS (s : Sec) (l : List Hld) (bd : Int) (m : Mv) : Int :=
  if m.day < bd ∨ m.day < s.iss ∨ (if m.kind = 3 then 36000 else s.mat) < m.day then 8
  else if m.amt < 1 ∨ 1000000000000 < m.amt ∨ m.amt.tmod s.unit ≠ 0 then 79
  else if endsB m = false then 6
  else if m.kind ≠ 1 ∧ heldM l m.sec m.frm < m.amt then 77
  else if m.kind = 1 ∧ 1000000000000 < outM l m.sec + m.amt then 2
  else 0
/-- The error of a move on holdings, behind a day. -/
def faultM (secs : List Sec) (l : List Hld) (bd : Int) (m : Mv) : Int :=
  match findS m.sec secs with
  | none => 76
  | some s => faultS s l bd m
def carryM (l : List Hld) (m : Mv) : List Hld :=
  let l1 := if m.kind = 1 then l else setM m.sec m.frm (-m.amt) l
  if m.kind = 3 then l1 else setM m.sec m.to m.amt l1
def replayM (secs : List Sec) : List Hld → Mv → List Mv → Option (List Hld)
  | l, _, [] => some l
  | l, b, m :: ms => if m.num = b.num + 1 ∧ faultM secs l b.day m = 0 then replayM secs (carryM l m) m ms else none
theorem replayM_app (secs : List Sec) : ∀ (ms : List Mv) (l : List Hld) (b : Mv) (ns : List Mv), replayM secs l b (ms ++ ns) = match replayM secs l b ms with | none => none | some k => replayM secs k ((b :: ms).getLast (by simp)) ns
  | [], l, b, ns => rfl
  | m :: ms, l, b, ns => by
    simp only [List.cons_append, replayM]
    split
    · rw [replayM_app secs ms (carryM l m) m ns]
      simp [List.getLast_cons]
    · rfl
/-- A move that is possible has its shape. -/
structure MvOk (secs : List Sec) (l : List Hld) (bd : Int) (m : Mv) (s : Sec) : Prop where
  sec : findS m.sec secs = some s
  day0 : bd ≤ m.day
  day1 : s.iss ≤ m.day
  day2 : m.day ≤ 36000
  mat : m.kind ≠ 3 → m.day ≤ s.mat
  amt : 1 ≤ m.amt ∧ m.amt ≤ 1000000000000
  unit : m.amt.tmod s.unit = 0
  kind : m.kind = 1 ∨ m.kind = 2 ∨ m.kind = 3
  frm : m.kind ≠ 1 → 1 ≤ m.frm ∧ m.frm ≤ 1000
  «to» : m.kind ≠ 3 → 1 ≤ m.to ∧ m.to ≤ 1000
  ne : m.kind = 2 → m.frm ≠ m.to
  frm0 : m.kind = 1 → m.frm = 0
  to0 : m.kind = 3 → m.to = 0
  has : m.kind ≠ 1 → m.amt ≤ heldM l m.sec m.frm
  room : m.kind = 1 → outM l m.sec + m.amt ≤ 1000000000000
theorem fault_zero {secs : List Sec} {l : List Hld} {bd : Int} {m : Mv} (hm : ∀ s ∈ secs, s.mat ≤ 36000) (h : faultM secs l bd m = 0) : ∃ s, MvOk secs l bd m s := by
  unfold faultM at h
  split at h
  · omega
  · rename_i s hs
    have hsm : s.mat ≤ 36000 := by
      have : ∀ {l : List Sec}, findS m.sec l = some s → s ∈ l := by
        intro l
        induction l with
        | nil => intro h; simp [findS] at h
        | cons a l ih =>
          intro h
          simp only [findS] at h
          split at h
          · injection h with h; rw [h]; exact List.mem_cons_self
          · exact List.mem_cons_of_mem _ (ih h)
      exact hm s (this hs)
    unfold faultS at h
    generalize hmx : (if m.kind = 3 then (36000 : Int) else s.mat) = mx at h
    split at h
    · omega
    · rename_i h1
      split at h
      · omega
      · rename_i h2
        split at h
        · omega
        · rename_i h3
          split at h
          · omega
          · rename_i h4
            split at h
            · omega
            · rename_i h5
              rw [Bool.not_eq_false] at h3
              unfold endsB at h3
              refine ⟨s, ?_⟩
              have h2b : ¬ m.amt.tmod s.unit ≠ 0 := fun hc => h2 (Or.inr (Or.inr hc))
              by_cases k1 : m.kind = 1
              · rw [if_pos k1, decide_eq_true_eq] at h3
                rw [if_neg (by omega)] at hmx
                exact ⟨hs, by omega, by omega, by omega, fun _ => by omega, by omega, Decidable.not_not.1 h2b, Or.inl k1, fun q => absurd k1 q, fun _ => h3.2, fun q => by omega, fun _ => h3.1, fun q => by omega, fun q => absurd k1 q, fun _ => by omega⟩
              · rw [if_neg k1] at h3
                by_cases k2 : m.kind = 2
                · rw [if_pos k2, decide_eq_true_eq] at h3
                  rw [if_neg (by omega)] at hmx
                  exact ⟨hs, by omega, by omega, by omega, fun _ => by omega, by omega, Decidable.not_not.1 h2b, Or.inr (Or.inl k2), fun _ => ⟨h3.1, h3.2.1⟩, fun _ => ⟨h3.2.2.1, h3.2.2.2.1⟩, fun _ => h3.2.2.2.2, fun q => by omega, fun q => by omega, fun q => by omega, fun q => by omega⟩
                · rw [if_neg k2] at h3
                  by_cases k3 : m.kind = 3
                  · rw [if_pos k3, decide_eq_true_eq] at h3
                    rw [if_pos k3] at hmx
                    exact ⟨hs, by omega, by omega, by omega, fun q => absurd k3 q, by omega, Decidable.not_not.1 h2b, Or.inr (Or.inr k3), fun _ => ⟨h3.1, h3.2.1⟩, fun q => absurd k3 q, fun q => by omega, fun q => by omega, fun _ => h3.2.2, fun q => by omega, fun q => by omega⟩
                  · rw [if_neg k3] at h3; cases h3

end Go.Proofs.Ytnfllgeneehjjaa

/- Registers, as mathematics: what replaying moves keeps, right registers, adding a move; of no function of the program; no condition. -/
namespace Go.Proofs.Ytnfllgeneehjjaa
open Go.RowKit Go.Lib Go.Proofs

/-- What a move changes for a holder. -/
def effM (m : Mv) (i w : Int) : Int := (if m.kind ≠ 1 ∧ m.sec = i ∧ m.frm = w then -m.amt else 0) + (if m.kind ≠ 3 ∧ m.sec = i ∧ m.to = w then m.amt else 0)
/-- What a move changes of what is outstanding. -/
def issM (m : Mv) (i : Int) : Int := if m.sec = i then (if m.kind = 1 then m.amt else if m.kind = 3 then -m.amt else 0) else 0
theorem heldM_carry (l : List Hld) (m : Mv) (i w : Int) : heldM (carryM l m) i w = heldM l i w + effM m i w := by
  unfold carryM effM
  by_cases h1 : m.kind = 1
  · have h3 : ¬ m.kind = 3 := by omega
    simp only [if_pos h1, if_neg h3]
    rw [heldM_set, if_neg (show ¬ (m.kind ≠ 1 ∧ m.sec = i ∧ m.frm = w) from fun h => h.1 h1)]
    simp only [Int.zero_add]
    congr 1
    by_cases h : m.sec = i ∧ m.to = w
    · rw [if_pos h, if_pos ⟨h3, h⟩]
    · rw [if_neg h, if_neg fun q => h q.2]
  · by_cases h3 : m.kind = 3
    · simp only [if_neg h1, if_pos h3]
      rw [heldM_set, if_neg (show ¬ (m.kind ≠ 3 ∧ m.sec = i ∧ m.to = w) from fun h => h.1 h3)]
      simp only [Int.add_zero]
      congr 1
      by_cases h : m.sec = i ∧ m.frm = w
      · rw [if_pos h, if_pos ⟨h1, h⟩]
      · rw [if_neg h, if_neg fun q => h q.2]
    · simp only [if_neg h1, if_neg h3]
      rw [heldM_set, heldM_set, Int.add_assoc]
      congr 1
      congr 1
      · by_cases h : m.sec = i ∧ m.frm = w
        · rw [if_pos h, if_pos ⟨h1, h⟩]
        · rw [if_neg h, if_neg fun q => h q.2]
      · by_cases h : m.sec = i ∧ m.to = w
        · rw [if_pos h, if_pos ⟨h3, h⟩]
        · rw [if_neg h, if_neg fun q => h q.2]
theorem outM_carry (l : List Hld) (m : Mv) (i : Int) : outM (carryM l m) i = outM l i + issM m i := by
  unfold carryM issM
  by_cases h1 : m.kind = 1
  · have h3 : ¬ m.kind = 3 := by omega
    simp only [if_pos h1, if_neg h3]
    rw [outM_set]
  · by_cases h3 : m.kind = 3
    · simp only [if_neg h1, if_pos h3]
      rw [outM_set]
    · simp only [if_neg h1, if_neg h3]
      rw [outM_set, outM_set]
      split <;> omega
theorem debtM_carry (l : List Hld) (m : Mv) : debtM (carryM l m) = debtM l + issM m m.sec := by
  unfold carryM issM
  simp only [if_true]
  by_cases h1 : m.kind = 1
  · have h3 : ¬ m.kind = 3 := by omega
    simp only [if_pos h1, if_neg h3]
    rw [debtM_set]
  · by_cases h3 : m.kind = 3
    · simp only [if_neg h1, if_pos h3]
      rw [debtM_set]
    · simp only [if_neg h1, if_neg h3]
      rw [debtM_set, debtM_set]
      omega
theorem carryM_len (l : List Hld) (m : Mv) : (carryM l m).length ≤ l.length + 2 := by
  unfold carryM
  have h1 := setM_len m.sec m.frm (-m.amt) l
  have h2 := setM_len m.sec m.to m.amt l
  have h3 := setM_len m.sec m.to m.amt (setM m.sec m.frm (-m.amt) l)
  simp only
  split <;> split <;> omega
structure HsI (l : List Hld) : Prop where
  ok : HsOk l
  out : ∀ i, outM l i ≤ 1000000000000
theorem hsI_nil : HsI [] := ⟨hsOk_nil, fun i => by simp [outM, sumH]⟩
theorem findS_id {id : Int} {s : Sec} : ∀ {l : List Sec}, findS id l = some s → s.id = id ∧ s ∈ l
  | [], h => by simp [findS] at h
  | a :: l, h => by
    simp only [findS] at h
    split at h
    · rename_i ha
      injection h with h
      subst h
      exact ⟨ha, List.mem_cons_self⟩
    · have := findS_id h
      exact ⟨this.1, List.mem_cons_of_mem _ this.2⟩
theorem HsI.carry {secs : List Sec} {l : List Hld} {bd : Int} {m : Mv} {s : Sec} (h : HsI l) (hs : ∀ s ∈ secs, 1 ≤ s.id ∧ s.id ≤ 1000) (hm : MvOk secs l bd m s) : HsI (carryM l m) := by
  have hid : 1 ≤ m.sec ∧ m.sec ≤ 1000 := by
    have := findS_id hm.sec
    have := hs s this.2
    omega
  refine ⟨?_, fun i => ?_⟩
  · have ho := h.out m.sec
    have ha := hm.amt
    unfold carryM
    by_cases h1 : m.kind = 1
    · have h3 : ¬ m.kind = 3 := by omega
      simp only [if_pos h1, if_neg h3]
      have hb := (sumH_bound (p := isAt m.sec m.to) h.ok.ok).1
      exact setM_ok h.ok hid (hm.to h3) (by unfold heldM; omega) (hm.room h1)
    · have hh := hm.has h1
      have k1 : HsOk (setM m.sec m.frm (-m.amt) l) := setM_ok h.ok hid (hm.frm h1) (by omega) (by omega)
      by_cases h3 : m.kind = 3
      · simp only [if_neg h1, if_pos h3]
        exact k1
      · simp only [if_neg h1, if_neg h3]
        have hb := (sumH_bound (p := isAt m.sec m.to) k1.ok).1
        exact setM_ok k1 hid (hm.to h3) (by unfold heldM; omega) (by rw [outM_set]; simp; omega)
  · rw [outM_carry]
    have ho := h.out i
    have ha := hm.amt
    unfold issM
    by_cases h1 : m.kind = 1
    · rw [if_pos h1]
      split
      · rename_i hi
        have := hm.room h1
        rw [← hi]; omega
      · omega
    · rw [if_neg h1]
      split
      · split <;> omega
      · omega

/-- The last of a row of moves behind a move. -/
def lastM (b : Mv) : List Mv → Mv
  | [] => b
  | m :: ms => lastM m ms
theorem lastM_snoc (b m : Mv) : ∀ ms : List Mv, lastM b (ms ++ [m]) = m
  | [] => rfl
  | x :: ms => lastM_snoc x m ms
theorem replayM_snoc (secs : List Sec) (m : Mv) : ∀ (ms : List Mv) (l : List Hld) (b : Mv), replayM secs l b (ms ++ [m]) = match replayM secs l b ms with
    | none => none
    | some k => if m.num = (lastM b ms).num + 1 ∧ faultM secs k (lastM b ms).day m = 0 then some (carryM k m) else none
  | [], l, b => rfl
  | x :: ms, l, b => by
    simp only [List.cons_append, replayM, lastM]
    split
    · rw [replayM_snoc secs m ms (carryM l x) x]
      rfl
    · rfl
/-- What a run of moves keeps. -/
structure RunM (secs : List Sec) (l : List Hld) (b : Mv) (ms : List Mv) (k : List Hld) : Prop where
  inv : HsI k
  len : k.length ≤ l.length + 2 * ms.length
  num : (lastM b ms).num = b.num + ms.length
  day : b.day ≤ (lastM b ms).day
theorem replay_run {secs : List Sec} (hs : ∀ s ∈ secs, 1 ≤ s.id ∧ s.id ≤ 1000 ∧ s.mat ≤ 36000) : ∀ {ms : List Mv} {l : List Hld} {b : Mv} {k : List Hld}, HsI l → replayM secs l b ms = some k → RunM secs l b ms k
  | [], l, b, k, hl, h => by
    simp only [replayM] at h
    injection h with h
    subst h
    exact ⟨hl, by simp, by simp [lastM], Int.le_refl _⟩
  | m :: ms, l, b, k, hl, h => by
    simp only [replayM] at h
    split at h
    · rename_i hc
      obtain ⟨s, hm⟩ := fault_zero (fun s hs' => (hs s hs').2.2) hc.2
      have hl2 := hl.carry (fun s hs' => ⟨(hs s hs').1, (hs s hs').2.1⟩) hm
      have r := replay_run hs hl2 h
      have hlen := carryM_len l m
      have h1 := r.len
      have h2 := r.num
      have h3 := r.day
      have h4 := hm.day0
      exact ⟨r.inv, by simp only [List.length_cons]; omega, by simp only [lastM, List.length_cons]; omega, by simp only [lastM]; omega⟩
    · cases h
/-- A security that is right. -/
def SecR (s : Sec) : Prop := ∃ z r, SecOk s z r
theorem SecR.id {s : Sec} (h : SecR s) : 1 ≤ s.id ∧ s.id ≤ 1000 := by obtain ⟨z, r, k⟩ := h; exact ⟨k.id0, k.id1⟩
theorem SecR.mat {s : Sec} (h : SecR s) : s.mat ≤ 35990 := by obtain ⟨z, r, k⟩ := h; exact k.mat1
theorem SecR.unit {s : Sec} (h : SecR s) : 1 ≤ s.unit ∧ s.unit ≤ 1000000000 := by obtain ⟨z, r, k⟩ := h; exact ⟨k.unit0, k.unit1⟩
theorem SecR.iss {s : Sec} (h : SecR s) : 0 ≤ s.iss ∧ s.iss ≤ 36000 := by obtain ⟨z, r, k⟩ := h; exact ⟨k.iss0, k.iss1⟩
structure SecsOk (secs : List Sec) : Prop where
  ok : ∀ s ∈ secs, SecR s
  asc : secs.Pairwise fun a b => a.id < b.id
  len : secs.length ≤ 20
theorem SecsOk.bound {secs : List Sec} (h : SecsOk secs) : ∀ s ∈ secs, 1 ≤ s.id ∧ s.id ≤ 1000 ∧ s.mat ≤ 36000 := fun s hs => by
  have h1 := (h.ok s hs).id
  have h2 := (h.ok s hs).mat
  omega
structure Reg where
  secs : List Sec
  hs : List Hld
  ms : List Mv
structure RegOk (r : Reg) : Prop where
  secs : SecsOk r.secs
  len : r.ms.length ≤ 400
  run : replayM r.secs [] Mv.zero r.ms = some r.hs
theorem RegOk.runM {r : Reg} (h : RegOk r) : RunM r.secs [] Mv.zero r.ms r.hs := replay_run h.secs.bound hsI_nil h.run
theorem RegOk.hsLen {r : Reg} (h : RegOk r) : r.hs.length ≤ 800 := by
  have h1 := h.runM.len
  have h2 := h.len
  simp at h1
  omega
/-- A register with a move more. -/
def addM (r : Reg) (m : Mv) : Reg := ⟨r.secs, carryM r.hs m, r.ms ++ [m]⟩
theorem RegOk.add {r : Reg} (h : RegOk r) {m : Mv} (hl : r.ms.length < 400) (hn : m.num = (r.ms.length : Int) + 1) (hf : faultM r.secs r.hs (lastM Mv.zero r.ms).day m = 0) : RegOk (addM r m) := by
  refine ⟨h.secs, by unfold addM; simp; omega, ?_⟩
  unfold addM
  simp only
  rw [replayM_snoc, h.run]
  have h1 := h.runM.num
  simp only
  rw [if_pos ⟨by rw [hn, h1]; simp [Mv.zero], hf⟩]
/-- Sums over moves. -/
def effL (i w : Int) : List Mv → Int
  | [] => 0
  | m :: ms => effM m i w + effL i w ms
def issL (i : Int) : List Mv → Int
  | [] => 0
  | m :: ms => issM m i + issL i ms
theorem replay_held {secs : List Sec} (i w : Int) : ∀ {ms : List Mv} {l : List Hld} {b : Mv} {k : List Hld}, replayM secs l b ms = some k → heldM k i w = heldM l i w + effL i w ms
  | [], l, b, k, h => by simp only [replayM] at h; injection h with h; subst h; simp [effL]
  | m :: ms, l, b, k, h => by
    simp only [replayM] at h
    split at h
    · rw [replay_held i w h, heldM_carry, effL]; omega
    · cases h
theorem replay_out {secs : List Sec} (i : Int) : ∀ {ms : List Mv} {l : List Hld} {b : Mv} {k : List Hld}, replayM secs l b ms = some k → outM k i = outM l i + issL i ms
  | [], l, b, k, h => by simp only [replayM] at h; injection h with h; subst h; simp [issL]
  | m :: ms, l, b, k, h => by
    simp only [replayM] at h
    split at h
    · rw [replay_out i h, outM_carry, issL]; omega
    · cases h

end Go.Proofs.Ytnfllgeneehjjaa

/- What IndexFunc hands back, for any type; of no function of the program; no condition. -/
namespace Go.Proofs.Ytnfllgeneehjjaa
open Go.RowKit Go.Lib Go.Proofs

/-- What IndexFunc hands back. -/
def IndexPost {α : Type} (p : α → Bool) (xs : List α) (w : World) (e : Ending) (w' : World) : Prop :=
  ∃ i : Int, e = .returned (.int .i64 i) ∧ ((i = -1 ∧ ∀ x ∈ xs, p x = false) ∨ ∃ k : Nat, i = k ∧ ∃ h : k < xs.length, p xs[k] = true ∧ ∀ x ∈ xs.take k, p x = false) ∧ Below w.heap.size w w'

theorem take_snoc_pred {α : Type} {p : α → Bool} {xs : List α} {k : Nat} (hk : k < xs.length) (h : ∀ x ∈ xs.take k, p x = false) (h2 : p xs[k] = false) : ∀ x ∈ xs.take (k + 1), p x = false := by
  intro x hx
  rw [List.take_succ_eq_append_getElem hk] at hx
  rcases List.mem_append.1 hx with hx | hx
  · exact h x hx
  · rw [List.mem_singleton] at hx; rw [hx]; exact h2

end Go.Proofs.Ytnfllgeneehjjaa
