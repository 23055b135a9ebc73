/- Securities: what is asked of them, as the program's register and treasuryplay's source have it; of a security that is right alone. -/
import Derived.Test.YtnfllgeneehjjaaMSrc
import Derived.Test.YtnfllgeneehjjaaMPut
set_option linter.unusedSimpArgs false
set_option linter.unusedVariables false
namespace Go.Proofs.Ytnfllgeneehjjaa
open Go.RowKit Go.Lib Go.Proofs

structure Sec where
  id : Int
  unit : Int
  iss : Int
  mat : Int
  rate : Int
  ev : Int
  ix : Bool

def Sec.cells (s : Sec) : List Value := [.int .i64 s.id, .int .i64 s.unit, .int .i64 s.iss, .int .i64 s.mat, .int .i64 s.rate, .int .i64 s.ev, .bool s.ix]

/-- A security that is right: its coupons are z months apart (z is 1 without coupons), and there are r times so many months. -/
structure SecOk (s : Sec) (z r : Int) : Prop where
  id0 : 1 ≤ s.id
  id1 : s.id ≤ 1000
  unit0 : 1 ≤ s.unit
  unit1 : s.unit ≤ 1000000000
  iss0 : 0 ≤ s.iss
  iss1 : s.iss ≤ 36000
  mat1 : s.mat ≤ 35990
  r0 : 1 ≤ r
  term : s.mat = s.iss + 30 * (z * r)
  zr : z * r ≤ 600
  rate0 : 0 ≤ s.rate
  rate1 : s.rate ≤ 20000
  ev : (s.ev = 0 ∧ s.rate = 0 ∧ z = 1) ∨ (s.ev = 1 ∧ z = 1) ∨ (s.ev = 3 ∧ z = 3) ∨ (s.ev = 6 ∧ z = 6) ∨ (s.ev = 12 ∧ z = 12)

set_option maxHeartbeats 400000 in
theorem rgwithin_any (n lo hi : Int) (w : World) :
    Calls Try.prog 70 #[.int .i64 n, .int .i64 lo, .int .i64 hi] w fun e w' => e = .returned (.bool (inB n lo hi)) ∧ w = w' := by
  by_cases h1 : lo ≤ n
  · by_cases h2 : n ≤ hi
    · have h : inB n lo hi = true := inB_true.2 ⟨h1, h2⟩
      rw [h]; clear h
      go_enter Try.func70, Try.ntmps70
      go_wp2
      go_ret
      exact ⟨rfl, rfl⟩
    · have h : inB n lo hi = false := inB_false.2 (fun q => h2 q.2)
      rw [h]; clear h
      go_enter Try.func70, Try.ntmps70
      go_wp2
      go_ret
      exact ⟨rfl, rfl⟩
  · have h : inB n lo hi = false := inB_false.2 (fun q => h1 q.1)
    rw [h]; clear h
    go_enter Try.func70, Try.ntmps70
    go_wp2
    go_ret
    exact ⟨rfl, rfl⟩

theorem rgwithin_yes {n lo hi : Int} (w : World) (h1 : lo ≤ n) (h2 : n ≤ hi) :
    Calls Try.prog 70 #[.int .i64 n, .int .i64 lo, .int .i64 hi] w fun e w' => e = .returned (.bool true) ∧ w = w' := by
  have := rgwithin_any n lo hi w; rw [inB_true.2 ⟨h1, h2⟩] at this; exact this

set_option maxHeartbeats 1000000 in
theorem rgfits_ok {s : Sec} {z r : Int} (h : SecOk s z r) (t : Int) (ht : t = 30 * (z * r)) (w : World) :
    Calls Try.prog 71 #[.agg s.cells.toArray, .int .i64 t] w fun e w' => e = .returned (.bool true) ∧ Below w.heap.size w w' := by
  obtain ⟨i, u, a, m, q, e, x⟩ := s
  obtain ⟨_, _, _, _, _, _, _, hr0, _, hzr, _, _, hev⟩ := h
  simp only [Sec.cells] at *
  rcases hev with ⟨rfl, rfl, rfl⟩ | ⟨rfl, rfl⟩ | ⟨rfl, rfl⟩ | ⟨rfl, rfl⟩ | ⟨rfl, rfl⟩
  · go_enter Try.func71, Try.ntmps71
    go_wp2
    go_ret
    exact ⟨rfl, below_alloc w _⟩
  · have ht0 : 0 ≤ t := by omega
    have ht1 : t ≤ 18000 := by omega
    have hm : t % 30 = 0 := by omega
    clear ht hzr
    go_enter Try.func71, Try.ntmps71
    go_wp2
    go_ret
    exact ⟨rfl, below_alloc w _⟩
  · have ht0 : 0 ≤ t := by omega
    have ht1 : t ≤ 18000 := by omega
    have hm : t % 90 = 0 := by omega
    clear ht hzr
    go_enter Try.func71, Try.ntmps71
    go_wp2
    go_ret
    exact ⟨rfl, below_alloc w _⟩
  · have ht0 : 0 ≤ t := by omega
    have ht1 : t ≤ 18000 := by omega
    have hm : t % 180 = 0 := by omega
    clear ht hzr
    go_enter Try.func71, Try.ntmps71
    go_wp2
    go_ret
    exact ⟨rfl, below_alloc w _⟩
  · have ht0 : 0 ≤ t := by omega
    have ht1 : t ≤ 18000 := by omega
    have hm : t % 360 = 0 := by omega
    clear ht hzr
    go_enter Try.func71, Try.ntmps71
    go_wp2
    go_ret
    exact ⟨rfl, below_alloc w _⟩

set_option maxHeartbeats 2000000 in
theorem rgSecurity_ok {s : Sec} {z r : Int} (h : SecOk s z r) (w : World) :
    Calls Try.prog 34 #[.agg s.cells.toArray] w fun e w' => e = .returned (.bool true) ∧ Below w.heap.size w w' := by
  have HF := Lib.hid (fun W => rgfits_ok h (s.mat - s.iss) (by have := h.term; omega) W)
  obtain ⟨i, u, a, m, q, e, x⟩ := s
  obtain ⟨i0, i1, u0, u1, a0, a1, m1, hr0, ht, hzr, q0, q1, hev⟩ := h
  simp only [Sec.cells] at *
  have hz : 1 ≤ z * r := by
    rcases hev with ⟨_, _, rfl⟩ | ⟨_, rfl⟩ | ⟨_, rfl⟩ | ⟨_, rfl⟩ | ⟨_, rfl⟩ <;> omega
  generalize z * r = p at *
  have t0 : 30 ≤ m - a := by omega
  have t1 : m - a ≤ 18000 := by omega
  have t2 : (m - a) % 30 = 0 := by omega
  have m0 : 0 ≤ m := by omega
  have HB := Lib.hid (below_alloc w (.cells #[.int .i64 i, .int .i64 u, .int .i64 a, .int .i64 m, .int .i64 q, .int .i64 e, .bool x] 34))
  clear hev ht hzr hr0 hz
  go_enter Try.func34, Try.ntmps34
  go_wp2_with (first | (go_at_call 70; refine (rgwithin_yes _ (by omega) (by omega)).mono ?_; rintro e w' ⟨rfl, rfl⟩) | (go_at_call 71; refine (HF.out _).mono ?_; rintro e w2 ⟨rfl, hb2⟩))
  go_ret
  exact ⟨rfl, HB.out.trans (hb2.mono (by simp))⟩

end Go.Proofs.Ytnfllgeneehjjaa
