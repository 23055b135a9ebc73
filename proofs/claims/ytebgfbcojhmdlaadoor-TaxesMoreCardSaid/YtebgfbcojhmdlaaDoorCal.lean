/- Contracts of the functions of package calendar that only compute with numbers; no condition but that the numbers are int64s. -/
import Derived.Test.YtebgfbcojhmdlaaDoorBase
import Derived.Test.YtebgfbcojhmdlaaDoorCalD
namespace Go.Proofs.YtebgfbcojhmdlaaDoor
open Go.RowKit Go.Lib Go.Proofs

/-- n is a business day. -/
def busB (n : Int) : Bool := decide ((0 ≤ n ∧ n ≤ 36000) ∧ n % 7 < 5)
theorem busB_true {n : Int} : busB n = true ↔ (0 ≤ n ∧ n ≤ 36000) ∧ n % 7 < 5 := decide_eq_true_iff
theorem busB_false {n : Int} : busB n = false ↔ ¬ ((0 ≤ n ∧ n ≤ 36000) ∧ n % 7 < 5) := decide_eq_false_iff_not

set_option maxHeartbeats 400000 in
theorem cBusiness_any (d : Int) (w : World) :
    Calls Tryd.prog 30 #[.int .i64 d] w fun e w' => e = .returned (.bool (busB d)) ∧ w = w' := by
  cases h : dayB d with
  | true =>
    obtain ⟨h0, h1⟩ := dayB_true.1 h
    have H := Lib.hid h
    by_cases hb : d % 7 < 5
    · rw [busB_true.2 ⟨⟨h0, h1⟩, hb⟩]
      clear h
      go_enter Tryd.func30, Tryd.ntmps30
      go_wp2_with (go_at_call 29; refine (cValid_yes _ H.out).mono ?_; rintro e w' ⟨rfl, rfl⟩)
      go_ret
      exact ⟨rfl, rfl⟩
    · rw [busB_false.2 (fun q => hb q.2)]
      have hbf : decide (d % 7 < 5) = false := decide_eq_false hb
      clear h hb
      go_enter Tryd.func30, Tryd.ntmps30
      go_wp2_with (go_at_call 29; refine (cValid_yes _ H.out).mono ?_; rintro e w' ⟨rfl, rfl⟩)
      go_ret
      exact ⟨rfl, rfl⟩
  | false =>
    rw [busB_false.2 (fun q => dayB_false.1 h q.1)]
    have H := Lib.hid h
    clear h
    go_enter Tryd.func30, Tryd.ntmps30
    go_wp2_with (go_at_call 29; refine (cValid_no _ H.out).mono ?_; rintro e w' ⟨rfl, rfl⟩)
    go_ret
    exact ⟨rfl, rfl⟩

/-- The first day that is none of the last two of its week. -/
def nextI (d : Int) : Int := if d % 7 < 5 then d else d + 7 - d % 7
theorem nextI_facts (d : Int) (_ : 0 ≤ d) : d ≤ nextI d ∧ nextI d ≤ d + 2 ∧ nextI d % 7 < 5 ∧ ∀ k, d ≤ k → k < nextI d → ¬ k % 7 < 5 := by
  unfold nextI
  split
  · exact ⟨by omega, by omega, by omega, fun k _ _ => by omega⟩
  · exact ⟨by omega, by omega, by omega, fun k _ _ => by omega⟩

set_option maxHeartbeats 1000000 in
theorem cNext_any (d : Int) (w : World) :
    Calls Tryd.prog 19 #[.int .i64 d] w fun e w' => e = .returned (.tuple #[.int .i64 (if dayB d = true then (checkedI (nextI d)).1 else 0), .int .i64 (if dayB d = true then (checkedI (nextI d)).2 else 2)]) ∧ w = w' := by
  cases h : dayB d with
  | false =>
    simp only [Bool.false_eq_true, if_false]
    have H := Lib.hid h
    clear h
    go_enter Tryd.func19, Tryd.ntmps19
    go_wp2
    refine wp_loop_rounds 1 ?_
    rw [rounds_succ]
    go_wp2_with (go_at_call 29; refine (cValid_no _ H.out).mono ?_; rintro e w' ⟨rfl, rfl⟩)
    go_ret2
    exact ⟨rfl, rfl⟩
  | true =>
    simp only [if_true]
    obtain ⟨h0, h1⟩ := dayB_true.1 h
    obtain ⟨n, hn⟩ : ∃ n, n = nextI d := ⟨_, rfl⟩
    obtain ⟨f1, f2, f3, f4⟩ := nextI_facts d h0
    rw [← hn] at f1 f2 f3 f4 ⊢
    have HF := Lib.hid f4
    obtain ⟨p, hp⟩ : ∃ p, p = (checkedI n).1 := ⟨_, rfl⟩
    obtain ⟨q, hq⟩ : ∃ q, q = (checkedI n).2 := ⟨_, rfl⟩
    rw [← hp, ← hq]
    have HP := Lib.hid hp
    have HQ := Lib.hid hq
    clear hn f4 hp hq h
    go_enter Tryd.func19, Tryd.ntmps19
    go_wp2
    go_loop [0] (fun x => ∃ k : Int, x = .int .i64 k ∧ d ≤ k ∧ k ≤ n) (fun x => (n - intOf x).toNat)
    case atStart => exact ⟨d, rfl, by omega, by omega⟩
    case round =>
      obtain ⟨k, rfl, hk0, hk1⟩ := hrel
      cases hv : dayB k with
      | true =>
        have hv' := dayB_true.1 hv
        have HV := Lib.hid hv
        clear hv
        cases hb : busB k with
        | true =>
          obtain ⟨_, hb'⟩ := busB_true.1 hb
          have HB := Lib.hid hb
          have hkn : k = n := by
            by_cases e : k < n
            · have := HF.out k hk0 e; omega
            · omega
          have hpk : p = k ∧ q = 0 := by rw [HP.out, HQ.out, ← hkn]; unfold checkedI; rw [if_pos HV.out]; exact ⟨rfl, rfl⟩
          obtain ⟨rfl, rfl⟩ := hpk
          clear hb hkn
          go_wp2_with (first | (go_at_call 29; refine (cValid_yes _ HV.out).mono ?_; rintro e w' ⟨rfl, rfl⟩) | (go_at_call 30; refine (cBusiness_any _ _).mono ?_; rw [HB.out]; rintro e w' ⟨rfl, rfl⟩))
          go_ret2
          exact ⟨rfl, rfl⟩
        | false =>
          have HB := Lib.hid hb
          have hkn : k < n := by
            by_cases e : k = n
            · exact absurd ⟨hv', by rw [e]; exact f3⟩ (busB_false.1 hb)
            · omega
          clear hb
          go_wp2_with (first | (go_at_call 29; refine (cValid_yes _ HV.out).mono ?_; rintro e w' ⟨rfl, rfl⟩) | (go_at_call 30; refine (cBusiness_any _ _).mono ?_; rw [HB.out]; rintro e w' ⟨rfl, rfl⟩))
          go_round
          case rel => exact ⟨k + 1, by first | rfl | go_num, by omega, by omega⟩
          case measure => simp [intOf]; omega
      | false =>
        have hv' := dayB_false.1 hv
        have HV := Lib.hid hv
        have hpk : p = 0 ∧ q = 2 := by
          rw [HP.out, HQ.out]
          have : dayB n = false := dayB_false.2 (by omega)
          unfold checkedI
          rw [this]
          exact ⟨rfl, rfl⟩
        obtain ⟨rfl, rfl⟩ := hpk
        clear hv
        go_wp2_with (go_at_call 29; refine (cValid_no _ HV.out).mono ?_; rintro e w' ⟨rfl, rfl⟩)
        go_ret2
        exact ⟨rfl, rfl⟩

/-- How many business days lie before a day. -/
def bbI (d : Int) : Int := d / 7 * 5 + min (d % 7) 5

theorem bbI_mono {a b : Int} (h : a ≤ b) : bbI a ≤ bbI b := by unfold bbI; omega
theorem bbI_bd {a : Int} (h0 : 0 ≤ a) (h : a ≤ 36000) : 0 ≤ bbI a ∧ bbI a ≤ 36000 := by unfold bbI; omega
theorem bbI_succ (d : Int) : bbI (d + 1) = bbI d + if d % 7 < 5 then 1 else 0 := by unfold bbI; split <;> omega

/-- Count: the number, and the error. -/
def countI (a b : Int) : Int × Int := if (dayB a && dayB b) = true then (if b < a then (0, 8) else (bbI b - bbI a, 0)) else (0, 2)

/-- Months: the day, and the error. -/
def monthsI (d n : Int) : Int × Int := if (dayB d && inB n (-36000) 36000) = true then checkedI (d + n * 30) else (0, 2)

end Go.Proofs.YtebgfbcojhmdlaaDoor
