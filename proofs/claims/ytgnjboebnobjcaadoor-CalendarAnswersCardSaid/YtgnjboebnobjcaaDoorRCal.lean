/- Contracts of the functions of calendar's reference; each returns what the program's returns; no condition but that the numbers are int64s. -/
import Derived.Test.YtgnjboebnobjcaaDoorCMonths
namespace Go.Proofs.YtgnjboebnobjcaaDoor
open Go.RowKit Go.Lib Go.Proofs

set_option maxHeartbeats 400000 in
theorem rcValid_any (n : Int) (w : World) :
    Calls Tryd.prog 15 #[.int .i64 n] w fun e w' => e = .returned (.bool (dayB n)) ∧ w = w' := by
  by_cases h1 : 0 ≤ n
  · by_cases h2 : n ≤ 36000
    · rw [dayB_true.2 ⟨h1, h2⟩]
      go_enter Tryd.func15, Tryd.ntmps15
      go_wp2
      go_ret
      exact ⟨rfl, rfl⟩
    · rw [dayB_false.2 (fun q => h2 q.2)]
      have h3 : decide (n ≤ 36000) = false := decide_eq_false h2
      go_enter Tryd.func15, Tryd.ntmps15
      go_wp2
      go_ret
      exact ⟨rfl, rfl⟩
  · rw [dayB_false.2 (fun q => h1 q.1)]
    have h3 : decide (0 ≤ n) = false := decide_eq_false h1
    go_enter Tryd.func15, Tryd.ntmps15
    go_wp2
    go_ret
    exact ⟨rfl, rfl⟩
theorem rcValid_yes {n : Int} (w : World) (h : dayB n = true) :
    Calls Tryd.prog 15 #[.int .i64 n] w fun e w' => e = .returned (.bool true) ∧ w = w' := by
  have := rcValid_any n w; rw [h] at this; exact this
theorem rcValid_no {n : Int} (w : World) (h : dayB n = false) :
    Calls Tryd.prog 15 #[.int .i64 n] w fun e w' => e = .returned (.bool false) ∧ w = w' := by
  have := rcValid_any n w; rw [h] at this; exact this

theorem rcDate_yes (d : Int) (w : World) (h : dayB d = true) :
    Calls Tryd.prog 11 #[.int .i64 d] w fun e w' => e = .returned (.tuple #[.int .i64 (d / 360), .int .i64 (d % 360 / 30 + 1), .int .i64 (d % 30 + 1)]) ∧ w = w' := by
  obtain ⟨h0, h1⟩ := dayB_true.1 h
  have H := Lib.hid h
  clear h
  go_enter Tryd.func11, Tryd.ntmps11
  go_wp2_with (go_at_call 15; refine (rcValid_yes _ H.out).mono ?_; rintro e w' ⟨rfl, rfl⟩)
  go_ret3
  exact ⟨rfl, rfl⟩
theorem rcDate_no (d : Int) (w : World) (h : dayB d = false) :
    Calls Tryd.prog 11 #[.int .i64 d] w fun e w' => e = .returned (.tuple #[.int .i64 0, .int .i64 0, .int .i64 0]) ∧ w = w' := by
  have H := Lib.hid h
  clear h
  go_enter Tryd.func11, Tryd.ntmps11
  go_wp2_with (go_at_call 15; refine (rcValid_no _ H.out).mono ?_; rintro e w' ⟨rfl, rfl⟩)
  go_ret3
  exact ⟨rfl, rfl⟩

theorem rcYear_yes (d : Int) (w : World) (h : dayB d = true) :
    Calls Tryd.prog 17 #[.int .i64 d] w fun e w' => e = .returned (.int .i64 (d / 360)) ∧ w = w' := by
  obtain ⟨h0, h1⟩ := dayB_true.1 h
  have H := Lib.hid h
  clear h
  go_enter Tryd.func17, Tryd.ntmps17
  go_wp2_with (go_at_call 15; refine (rcValid_yes _ H.out).mono ?_; rintro e w' ⟨rfl, rfl⟩)
  go_ret
  exact ⟨rfl, rfl⟩
theorem rcYear_no (d : Int) (w : World) (h : dayB d = false) :
    Calls Tryd.prog 17 #[.int .i64 d] w fun e w' => e = .returned (.int .i64 (-1)) ∧ w = w' := by
  have H := Lib.hid h
  clear h
  go_enter Tryd.func17, Tryd.ntmps17
  go_wp2_with (go_at_call 15; refine (rcValid_no _ H.out).mono ?_; rintro e w' ⟨rfl, rfl⟩)
  go_ret
  exact ⟨rfl, rfl⟩

theorem rcMonth_yes (d : Int) (w : World) (h : dayB d = true) :
    Calls Tryd.prog 19 #[.int .i64 d] w fun e w' => e = .returned (.int .i64 (d / 30)) ∧ w = w' := by
  obtain ⟨h0, h1⟩ := dayB_true.1 h
  have H := Lib.hid h
  clear h
  go_enter Tryd.func19, Tryd.ntmps19
  go_wp2_with (go_at_call 15; refine (rcValid_yes _ H.out).mono ?_; rintro e w' ⟨rfl, rfl⟩)
  go_ret
  exact ⟨rfl, rfl⟩
theorem rcMonth_no (d : Int) (w : World) (h : dayB d = false) :
    Calls Tryd.prog 19 #[.int .i64 d] w fun e w' => e = .returned (.int .i64 (-1)) ∧ w = w' := by
  have H := Lib.hid h
  clear h
  go_enter Tryd.func19, Tryd.ntmps19
  go_wp2_with (go_at_call 15; refine (rcValid_no _ H.out).mono ?_; rintro e w' ⟨rfl, rfl⟩)
  go_ret
  exact ⟨rfl, rfl⟩

set_option maxHeartbeats 400000 in
theorem rcBusiness_any (d : Int) (w : World) :
    Calls Tryd.prog 21 #[.int .i64 d] w fun e w' => e = .returned (.bool (busB d)) ∧ w = w' := by
  cases h : dayB d with
  | true =>
    obtain ⟨h0, h1⟩ := dayB_true.1 h
    have H := Lib.hid h
    by_cases hb : d % 7 < 5
    · rw [busB_true.2 ⟨⟨h0, h1⟩, hb⟩]
      clear h
      go_enter Tryd.func21, Tryd.ntmps21
      go_wp2_with (go_at_call 15; refine (rcValid_yes _ H.out).mono ?_; rintro e w' ⟨rfl, rfl⟩)
      go_ret
      exact ⟨rfl, rfl⟩
    · rw [busB_false.2 (fun q => hb q.2)]
      have hbf : decide (d % 7 < 5) = false := decide_eq_false hb
      clear h hb
      go_enter Tryd.func21, Tryd.ntmps21
      go_wp2_with (go_at_call 15; refine (rcValid_yes _ H.out).mono ?_; rintro e w' ⟨rfl, rfl⟩)
      go_ret
      exact ⟨rfl, rfl⟩
  | false =>
    rw [busB_false.2 (fun q => dayB_false.1 h q.1)]
    have H := Lib.hid h
    clear h
    go_enter Tryd.func21, Tryd.ntmps21
    go_wp2_with (go_at_call 15; refine (rcValid_no _ H.out).mono ?_; rintro e w' ⟨rfl, rfl⟩)
    go_ret
    exact ⟨rfl, rfl⟩

set_option maxHeartbeats 1000000 in
theorem rcNext_any (d : Int) (w : World) :
    Calls Tryd.prog 13 #[.int .i64 d] w fun e w' => e = .returned (.tuple #[.int .i64 (if dayB d = true then (checkedI (nextI d)).1 else 0), .int .i64 (if dayB d = true then (checkedI (nextI d)).2 else 2)]) ∧ w = w' := by
  cases h : dayB d with
  | false =>
    simp only [Bool.false_eq_true, if_false]
    have H := Lib.hid h
    clear h
    go_enter Tryd.func13, Tryd.ntmps13
    go_wp2_with fail
    refine wp_loop_rounds 1 ?_
    rw [rounds_succ]
    go_wp2_with (go_at_call 15; refine (rcValid_no _ H.out).mono ?_; rintro e w' ⟨rfl, rfl⟩)
    go_ret2
    exact ⟨rfl, rfl⟩
  | true =>
    simp only [if_true]
    obtain ⟨h0, h1⟩ := dayB_true.1 h
    have HD := Lib.hid h
    obtain ⟨n, hn⟩ : ∃ n, n = nextI d := ⟨_, rfl⟩
    obtain ⟨f1, f2, f3, f4⟩ := nextI_facts d h0
    rw [← hn] at f1 f2 f3 f4 ⊢
    have HF := Lib.hid f4
    obtain ⟨p, hp⟩ : ∃ p, p = (checkedI n).1 := ⟨_, rfl⟩
    obtain ⟨q, hq⟩ : ∃ q, q = (checkedI n).2 := ⟨_, rfl⟩
    rw [← hp, ← hq]
    have HP := Lib.hid hp
    have HQ := Lib.hid hq
    clear hn f4 hp hq h
    go_enter Tryd.func13, Tryd.ntmps13
    go_wp2_with fail
    go_loop [4] (fun x => ∃ k : Int, x = .int .i64 k ∧ d ≤ k ∧ k ≤ d + 3 ∧ Hid (∀ j, d ≤ j → j < k → busB j = false)) (fun x => (d + 3 - RowKit.intOf x).toNat)
    case atStart => exact ⟨d, rfl, by omega, by omega, Lib.hid fun j _ _ => by omega⟩
    case round =>
      obtain ⟨k, rfl, hk0, hk1, HK⟩ := hrel
      by_cases hle : k ≤ d + 2
      · cases hb : busB k with
        | true =>
          have hb' := busB_true.1 hb
          have HB := Lib.hid hb
          have hkn : k = n := by
            by_cases e : k < n
            · have := HF.out k hk0 e; omega
            · by_cases e' : k = n
              · exact e'
              · have := HK.out n f1 (by omega)
                exact absurd ⟨⟨by omega, by omega⟩, f3⟩ (busB_false.1 this)
          have hpk : p = k ∧ q = 0 := by
            rw [HP.out, HQ.out, ← hkn]; unfold checkedI; rw [if_pos (dayB_true.2 hb'.1)]; exact ⟨rfl, rfl⟩
          obtain ⟨rfl, rfl⟩ := hpk
          clear hb hkn hb'
          go_wp2_with (first | (go_at_call 15; refine (rcValid_yes _ HD.out).mono ?_; rintro e w' ⟨rfl, rfl⟩) | (go_at_call 21; refine (rcBusiness_any _ _).mono ?_; rw [HB.out]; rintro e w' ⟨rfl, rfl⟩))
          go_ret2
          exact ⟨rfl, rfl⟩
        | false =>
          have HB := Lib.hid hb
          clear hb
          go_wp2_with (first | (go_at_call 15; refine (rcValid_yes _ HD.out).mono ?_; rintro e w' ⟨rfl, rfl⟩) | (go_at_call 21; refine (rcBusiness_any _ _).mono ?_; rw [HB.out]; rintro e w' ⟨rfl, rfl⟩))
          go_round
          case rel =>
            refine ⟨k + 1, by first | rfl | go_num, by omega, by omega, Lib.hid fun j h1 h2 => ?_⟩
            by_cases e : j = k
            · rw [e]; exact HB.out
            · exact HK.out j h1 (by omega)
          case measure => simp [RowKit.intOf]; omega
      · have hpk : p = 0 ∧ q = 2 := by
          have hbn := HK.out n f1 (by omega)
          have hv : dayB n = false := dayB_false.2 fun q => busB_false.1 hbn ⟨q, f3⟩
          rw [HP.out, HQ.out]
          unfold checkedI
          rw [hv]
          exact ⟨rfl, rfl⟩
        obtain ⟨rfl, rfl⟩ := hpk
        go_wp2_with (go_at_call 15; refine (rcValid_yes _ HD.out).mono ?_; rintro e w' ⟨rfl, rfl⟩)
        go_ret2
        exact ⟨rfl, rfl⟩

set_option maxHeartbeats 1000000 in
theorem rcCount_any (a b : Int) (w : World) :
    Calls Tryd.prog 27 #[.int .i64 a, .int .i64 b] w fun e w' => e = .returned (.tuple #[.int .i64 (countI a b).1, .int .i64 (countI a b).2]) ∧ w = w' := by
  obtain ⟨p, hp⟩ : ∃ p, p = (countI a b).1 := ⟨_, rfl⟩
  obtain ⟨q, hq⟩ : ∃ q, q = (countI a b).2 := ⟨_, rfl⟩
  rw [← hp, ← hq]
  unfold countI at hp hq
  cases ha : dayB a with
  | false =>
    rw [ha] at hp hq
    simp only [Bool.false_and, Bool.false_eq_true, if_false] at hp hq
    subst hp hq
    have HA := Lib.hid ha
    clear ha
    go_enter Tryd.func27, Tryd.ntmps27
    go_wp2_with (first | (go_at_call 15; with_reducible refine (rcValid_no (n := a) _ HA.out).mono ?_; rintro e w' ⟨rfl, rfl⟩))
    go_ret2
    exact ⟨rfl, rfl⟩
  | true =>
    cases hb : dayB b with
    | false =>
      rw [ha, hb] at hp hq
      simp only [Bool.and_false, Bool.false_eq_true, if_false] at hp hq
      subst hp hq
      have HA := Lib.hid ha
      have HB := Lib.hid hb
      clear ha hb
      go_enter Tryd.func27, Tryd.ntmps27
      go_wp2_with fail
      refine (rcValid_yes (n := a) _ HA.out).mono ?_
      rintro e w' ⟨rfl, rfl⟩
      go_wp2_with fail
      refine (rcValid_no (n := b) _ HB.out).mono ?_
      rintro e w' ⟨rfl, rfl⟩
      go_wp2_with fail
      go_ret2
      exact ⟨rfl, rfl⟩
    | true =>
      rw [ha, hb] at hp hq
      simp only [Bool.and_self, if_true] at hp hq
      obtain ⟨a0, a1⟩ := dayB_true.1 ha
      obtain ⟨b0, b1⟩ := dayB_true.1 hb
      have HA := Lib.hid ha
      have HB := Lib.hid hb
      clear ha hb
      by_cases hlt : b < a
      · rw [if_pos hlt] at hp hq
        subst hp hq
        go_enter Tryd.func27, Tryd.ntmps27
        go_wp2_with fail
        refine (rcValid_yes (n := a) _ HA.out).mono ?_
        rintro e w' ⟨rfl, rfl⟩
        go_wp2_with fail
        refine (rcValid_yes (n := b) _ HB.out).mono ?_
        rintro e w' ⟨rfl, rfl⟩
        go_wp2_with fail
        go_ret2
        exact ⟨rfl, rfl⟩
      · rw [if_neg hlt] at hp hq
        subst hq
        have HP := Lib.hid hp
        clear hp
        go_enter Tryd.func27, Tryd.ntmps27
        go_wp2_with fail
        refine (rcValid_yes (n := a) _ HA.out).mono ?_
        rintro e w' ⟨rfl, rfl⟩
        go_wp2_with fail
        refine (rcValid_yes (n := b) _ HB.out).mono ?_
        rintro e w' ⟨rfl, rfl⟩
        go_wp2_with fail
        go_loop [6, 7] (fun s x => ∃ k m : Int, x = .int .i64 k ∧ s = .int .i64 m ∧ a ≤ k ∧ k ≤ b ∧ 0 ≤ m ∧ m ≤ k ∧ Hid (m = bbI k - bbI a)) (fun _ x => (b - RowKit.intOf x).toNat)
        case atStart => exact ⟨a, 0, rfl, rfl, by omega, by omega, by omega, by omega, Lib.hid (by omega)⟩
        case round =>
          obtain ⟨k, m, rfl, rfl, hk0, hk1, hm0, hm1, HM⟩ := hrel
          by_cases hkb : k < b
          · cases hb : busB k with
            | true =>
              have hs := (busB_true.1 hb).2
              have HB := Lib.hid hb
              clear hb
              go_wp2_with (go_at_call 21; refine (rcBusiness_any _ _).mono ?_; rw [HB.out]; rintro e w' ⟨rfl, rfl⟩)
              go_round
              case rel => exact ⟨k + 1, m + 1, by first | rfl | go_num, by first | rfl | go_num, by omega, by omega, by omega, by omega, Lib.hid (by have := HM.out; rw [bbI_succ, if_pos (by omega)]; omega)⟩
              case measure => simp [RowKit.intOf]; omega
            | false =>
              have hs : ¬ k % 7 < 5 := fun e => busB_false.1 hb ⟨⟨by omega, by omega⟩, e⟩
              have HB := Lib.hid hb
              clear hb
              go_wp2_with (go_at_call 21; refine (rcBusiness_any _ _).mono ?_; rw [HB.out]; rintro e w' ⟨rfl, rfl⟩)
              go_round
              case rel => exact ⟨k + 1, m, by first | rfl | go_num, by first | rfl | go_num, by omega, by omega, by omega, by omega, Lib.hid (by have := HM.out; rw [bbI_succ, if_neg (by omega)]; omega)⟩
              case measure => simp [RowKit.intOf]; omega
          · obtain rfl : k = b := by omega
            obtain rfl : p = m := by rw [HP.out, HM.out]
            go_wp2_with fail
            go_ret2
            exact ⟨rfl, rfl⟩

set_option maxHeartbeats 1000000 in
theorem rcMonths_any (a b : Int) (w : World) :
    Calls Tryd.prog 25 #[.int .i64 a, .int .i64 b] w fun e w' => e = .returned (.tuple #[.int .i64 (monthsI a b).1, .int .i64 (monthsI a b).2]) ∧ w = w' := by
  obtain ⟨p, hp⟩ : ∃ p, p = (monthsI a b).1 := ⟨_, rfl⟩
  obtain ⟨q, hq⟩ : ∃ q, q = (monthsI a b).2 := ⟨_, rfl⟩
  rw [← hp, ← hq]
  unfold monthsI at hp hq
  cases ha : dayB a with
  | false =>
    rw [ha] at hp hq
    simp only [Bool.false_and, Bool.false_eq_true, if_false] at hp hq
    subst hp hq
    have HA := Lib.hid ha
    clear ha
    go_enter Tryd.func25, Tryd.ntmps25
    go_wp2_with (first | (go_at_call 15; with_reducible refine (rcValid_no (n := a) _ HA.out).mono ?_; rintro e w' ⟨rfl, rfl⟩))
    go_ret2
    exact ⟨rfl, rfl⟩
  | true =>
    have HA := Lib.hid ha
    obtain ⟨a0, a1⟩ := dayB_true.1 ha
    cases hb : inB b (-36000) 36000 with
    | false =>
      rw [ha, hb] at hp hq
      simp only [Bool.and_false, Bool.false_eq_true, if_false] at hp hq
      subst hp hq
      have hb' := inB_false.1 hb
      clear ha hb
      by_cases hlo : b < -36000
      · clear hb'
        go_enter Tryd.func25, Tryd.ntmps25
        go_wp2_with fail
        refine (rcValid_yes (n := a) _ HA.out).mono ?_
        rintro e w' ⟨rfl, rfl⟩
        go_wp2_with fail
        go_ret2
        exact ⟨rfl, rfl⟩
      · have hhi : 36000 < b := by omega
        have hlo' : decide (b < -36000) = false := decide_eq_false hlo
        clear hb' hlo
        go_enter Tryd.func25, Tryd.ntmps25
        go_wp2_with fail
        refine (rcValid_yes (n := a) _ HA.out).mono ?_
        rintro e w' ⟨rfl, rfl⟩
        go_wp2_with fail
        go_ret2
        exact ⟨rfl, rfl⟩
    | true =>
      rw [ha, hb] at hp hq
      simp only [Bool.and_self, if_true] at hp hq
      obtain ⟨b0, b1⟩ := inB_true.1 hb
      rw [show a + b * 30 = a + 30 * b by omega] at hp hq
      have hlo' : decide (b < -36000) = false := decide_eq_false (by omega)
      have hhi' : decide (36000 < b) = false := decide_eq_false (by omega)
      clear ha hb
      cases hv : dayB (a + 30 * b) with
      | true =>
        rw [checked_yes hv] at hp hq
        subst hp hq
        have HV := Lib.hid hv
        clear hv
        go_enter Tryd.func25, Tryd.ntmps25
        go_wp2_with fail
        refine (rcValid_yes (n := a) _ HA.out).mono ?_
        rintro e w' ⟨rfl, rfl⟩
        go_wp2_with fail
        refine (rcValid_yes _ HV.out).mono ?_
        rintro e w' ⟨rfl, rfl⟩
        go_wp2_with fail
        go_ret2
        exact ⟨rfl, rfl⟩
      | false =>
        rw [checked_no hv] at hp hq
        subst hp hq
        have HV := Lib.hid hv
        clear hv
        go_enter Tryd.func25, Tryd.ntmps25
        go_wp2_with fail
        refine (rcValid_yes (n := a) _ HA.out).mono ?_
        rintro e w' ⟨rfl, rfl⟩
        go_wp2_with fail
        refine (rcValid_no _ HV.out).mono ?_
        rintro e w' ⟨rfl, rfl⟩
        go_wp2_with fail
        go_ret2
        exact ⟨rfl, rfl⟩

/-- Day's result, by the reference's tests. -/
theorem dayI_alt (y m d : Int) (hm : 1 ≤ m ∧ m ≤ 12) (hd : 1 ≤ d ∧ d ≤ 30) (hy : 0 ≤ y ∧ y ≤ 36000) : dayI y m d = checkedI (360 * y + 30 * (m - 1) + d - 1) := by
  unfold dayI
  by_cases h : y ≤ 100
  · rw [if_pos (by rw [inB_true.2 ⟨hy.1, h⟩, inB_true.2 hm, inB_true.2 hd]; rfl)]
    congr 1
    omega
  · rw [if_neg (by rw [inB_false.2 (fun q => h q.2)]; simp), checked_no (dayB_false.2 (by omega))]
theorem dayI_no (y m d : Int) (h : ¬ ((1 ≤ m ∧ m ≤ 12) ∧ (1 ≤ d ∧ d ≤ 30) ∧ (0 ≤ y ∧ y ≤ 36000))) : dayI y m d = (0, 2) := by
  unfold dayI
  rw [if_neg]
  intro hh
  simp only [Bool.and_eq_true] at hh
  obtain ⟨⟨h1, h2⟩, h3⟩ := hh
  have h1 := inB_true.1 h1
  have h2 := inB_true.1 h2
  have h3 := inB_true.1 h3
  omega

set_option maxHeartbeats 2000000 in
theorem rcDay_any (y m d : Int) (w : World) :
    Calls Tryd.prog 31 #[.int .i64 y, .int .i64 m, .int .i64 d] w fun e w' => e = .returned (.tuple #[.int .i64 (dayI y m d).1, .int .i64 (dayI y m d).2]) ∧ w = w' := by
  by_cases hall : (1 ≤ m ∧ m ≤ 12) ∧ (1 ≤ d ∧ d ≤ 30) ∧ (0 ≤ y ∧ y ≤ 36000)
  · obtain ⟨hm, hd, hy⟩ := hall
    rw [dayI_alt y m d hm hd hy]
    obtain ⟨m0, m1⟩ := hm
    obtain ⟨d0, d1⟩ := hd
    obtain ⟨y0, y1⟩ := hy
    have t1 : decide (m < 1) = false := decide_eq_false (by omega)
    have t2 : decide (12 < m) = false := decide_eq_false (by omega)
    have t3 : decide (d < 1) = false := decide_eq_false (by omega)
    have t4 : decide (30 < d) = false := decide_eq_false (by omega)
    have t5 : decide (y < 0) = false := decide_eq_false (by omega)
    have t6 : decide (36000 < y) = false := decide_eq_false (by omega)
    cases hv : dayB (360 * y + 30 * (m - 1) + d - 1) with
    | true =>
      rw [checked_yes hv]
      have HV := Lib.hid hv
      clear hv
      go_enter Tryd.func31, Tryd.ntmps31
      go_wp2_with fail
      refine (rcValid_yes _ HV.out).mono ?_
      rintro e w' ⟨rfl, rfl⟩
      go_wp2_with fail
      go_ret2
      exact ⟨rfl, rfl⟩
    | false =>
      rw [checked_no hv]
      have HV := Lib.hid hv
      clear hv
      go_enter Tryd.func31, Tryd.ntmps31
      go_wp2_with fail
      refine (rcValid_no _ HV.out).mono ?_
      rintro e w' ⟨rfl, rfl⟩
      go_wp2_with fail
      go_ret2
      exact ⟨rfl, rfl⟩
  · rw [dayI_no y m d hall]
    by_cases c1 : m < 1
    · clear hall
      go_enter Tryd.func31, Tryd.ntmps31
      go_wp2_with fail
      go_ret2
      exact ⟨rfl, rfl⟩
    have t1 : decide (m < 1) = false := decide_eq_false c1
    by_cases c2 : 12 < m
    · clear hall c1
      go_enter Tryd.func31, Tryd.ntmps31
      go_wp2_with fail
      go_ret2
      exact ⟨rfl, rfl⟩
    have t2 : decide (12 < m) = false := decide_eq_false c2
    by_cases c3 : d < 1
    · clear hall c1 c2
      go_enter Tryd.func31, Tryd.ntmps31
      go_wp2_with fail
      go_ret2
      exact ⟨rfl, rfl⟩
    have t3 : decide (d < 1) = false := decide_eq_false c3
    by_cases c4 : 30 < d
    · clear hall c1 c2 c3
      go_enter Tryd.func31, Tryd.ntmps31
      go_wp2_with fail
      go_ret2
      exact ⟨rfl, rfl⟩
    have t4 : decide (30 < d) = false := decide_eq_false c4
    by_cases c5 : y < 0
    · clear hall c1 c2 c3 c4
      go_enter Tryd.func31, Tryd.ntmps31
      go_wp2_with fail
      go_ret2
      exact ⟨rfl, rfl⟩
    have t5 : decide (y < 0) = false := decide_eq_false c5
    have c6 : 36000 < y := by omega
    clear hall c1 c2 c3 c4 c5
    go_enter Tryd.func31, Tryd.ntmps31
    go_wp2_with fail
    go_ret2
    exact ⟨rfl, rfl⟩

set_option maxHeartbeats 400000 in
theorem rcText_any (d y m k : Nat) (w : World) (hd : d ≤ 36000) (hy : d / 360 = y) (hm : d % 360 / 30 + 1 = m) (hk : d % 30 + 1 = k) (hi : ItoaAt w y) :
    Calls Tryd.prog 23 #[.int .i64 (d : Int)] w fun e w' => e = .returned (.string (textB y m k)) ∧ Below w.heap.size w w' := by
  have hm1 : m < 100 := by omega
  have hk1 : k < 100 := by omega
  have HV := Lib.hid (rcValid_yes w (dayB_true.2 ⟨by omega, by omega⟩ : dayB (d : Int) = true))
  have hD := rcDate_yes (d : Int) w (dayB_true.2 ⟨by omega, by omega⟩)
  rw [show (d : Int) / 360 = (y : Int) by omega, show (d : Int) % 360 / 30 + 1 = (m : Int) by omega, show (d : Int) % 30 + 1 = (k : Int) by omega] at hD
  have HD := Lib.hid hD
  have HI := Lib.hid (hi w (Below.refl _ _))
  have hsy := decB_size y (by omega)
  have hsm := twoB_size m
  have hsk := twoB_size k
  have hC := fun (W : World) => rctwo_any m W hm1
  have hC' := fun (W : World) => rctwo_any k W hk1
  have HC := Lib.hid hC
  have HC' := Lib.hid hC'
  clear hD hy hm hk hi hd hm1 hk1 hC hC'
  go_enter Tryd.func23, Tryd.ntmps23
  go_wp2_with fail
  refine (HV.out).mono ?_
  rintro e w' ⟨rfl, rfl⟩
  go_wp2_with fail
  refine (HD.out).mono ?_
  rintro e w' ⟨rfl, rfl⟩
  go_wp2_with fail
  refine (HI.out).mono ?_
  rintro e w1 ⟨rfl, hb1⟩
  go_wp2_with fail
  refine (HC.out _).mono ?_
  rintro e w2 ⟨rfl, hb2⟩
  go_wp2_with fail
  refine (HC'.out _).mono ?_
  rintro e w3 ⟨rfl, hb3⟩
  go_wp2_with fail
  go_ret
  exact ⟨rfl, (hb1.trans (hb2.mono hb1.size)).trans (hb3.mono (Nat.le_trans hb1.size hb2.size))⟩

theorem rcText_no (d : Int) (w : World) (h : dayB d = false) :
    Calls Tryd.prog 23 #[.int .i64 d] w fun e w' => e = .returned (.string ⟨#[]⟩) ∧ w = w' := by
  have H := Lib.hid h
  clear h
  go_enter Tryd.func23, Tryd.ntmps23
  go_wp2_with (go_at_call 15; refine (rcValid_no _ H.out).mono ?_; rintro e w' ⟨rfl, rfl⟩)
  go_ret
  exact ⟨rfl, rfl⟩

theorem cText_no (d : Int) (w : World) (h : dayB d = false) :
    Calls Tryd.prog 22 #[.int .i64 d] w fun e w' => e = .returned (.string ⟨#[]⟩) ∧ w = w' := by
  have H := Lib.hid h
  clear h
  go_enter Tryd.func22, Tryd.ntmps22
  go_wp2_with (go_at_call 14; refine (cValid_no _ H.out).mono ?_; rintro e w' ⟨rfl, rfl⟩)
  go_ret
  exact ⟨rfl, rfl⟩

end Go.Proofs.YtgnjboebnobjcaaDoor
