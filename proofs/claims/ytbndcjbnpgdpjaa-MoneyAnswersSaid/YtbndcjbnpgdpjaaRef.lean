/- Contracts of the reference of layer 1, and of the functions of package money beside it, for every number: both return the same. -/
import Derived.Test.YtbndcjbnpgdpjaaSum
import Derived.Test.YtbndcjbnpgdpjaaShares
namespace Go.Proofs.Ytbndcjbnpgdpjaa
open Go.RowKit Go.Sort Go.Shelf Go.Lib Go.Proofs

set_option maxHeartbeats 400000 in
theorem rValid_any (n : Int) (w : World) :
    Calls Try.prog 17 #[.int .i64 n] w fun e w' => e = .returned (.bool (inB n 0 1000000000000)) ∧ w = w' := by
  by_cases h1 : 0 ≤ n
  · by_cases h2 : n ≤ 1000000000000
    · rw [inB_true.2 ⟨h1, h2⟩]
      go_enter Try.func17, Try.ntmps17
      go_wp2
      go_ret
      exact ⟨rfl, rfl⟩
    · rw [inB_false.2 fun q => h2 q.2]
      go_enter Try.func17, Try.ntmps17
      go_wp2
      go_ret
      exact ⟨rfl, rfl⟩
  · rw [inB_false.2 fun q => h1 q.1]
    go_enter Try.func17, Try.ntmps17
    go_wp2
    go_ret
    exact ⟨rfl, rfl⟩

set_option maxHeartbeats 400000 in
theorem rTotal_any (n : Int) (w : World) :
    Calls Try.prog 19 #[.int .i64 n] w fun e w' => e = .returned (.bool (inB n (-1000000000000000) 1000000000000000)) ∧ w = w' := by
  by_cases h1 : -1000000000000000 ≤ n
  · by_cases h2 : n ≤ 1000000000000000
    · rw [inB_true.2 ⟨h1, h2⟩]
      go_enter Try.func19, Try.ntmps19
      go_wp2
      go_ret
      exact ⟨rfl, rfl⟩
    · rw [inB_false.2 fun q => h2 q.2]
      go_enter Try.func19, Try.ntmps19
      go_wp2
      go_ret
      exact ⟨rfl, rfl⟩
  · rw [inB_false.2 fun q => h1 q.1]
    go_enter Try.func19, Try.ntmps19
    go_wp2
    go_ret
    exact ⟨rfl, rfl⟩

theorem rValid_yes {n : Int} (w : World) (h : inB n 0 1000000000000 = true) : Calls Try.prog 17 #[.int .i64 n] w fun e w' => e = .returned (.bool true) ∧ w = w' := by
  have := rValid_any n w; rw [h] at this; exact this
theorem rValid_no {n : Int} (w : World) (h : inB n 0 1000000000000 = false) : Calls Try.prog 17 #[.int .i64 n] w fun e w' => e = .returned (.bool false) ∧ w = w' := by
  have := rValid_any n w; rw [h] at this; exact this

theorem rTotal_yes {n : Int} (w : World) (h : tot n = true) : Calls Try.prog 19 #[.int .i64 n] w fun e w' => e = .returned (.bool true) ∧ w = w' := by
  have := rTotal_any n w
  rw [show inB n (-1000000000000000) 1000000000000000 = true from h] at this
  exact this
theorem rTotal_no {n : Int} (w : World) (h : tot n = false) : Calls Try.prog 19 #[.int .i64 n] w fun e w' => e = .returned (.bool false) ∧ w = w' := by
  have := rTotal_any n w
  rw [show inB n (-1000000000000000) 1000000000000000 = false from h] at this
  exact this

set_option maxHeartbeats 400000 in
theorem rAdd_yes (a b : Int) (w : World) (h : addOk a b = true) : Calls Try.prog 11 #[.int .i64 a, .int .i64 b] w fun e w' => e = .returned (.tuple #[.int .i64 (a + b), .int .i64 0]) ∧ w = w' := by
  unfold addOk at h
  simp only [Bool.and_eq_true] at h
  obtain ⟨⟨h1, h2⟩, h3⟩ := h
  obtain ⟨a0, a1⟩ := tot_iff.1 h1
  obtain ⟨b0, b1⟩ := tot_iff.1 h2
  have H1 := Lib.hid (rTotal_yes w h1)
  have H2 := Lib.hid (rTotal_yes w h2)
  have H3 := Lib.hid (rTotal_yes w h3)
  clear h1 h2 h3
  go_enter Try.func11, Try.ntmps11
  go_wp2_with fail
  refine (H1.out).mono ?_
  rintro e w' ⟨rfl, rfl⟩
  go_wp2_with fail
  refine (H2.out).mono ?_
  rintro e w' ⟨rfl, rfl⟩
  go_wp2_with fail
  refine (H3.out).mono ?_
  rintro e w' ⟨rfl, rfl⟩
  go_wp2
  go_ret2
  exact ⟨rfl, rfl⟩

set_option maxHeartbeats 400000 in
theorem rAdd_no (a b : Int) (w : World) (h : addOk a b = false) : Calls Try.prog 11 #[.int .i64 a, .int .i64 b] w fun e w' => e = .returned (.tuple #[.int .i64 0, .int .i64 2]) ∧ w = w' := by
  cases h1 : tot a with
  | false =>
    have H1 := Lib.hid (rTotal_no w h1)
    clear h h1
    go_enter Try.func11, Try.ntmps11
    go_wp2_with (go_at_call 19; refine (H1.out).mono ?_; rintro e w' ⟨rfl, rfl⟩)
    go_ret2
    exact ⟨rfl, rfl⟩
  | true =>
    have H1 := Lib.hid (rTotal_yes w h1)
    cases h2 : tot b with
    | false =>
      have H2 := Lib.hid (rTotal_no w h2)
      clear h h1 h2
      go_enter Try.func11, Try.ntmps11
      go_wp2_with fail
      refine (H1.out).mono ?_
      rintro e w' ⟨rfl, rfl⟩
      go_wp2_with (go_at_call 19; refine (H2.out).mono ?_; rintro e w' ⟨rfl, rfl⟩)
      go_ret2
      exact ⟨rfl, rfl⟩
    | true =>
      have H2 := Lib.hid (rTotal_yes w h2)
      have h3 : tot (a + b) = false := by unfold addOk at h; rw [h1, h2] at h; simpa using h
      obtain ⟨a0, a1⟩ := tot_iff.1 h1
      obtain ⟨b0, b1⟩ := tot_iff.1 h2
      have H3 := Lib.hid (rTotal_no w h3)
      clear h h1 h2 h3
      go_enter Try.func11, Try.ntmps11
      go_wp2_with fail
      refine (H1.out).mono ?_
      rintro e w' ⟨rfl, rfl⟩
      go_wp2_with fail
      refine (H2.out).mono ?_
      rintro e w' ⟨rfl, rfl⟩
      go_wp2_with fail
      refine (H3.out).mono ?_
      rintro e w' ⟨rfl, rfl⟩
      go_wp2
      go_ret2
      exact ⟨rfl, rfl⟩

set_option maxHeartbeats 1000000 in
theorem rSum_any (v : Value) (l : List Int) (w : World) (h : RowAt w v l) (hl : l.length ≤ 4611686018427387904) :
    Calls Try.prog 22 #[v] w fun e w' => e = .returned (.tuple #[.int .i64 (sumTo l 0).1, .int .i64 (sumTo l 0).2]) ∧ w = w' := by
  rcases h with ⟨rfl, ao, cap, rfl⟩ | ⟨b, o, cap, rfl, hb, hc⟩
  · go_enter Try.func22, Try.ntmps22
    go_wp2
    refine wp_loop_rounds 1 ?_
    rw [rounds_succ]
    go_wp2
    go_ret2
    exact ⟨rfl, rfl⟩
  · obtain ⟨n, hn⟩ : ∃ n, n = l.length := ⟨_, rfl⟩
    obtain ⟨r1, h1⟩ : ∃ r, r = (sumTo l 0).1 := ⟨_, rfl⟩
    obtain ⟨r2, h2⟩ : ∃ r, r = (sumTo l 0).2 := ⟨_, rfl⟩
    have hn1 : n ≤ 4611686018427387904 := by omega
    have HC := Lib.hid hc
    have HN := Lib.hid hn
    have H1 := Lib.hid h1
    have H2 := Lib.hid h2
    rw [← hn, ← h1, ← h2]
    clear hc hn h1 h2 hl
    go_enter Try.func22, Try.ntmps22
    go_wp2
    go_loop [4, 11] (fun s c => ∃ (k : Nat) (acc : Int), k ≤ n ∧ c = .int .i64 k ∧ s = .int .i64 acc ∧ Hid (sumTo (l.drop k) acc = sumTo l 0)) (fun _ c => n - (intOf c).toNat)
    case atStart => exact ⟨0, 0, Nat.zero_le _, rfl, rfl, Lib.hid rfl⟩
    case round =>
      obtain ⟨k, acc, hk, rfl, rfl, HS⟩ := hrel
      by_cases hlt : k < n
      · obtain ⟨x, hx⟩ : ∃ x, x = l.getD k 0 := ⟨_, rfl⟩
        have hcell := HC.out k (by have := HN.out; omega)
        rw [← hx] at hcell
        cases hok : addOk acc x with
        | true =>
          have HA := Lib.hid (rAdd_yes acc x w hok)
          have hs := sumTo_drop_yes l k acc (by have := HN.out; omega) (by rw [← hx]; exact hok)
          rw [← hx, HS.out] at hs
          have HS' := Lib.hid hs
          clear hx hok hs HS
          go_wp2_with (go_at_call 11; refine (HA.out).mono ?_; rintro e w' ⟨rfl, rfl⟩)
          go_round
          case rel => exact ⟨k + 1, acc + x, by omega, by go_num, rfl, Lib.hid HS'.out.symm⟩
          case measure => simp [intOf]; omega
        | false =>
          have HA := Lib.hid (rAdd_no acc x w hok)
          have hs := sumTo_drop_no l k acc (by have := HN.out; omega) (by rw [← hx]; exact hok)
          rw [HS.out] at hs
          have e1 : r1 = 0 := by rw [H1.out, hs]
          have e2 : r2 = 2 := by rw [H2.out, hs]
          subst e1
          subst e2
          clear hx hok hs
          go_wp2_with (go_at_call 11; refine (HA.out).mono ?_; rintro e w' ⟨rfl, rfl⟩)
          go_ret2
          exact ⟨rfl, rfl⟩
      · have hs := HS.out
        rw [List.drop_eq_nil_of_le (by have := HN.out; omega), sumTo] at hs
        have e1 : r1 = acc := by rw [H1.out, ← hs]
        have e2 : r2 = 0 := by rw [H2.out, ← hs]
        subst e1
        subst e2
        clear hs
        go_wp2
        go_ret2
        exact ⟨rfl, rfl⟩

/-- What Add returns. -/
def addR (a b : Int) : Int × Int := if addOk a b = true then (a + b, 0) else (0, 2)

theorem Add_all (a b : Int) (w : World) : Calls Try.prog 10 #[.int .i64 a, .int .i64 b] w fun e w' => e = .returned (.tuple #[.int .i64 (addR a b).1, .int .i64 (addR a b).2]) ∧ w = w' := by
  unfold addR
  split
  · exact Add_yes a b w (by assumption)
  · exact Add_no a b w (eq_false_of_ne_true (by assumption))

theorem rAdd_all (a b : Int) (w : World) : Calls Try.prog 11 #[.int .i64 a, .int .i64 b] w fun e w' => e = .returned (.tuple #[.int .i64 (addR a b).1, .int .i64 (addR a b).2]) ∧ w = w' := by
  unfold addR
  split
  · exact rAdd_yes a b w (by assumption)
  · exact rAdd_no a b w (eq_false_of_ne_true (by assumption))

/-- What Percent returns. -/
def percR (a p : Int) : Int × Int := if (inB a 0 1000000000000 && inB p 0 100) = true then (a * p / 100, 0) else (0, 2)

set_option maxHeartbeats 400000 in
theorem Percent_all (a p : Int) (w : World) : Calls Try.prog 12 #[.int .i64 a, .int .i64 p] w fun e w' => e = .returned (.tuple #[.int .i64 (percR a p).1, .int .i64 (percR a p).2]) ∧ w = w' := by
  unfold percR
  cases h1 : inB a 0 1000000000000 with
  | true =>
    cases h2 : inB p 0 100 with
    | true => exact Percent_ok a p w h1 h2
    | false =>
      have H1 := Lib.hid (Valid_yes w h1)
      have H2 := Lib.hid (within_no w h2)
      clear h1 h2
      go_enter Try.func12, Try.ntmps12
      go_wp2_with (first | (go_at_call 16; refine (H1.out).mono ?_; rintro e w' ⟨rfl, rfl⟩) | (go_at_call 27; refine (H2.out).mono ?_; rintro e w' ⟨rfl, rfl⟩))
      go_ret2
      exact ⟨rfl, rfl⟩
  | false =>
    have H1 := Lib.hid (Valid_no w h1)
    clear h1
    go_enter Try.func12, Try.ntmps12
    go_wp2_with (go_at_call 16; refine (H1.out).mono ?_; rintro e w' ⟨rfl, rfl⟩)
    go_ret2
    exact ⟨rfl, rfl⟩

set_option maxHeartbeats 400000 in
theorem rPercent_all (a p : Int) (w : World) : Calls Try.prog 13 #[.int .i64 a, .int .i64 p] w fun e w' => e = .returned (.tuple #[.int .i64 (percR a p).1, .int .i64 (percR a p).2]) ∧ w = w' := by
  unfold percR
  cases h1 : inB a 0 1000000000000 with
  | true =>
    have H1 := Lib.hid (rValid_yes w h1)
    obtain ⟨a0, a1⟩ := inB_true.1 h1
    by_cases p0 : 0 ≤ p
    · by_cases p1 : p ≤ 100
      · rw [inB_true.2 ⟨p0, p1⟩]
        have q1 : 0 ≤ a * p := Int.mul_nonneg a0 p0
        have q2 : a * p ≤ 1000000000000 * 100 := Int.mul_le_mul a1 p1 p0 (by omega)
        clear h1
        go_enter Try.func13, Try.ntmps13
        go_wp2_with (go_at_call 17; refine (H1.out).mono ?_; rintro e w' ⟨rfl, rfl⟩)
        go_ret2
        exact ⟨rfl, rfl⟩
      · rw [inB_false.2 fun q => p1 q.2]
        clear h1
        go_enter Try.func13, Try.ntmps13
        go_wp2_with (go_at_call 17; refine (H1.out).mono ?_; rintro e w' ⟨rfl, rfl⟩)
        go_ret2
        exact ⟨rfl, rfl⟩
    · rw [inB_false.2 fun q => p0 q.1]
      clear h1
      go_enter Try.func13, Try.ntmps13
      go_wp2_with (go_at_call 17; refine (H1.out).mono ?_; rintro e w' ⟨rfl, rfl⟩)
      go_ret2
      exact ⟨rfl, rfl⟩
  | false =>
    have H1 := Lib.hid (rValid_no w h1)
    clear h1
    go_enter Try.func13, Try.ntmps13
    go_wp2_with (go_at_call 17; refine (H1.out).mono ?_; rintro e w' ⟨rfl, rfl⟩)
    go_ret2
    exact ⟨rfl, rfl⟩

/-- What Share returns. -/
def shareR (a n d : Int) : Int × Int := if (inB a 0 1000000000000 && inB n 0 1000000 && inB d 1 1000000 && inB (shareI a n d) 0 1000000000000) = true then (shareI a n d, 0) else (0, 2)

set_option maxHeartbeats 400000 in
theorem Share_all (a n d : Int) (w : World) : Calls Try.prog 14 #[.int .i64 a, .int .i64 n, .int .i64 d] w fun e w' => e = .returned (.tuple #[.int .i64 (shareR a n d).1, .int .i64 (shareR a n d).2]) ∧ w = w' := by
  unfold shareR
  cases h1 : inB a 0 1000000000000 with
  | true =>
    cases h2 : inB n 0 1000000 with
    | true =>
      cases h3 : inB d 1 1000000 with
      | true =>
        cases h4 : inB (shareI a n d) 0 1000000000000 with
        | true => exact Share_ok a n d w h1 h2 h3 h4
        | false => exact Share_big a n d w h1 h2 h3 h4
      | false =>
        have H1 := Lib.hid (Valid_yes w h1)
        have H2 := Lib.hid (weight_yes w h2)
        have H3 := Lib.hid (within_no w h3)
        clear h1 h2 h3
        go_enter Try.func14, Try.ntmps14
        go_wp2_with (first | (go_at_call 16; refine (H1.out).mono ?_; rintro e w' ⟨rfl, rfl⟩) | (go_at_call 28; refine (H2.out).mono ?_; rintro e w' ⟨rfl, rfl⟩) | (go_at_call 27; refine (H3.out).mono ?_; rintro e w' ⟨rfl, rfl⟩))
        go_ret2
        exact ⟨rfl, rfl⟩
    | false =>
      have H1 := Lib.hid (Valid_yes w h1)
      have H2 := Lib.hid (weight_no w h2)
      clear h1 h2
      go_enter Try.func14, Try.ntmps14
      go_wp2_with (first | (go_at_call 16; refine (H1.out).mono ?_; rintro e w' ⟨rfl, rfl⟩) | (go_at_call 28; refine (H2.out).mono ?_; rintro e w' ⟨rfl, rfl⟩))
      go_ret2
      exact ⟨rfl, rfl⟩
  | false =>
    have H1 := Lib.hid (Valid_no w h1)
    clear h1
    go_enter Try.func14, Try.ntmps14
    go_wp2_with (go_at_call 16; refine (H1.out).mono ?_; rintro e w' ⟨rfl, rfl⟩)
    go_ret2
    exact ⟨rfl, rfl⟩

/-- The reference rounds as the package does. -/
theorem share_ref (a n d : Int) (hd : 0 < d) : shareI a n d = a * n / d + (if 2 * (a * n % d) ≥ d then 1 else 0) := by
  obtain ⟨h1, h2⟩ := share_half a n d hd
  have h3 := Int.mul_ediv_add_emod (a * n) d
  have h4 := Int.emod_nonneg (a * n) (b := d) (by omega)
  have h5 := Int.emod_lt_of_pos (a * n) hd
  generalize shareI a n d = s at *
  generalize a * n = z at *
  generalize z % d = r at *
  generalize z / d = q at *
  have e : s * d = d * s := Int.mul_comm s d
  rw [e] at h1 h2
  have hlow : d * (s - q) ≤ r + d / 2 := by rw [Int.mul_sub]; omega
  have hhigh : r < d * (s - q) + (d + 1) / 2 := by rw [Int.mul_sub]; omega
  by_cases hs : s = q
  · subst hs
    rw [if_neg (by omega)]; omega
  · by_cases hs1 : s = q + 1
    · subst hs1
      rw [if_pos (by omega)]
    · exfalso
      by_cases hlt : s < q
      · have : d * (s - q) ≤ d * (-1) := Int.mul_le_mul_of_nonneg_left (by omega) (by omega)
        omega
      · have : d * 2 ≤ d * (s - q) := Int.mul_le_mul_of_nonneg_left (by omega) (by omega)
        omega

set_option maxHeartbeats 1000000 in
theorem rShare_all (a n d : Int) (w : World) : Calls Try.prog 15 #[.int .i64 a, .int .i64 n, .int .i64 d] w fun e w' => e = .returned (.tuple #[.int .i64 (shareR a n d).1, .int .i64 (shareR a n d).2]) ∧ w = w' := by
  unfold shareR
  cases h1 : inB a 0 1000000000000 with
  | true =>
    have H1 := Lib.hid (rValid_yes w h1)
    obtain ⟨a0, a1⟩ := inB_true.1 h1
    have bad : (inB n 0 1000000 && inB d 1 1000000) = false → (true && inB n 0 1000000 && inB d 1 1000000 && inB (shareI a n d) 0 1000000000000) = false := fun h => by
      rw [Bool.true_and, h]; rfl
    by_cases n0 : 0 ≤ n
    · by_cases n1 : n ≤ 1000000
      · by_cases d0 : 1 ≤ d
        · by_cases d1 : d ≤ 1000000
          · have q1 : 0 ≤ a * n := Int.mul_nonneg a0 n0
            have q2 : a * n ≤ 1000000000000 * 1000000 := Int.mul_le_mul a1 n1 n0 (by omega)
            have hs := share_ref a n d (by omega)
            have q3 : 0 ≤ a * n / d := Int.ediv_nonneg q1 (by omega)
            have q4 : a * n / d ≤ a * n := Int.ediv_le_self _ q1
            have q5 : 0 ≤ a * n % d := Int.emod_nonneg _ (by omega)
            have q6 : a * n % d < d := Int.emod_lt_of_pos _ (by omega)
            rw [inB_true.2 ⟨n0, n1⟩, inB_true.2 ⟨d0, d1⟩]
            simp only [Bool.and_self, Bool.true_and]
            generalize shareI a n d = s at *
            by_cases hr : d ≤ 2 * (a * n % d)
            · rw [if_pos hr] at hs
              cases h4 : inB s 0 1000000000000 with
              | true =>
                have hc := rValid_yes w h4
                rw [hs] at hc
                have H4 := Lib.hid hc
                subst hs
                clear h1 h4 hc bad
                go_enter Try.func15, Try.ntmps15
                go_wp2_with fail
                refine (H1.out).mono ?_
                rintro e w' ⟨rfl, rfl⟩
                go_wp2_with fail
                refine (H4.out).mono ?_
                rintro e w' ⟨rfl, rfl⟩
                go_wp2
                go_ret2
                exact ⟨rfl, rfl⟩
              | false =>
                have hc := rValid_no w h4
                rw [hs] at hc
                have H4 := Lib.hid hc
                clear h1 h4 hc bad hs
                go_enter Try.func15, Try.ntmps15
                go_wp2_with fail
                refine (H1.out).mono ?_
                rintro e w' ⟨rfl, rfl⟩
                go_wp2_with fail
                refine (H4.out).mono ?_
                rintro e w' ⟨rfl, rfl⟩
                go_wp2
                go_ret2
                exact ⟨rfl, rfl⟩
            · rw [if_neg hr, Int.add_zero] at hs
              cases h4 : inB s 0 1000000000000 with
              | true =>
                have hc := rValid_yes w h4
                rw [hs] at hc
                have H4 := Lib.hid hc
                subst hs
                clear h1 h4 hc bad
                go_enter Try.func15, Try.ntmps15
                go_wp2_with fail
                refine (H1.out).mono ?_
                rintro e w' ⟨rfl, rfl⟩
                go_wp2_with fail
                refine (H4.out).mono ?_
                rintro e w' ⟨rfl, rfl⟩
                go_wp2
                go_ret2
                exact ⟨rfl, rfl⟩
              | false =>
                have hc := rValid_no w h4
                rw [hs] at hc
                have H4 := Lib.hid hc
                clear h1 h4 hc bad hs
                go_enter Try.func15, Try.ntmps15
                go_wp2_with fail
                refine (H1.out).mono ?_
                rintro e w' ⟨rfl, rfl⟩
                go_wp2_with fail
                refine (H4.out).mono ?_
                rintro e w' ⟨rfl, rfl⟩
                go_wp2
                go_ret2
                exact ⟨rfl, rfl⟩
          · rw [bad (by rw [show inB d 1 1000000 = false from inB_false.2 fun q => d1 q.2, Bool.and_false])]
            clear h1 bad
            go_enter Try.func15, Try.ntmps15
            go_wp2_with (go_at_call 17; refine (H1.out).mono ?_; rintro e w' ⟨rfl, rfl⟩)
            go_ret2
            exact ⟨rfl, rfl⟩
        · rw [bad (by rw [show inB d 1 1000000 = false from inB_false.2 fun q => d0 q.1, Bool.and_false])]
          clear h1 bad
          go_enter Try.func15, Try.ntmps15
          go_wp2_with (go_at_call 17; refine (H1.out).mono ?_; rintro e w' ⟨rfl, rfl⟩)
          go_ret2
          exact ⟨rfl, rfl⟩
      · rw [bad (by rw [show inB n 0 1000000 = false from inB_false.2 fun q => n1 q.2, Bool.false_and])]
        clear h1 bad
        go_enter Try.func15, Try.ntmps15
        go_wp2_with (go_at_call 17; refine (H1.out).mono ?_; rintro e w' ⟨rfl, rfl⟩)
        go_ret2
        exact ⟨rfl, rfl⟩
    · rw [bad (by rw [show inB n 0 1000000 = false from inB_false.2 fun q => n0 q.1, Bool.false_and])]
      clear h1 bad
      go_enter Try.func15, Try.ntmps15
      go_wp2_with (go_at_call 17; refine (H1.out).mono ?_; rintro e w' ⟨rfl, rfl⟩)
      go_ret2
      exact ⟨rfl, rfl⟩
  | false =>
    have H1 := Lib.hid (rValid_no w h1)
    clear h1
    go_enter Try.func15, Try.ntmps15
    go_wp2_with (go_at_call 17; refine (H1.out).mono ?_; rintro e w' ⟨rfl, rfl⟩)
    go_ret2
    exact ⟨rfl, rfl⟩

end Go.Proofs.Ytbndcjbnpgdpjaa
