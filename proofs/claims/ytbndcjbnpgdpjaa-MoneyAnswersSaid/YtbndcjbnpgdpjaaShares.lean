/- MoneyShares: shares and percentages are monotone, stay below the amount, and differ from the exact ones by at most a half; for every input. -/
import Derived.Test.YtbndcjbnpgdpjaaAwake
namespace Go.Proofs.Ytbndcjbnpgdpjaa
open Go.RowKit Go.Sort Go.Shelf Go.Lib Go.Proofs

/-- A share is within a half of the exact one. -/
theorem share_half (a n d : Int) (hd : 0 < d) : 2 * (shareI a n d * d - a * n) ≤ d ∧ 2 * (a * n - shareI a n d * d) < d := by
  unfold shareI
  have e : 2 * a * n + d = 2 * (a * n) + d := by rw [Int.mul_assoc]
  rw [e]
  generalize a * n = z
  have h1 := Int.mul_ediv_add_emod (2 * z + d) (2 * d)
  have h2 := Int.emod_nonneg (2 * z + d) (b := 2 * d) (by omega)
  have h3 := Int.emod_lt_of_pos (2 * z + d) (b := 2 * d) (by omega)
  generalize (2 * z + d) / (2 * d) = q at *
  have e2 : 2 * d * q = 2 * (q * d) := by rw [Int.mul_assoc, Int.mul_comm d q]
  rw [e2] at h1
  omega

theorem share_mono (x y n d : Int) (h : x ≤ y) (hn : 0 ≤ n) (hd : 0 < d) : shareI x n d ≤ shareI y n d := by
  unfold shareI
  refine Int.ediv_le_ediv (by omega) ?_
  have := Int.mul_le_mul_of_nonneg_right (show 2 * x ≤ 2 * y by omega) hn
  omega

theorem share_nonneg (x n d : Int) (h : 0 ≤ x) (hn : 0 ≤ n) (hd : 0 < d) : 0 ≤ shareI x n d := by
  unfold shareI
  have := Int.mul_nonneg (show 0 ≤ 2 * x by omega) hn
  exact Int.ediv_nonneg (by omega) (by omega)

/-- Where a share is no amount, the exact one is at least as great as the greatest amount. -/
theorem share_big (x n d : Int) (h : 0 ≤ x) (hn : 0 ≤ n) (hd : 0 < d) (hs : inB (shareI x n d) 0 1000000000000 = false) : 999999999999 < x * n / d := by
  have h0 := share_nonneg x n d h hn hd
  have h1 : 1000000000001 ≤ shareI x n d := by rw [inB_false] at hs; omega
  have h2 := (share_half x n d hd).1
  have h3 : 1000000000001 * d ≤ shareI x n d * d := Int.mul_le_mul_of_nonneg_right h1 (by omega)
  have h4 : 1000000000000 * d ≤ x * n := by omega
  have := Int.le_ediv_of_mul_le hd h4
  omega

theorem percent_facts (x y k : Int) (h0 : 0 ≤ x) (h : x ≤ y) (hk : 0 ≤ k) (hk1 : k ≤ 100) : x * k / 100 ≤ y * k / 100 ∧ x * k / 100 ≤ x ∧ x * k / 100 + x * (100 - k) / 100 ≤ x ∧ x - 1 ≤ x * k / 100 + x * (100 - k) / 100 ∧ 0 ≤ x * k / 100 ∧ 0 ≤ x * (100 - k) / 100 ∧ y * k / 100 ≤ y := by
  have e : x * (100 - k) = x * 100 - x * k := by rw [Int.mul_sub]
  have h1 : x * k ≤ y * k := Int.mul_le_mul_of_nonneg_right h hk
  have h2 : x * k ≤ x * 100 := Int.mul_le_mul_of_nonneg_left hk1 h0
  have h3 : 0 ≤ x * k := Int.mul_nonneg h0 hk
  have h4 : y * k ≤ y * 100 := Int.mul_le_mul_of_nonneg_left hk1 (by omega)
  rw [e]
  omega

set_option maxRecDepth 100000 in
set_option maxHeartbeats 2000000 in
theorem shares_any (a b p num den : Int) (w : World) (ha : 0 ≤ a) (ha1 : a ≤ 4294967295) (hb : 0 ≤ b) (hb1 : b ≤ 4294967295) (hp : 0 ≤ p) (hp1 : p ≤ 255) (hn : 0 ≤ num) (hn1 : num ≤ 65535) (hd : 0 ≤ den) (hd1 : den ≤ 65535) :
    Calls Try.prog 6 #[.int .u32 a, .int .u32 b, .int .u8 p, .int .u16 num, .int .u16 den] w fun e w' => e = .returned (.bool true) ∧ Below w.heap.size w w' := by
  go_enter Try.func6, Try.ntmps6
  go_wp2_with fail
  have hx0 : 0 ≤ min a b := by omega
  have hxy : min a b ≤ max a b := by omega
  have hy1 : max a b ≤ 4294967295 := by omega
  generalize min a b = x at *
  generalize max a b = y at *
  have hk0 : 0 ≤ p % 101 := by omega
  have hk1 : p % 101 ≤ 100 := by omega
  generalize p % 101 = k at *
  clear ha ha1 hb hb1 hp hp1
  obtain ⟨f1, f2, f3, f4, f5, f6, f7⟩ := percent_facts x y k hx0 hxy hk0 hk1
  refine (Percent_ok x k w (inB_true.2 ⟨by omega, by omega⟩) (inB_true.2 ⟨by omega, by omega⟩)).mono ?_
  rintro e w' ⟨rfl, rfl⟩
  go_wp2_with fail
  refine (Percent_ok y k w (inB_true.2 ⟨by omega, by omega⟩) (inB_true.2 ⟨by omega, by omega⟩)).mono ?_
  rintro e w' ⟨rfl, rfl⟩
  go_wp2_with fail
  refine (Percent_ok x (100 - k) w (inB_true.2 ⟨by omega, by omega⟩) (inB_true.2 ⟨by omega, by omega⟩)).mono ?_
  rintro e w' ⟨rfl, rfl⟩
  generalize x * k / 100 = u at *
  generalize y * k / 100 = v at *
  generalize x * (100 - k) / 100 = z at *
  obtain ⟨d, hd'⟩ : ∃ d, d = 1 + den := ⟨_, rfl⟩
  have hd0 : 1 ≤ d := by omega
  have hd2 : d ≤ 65536 := by omega
  have HSX := share_half x num d (by omega)
  have m1 : 0 ≤ x * num := Int.mul_nonneg hx0 hn
  have m2 : x * num ≤ 4294967295 * 65535 := Int.mul_le_mul (by omega) hn1 hn (by omega)
  have m3 : 0 ≤ y * num := Int.mul_nonneg (by omega) hn
  have m4 : y * num ≤ 4294967295 * 65535 := Int.mul_le_mul (by omega) hn1 hn (by omega)
  have hmono := share_mono x y num d hxy hn (by omega)
  have hsx0 := share_nonneg x num d hx0 hn (by omega)
  have hsy0 := share_nonneg y num d (by omega) hn (by omega)
  have hax : inB x 0 1000000000000 = true := inB_true.2 ⟨by omega, by omega⟩
  have hay : inB y 0 1000000000000 = true := inB_true.2 ⟨by omega, by omega⟩
  have han : inB num 0 1000000 = true := inB_true.2 ⟨by omega, by omega⟩
  have had : inB d 1 1000000 = true := inB_true.2 ⟨by omega, by omega⟩
  have HAW := Lib.hid (awake_any w)
  have hbig := share_big x num d hx0 hn (by omega)
  have hbig' := share_big y num d (by omega) hn (by omega)
  have cx := Share_ok x num d w hax han had
  have cy := Share_ok y num d w hay han had
  have bx := Share_big x num d w hax han had
  have by' := Share_big y num d w hay han had
  generalize shareI x num d = s at *
  generalize shareI y num d = t at *
  go_wp2_with fail
  rw [← hd']
  clear hd' hax hay han had
  cases hox : inB s 0 1000000000000 with
  | true =>
    obtain ⟨h1, h2⟩ := HSX
    obtain ⟨hs0, hs1⟩ := inB_true.1 hox
    have q1 : 0 ≤ s * d := Int.mul_nonneg hs0 (by omega)
    have q2 : s * d ≤ 1000000000000 * 65536 := Int.mul_le_mul hs1 hd2 (by omega) (by omega)
    have CX := Lib.hid (cx hox)
    clear cx bx hbig hox
    cases hoy : inB t 0 1000000000000 with
    | true =>
      have CY := Lib.hid (cy hoy)
      clear cy by' hbig' hoy
      refine (CX.out).mono ?_
      rintro e w' ⟨rfl, rfl⟩
      go_wp2_with fail
      refine (CY.out).mono ?_
      rintro e w' ⟨rfl, rfl⟩
      go_wp2_with (go_at_call 7; refine (HAW.out).mono ?_; rintro e w' ⟨rfl, hbel⟩)
      go_ret
      exact ⟨rfl, hbel⟩
    | false =>
      have CY := Lib.hid (by' hoy)
      have hq := hbig' hoy
      clear cy by' hbig' hoy
      refine (CX.out).mono ?_
      rintro e w' ⟨rfl, rfl⟩
      go_wp2_with fail
      refine (CY.out).mono ?_
      rintro e w' ⟨rfl, rfl⟩
      go_wp2_with (go_at_call 7; refine (HAW.out).mono ?_; rintro e w' ⟨rfl, hbel⟩)
      all_goals go_ret
      all_goals exact ⟨rfl, hbel⟩
  | false =>
    have CX := Lib.hid (bx hox)
    have hp := hbig hox
    clear cx bx hbig hox HSX
    cases hoy : inB t 0 1000000000000 with
    | true =>
      have CY := Lib.hid (cy hoy)
      clear cy by' hbig' hoy
      refine (CX.out).mono ?_
      rintro e w' ⟨rfl, rfl⟩
      go_wp2_with fail
      refine (CY.out).mono ?_
      rintro e w' ⟨rfl, rfl⟩
      go_wp2_with (go_at_call 7; refine (HAW.out).mono ?_; rintro e w' ⟨rfl, hbel⟩)
      all_goals go_ret
      all_goals exact ⟨rfl, hbel⟩
    | false =>
      have CY := Lib.hid (by' hoy)
      clear cy by' hbig' hoy
      refine (CX.out).mono ?_
      rintro e w' ⟨rfl, rfl⟩
      go_wp2_with fail
      refine (CY.out).mono ?_
      rintro e w' ⟨rfl, rfl⟩
      go_wp2_with (go_at_call 7; refine (HAW.out).mono ?_; rintro e w' ⟨rfl, hbel⟩)
      all_goals go_ret
      all_goals exact ⟨rfl, hbel⟩

end Go.Proofs.Ytbndcjbnpgdpjaa
