/- The walk of CalendarBack: a day comes back from its date and from its text, and days of one month and one year lie together; for all days. -/
import Derived.Test.YtgnjboebnobjcaaDoorCParse
namespace Go.Proofs.YtgnjboebnobjcaaDoor
open Go.RowKit Go.Lib Go.Proofs

theorem dayText_size (d : Nat) (h : d ≤ 36000) : (dayText d).size ≤ 1000000 := by
  have e : (dayText d).size = (dayText d).data.toList.length := size_eq _
  have e2 := decB_size (d / 360) (by omega)
  have e3 : (decB (d / 360)).size = (decDigits (d / 360)).length := by unfold decB; simp [ByteArray.size]
  rw [e, dayText_list]
  simp [twoL]
  omega

set_option maxRecDepth 100000 in
set_option maxHeartbeats 4000000 in
theorem cback_any (a b : Int) (w : World) (ha : 0 ≤ a) (ha1 : a ≤ 65535) (hb : 0 ≤ b) (hb1 : b ≤ 65535) (hL : Lay w) :
    Calls Tryd.prog 4 #[.int .u16 a, .int .u16 b] w fun e w' => e = .returned (.bool true) ∧ Below w.heap.size w w' := by
  obtain ⟨x, hx⟩ : ∃ x : Nat, (x : Int) = a % 36001 := ⟨(a % 36001).toNat, by omega⟩
  obtain ⟨z, hz⟩ : ∃ z : Nat, (z : Int) = b % 36001 := ⟨(b % 36001).toNat, by omega⟩
  have hx1 : x ≤ 36000 := by omega
  have hz1 : z ≤ 36000 := by omega
  have hvx : dayB (x : Int) = true := dayB_true.2 ⟨by omega, by omega⟩
  have hvz : dayB (z : Int) = true := dayB_true.2 ⟨by omega, by omega⟩
  have HAW := Lib.hid awake_any
  have HX := Lib.hid hx
  have HZ := Lib.hid hz
  have HL := Lib.hid hL
  obtain ⟨s, hs⟩ : ∃ s, s = dayText x := ⟨_, rfl⟩
  obtain ⟨t, ht⟩ : ∃ t, t = dayText z := ⟨_, rfl⟩
  have c1 := fun w => cDate_yes x w hvx
  have c2 := fun w => cDay_any ((x / 360 : Nat) : Int) ((x % 360 / 30 + 1 : Nat) : Int) ((x % 30 + 1 : Nat) : Int) w
  rw [dayI_day x hx1] at c2
  rw [show (x : Int) / 360 = ((x / 360 : Nat) : Int) by omega, show (x : Int) % 360 / 30 + 1 = ((x % 360 / 30 + 1 : Nat) : Int) by omega, show (x : Int) % 30 + 1 = ((x % 30 + 1 : Nat) : Int) by omega] at c1
  have c3 := fun (W : World) (hW : Lay W) => cText_day x W hx1 (hW.itoa x hx1)
  have c4 := fun (W : World) (hW : Lay W) => cText_day z W hz1 (hW.itoa z hz1)
  have c5 := fun (W : World) (hW : Lay W) => cParse_any s x 0 (Or.inl ⟨x, hx1, hs.symm, rfl, rfl⟩) W hW (by rw [hs]; exact dayText_size x hx1)
  rw [← hs] at c3
  rw [← ht] at c4
  have c6 := fun w => cYear_yes x w hvx
  have c7 := fun w => cYear_yes z w hvz
  have c8 := fun w => cMonth_yes x w hvx
  have c9 := fun w => cMonth_yes z w hvz
  rw [show (x : Int) / 360 = ((x / 360 : Nat) : Int) by omega] at c6
  have hmon : 12 * ((x / 360 : Nat) : Int) + ((x % 360 / 30 + 1 : Nat) : Int) - 1 = (x : Int) / 30 := by omega
  have hle1 : x ≤ z → ((x / 360 : Nat) : Int) ≤ (z : Int) / 360 := fun h => by omega
  have hle2 : x ≤ z → (x : Int) / 30 ≤ (z : Int) / 30 := fun h => by omega
  have hy0 : (0 : Int) ≤ ((x / 360 : Nat) : Int) := by omega
  have hy1 : ((x / 360 : Nat) : Int) ≤ 100 := by omega
  have hm0 : (1 : Int) ≤ ((x % 360 / 30 + 1 : Nat) : Int) := by omega
  have hm1 : ((x % 360 / 30 + 1 : Nat) : Int) ≤ 12 := by omega
  generalize ((x / 360 : Nat) : Int) = y at *
  generalize ((x % 360 / 30 + 1 : Nat) : Int) = m at *
  generalize ((x % 30 + 1 : Nat) : Int) = d at *
  generalize (z : Int) / 360 = y2 at *
  generalize (z : Int) / 30 = n2 at *
  generalize (x : Int) / 30 = n1 at *
  have C1 := Lib.hid c1
  have C2 := Lib.hid c2
  have C3 := Lib.hid c3
  have C4 := Lib.hid c4
  have C5 := Lib.hid c5
  have C6 := Lib.hid c6
  have C7 := Lib.hid c7
  have C8 := Lib.hid c8
  have C9 := Lib.hid c9
  have HS := Lib.hid hs
  have HT := Lib.hid ht
  have HLE1 := Lib.hid hle1
  have HLE2 := Lib.hid hle2
  clear c1 c2 c3 c4 c5 c6 c7 c8 c9 hs ht hvx hvz hx hz hL hle1 hle2
  by_cases hgt : z < x
  · have hgt' : (z : Int) < (x : Int) := by omega
    have hxz : ((x : Int) == (z : Int)) = false := by rw [beq_eq_false_iff_ne]; omega
    have hst : (s.toList == t.toList) = false := strEq_false fun e => by
      have := dayText_inj hx1 hz1 (by rw [← HS.out, ← HT.out]; exact e)
      omega
    clear hgt HLE1 HLE2
    go_enter Tryd.func4, Tryd.ntmps4
    go_wp2_with fail
    rw [← HX.out, ← HZ.out]
    refine (C1.out _).mono ?_
    rintro e w1 ⟨rfl, hb1⟩
    have hB1 := hb1
    clear hb1
    have HLw1 := Lib.hid (HL.out.below hB1 (Nat.le_refl _))
    go_wp2_with fail
    refine (C2.out _).mono ?_
    rintro e w' ⟨rfl, rfl⟩
    go_wp2_with fail
    refine (C3.out _ HLw1.out).mono ?_
    rintro e w2 ⟨rfl, hb2⟩
    have hB2 := hB1.trans (hb2.mono hB1.size)
    clear hb2 hB1
    have HLw2 := Lib.hid (HL.out.below hB2 (Nat.le_refl _))
    go_wp2_with fail
    refine (C5.out _ HLw2.out).mono ?_
    rintro e w3 ⟨rfl, hb3⟩
    have hB3 := hB2.trans (hb3.mono hB2.size)
    clear hb3 hB2
    have HLw3 := Lib.hid (HL.out.below hB3 (Nat.le_refl _))
    go_wp2_with fail
    refine (C6.out _).mono ?_
    rintro e w' ⟨rfl, rfl⟩
    go_wp2_with fail
    refine (C8.out _).mono ?_
    rintro e w' ⟨rfl, rfl⟩
    go_wp2_with fail
    refine (C3.out _ HLw3.out).mono ?_
    rintro e w4 ⟨rfl, hb4⟩
    have hB4 := hB3.trans (hb4.mono hB3.size)
    clear hb4 hB3
    have HLw4 := Lib.hid (HL.out.below hB4 (Nat.le_refl _))
    go_wp2_with fail
    refine (C4.out _ HLw4.out).mono ?_
    rintro e w5 ⟨rfl, hb5⟩
    have hB5 := hB4.trans (hb5.mono hB4.size)
    clear hb5 hB4
    have HLw5 := Lib.hid (HL.out.below hB5 (Nat.le_refl _))
    go_wp2_with fail
    refine (HAW.out _).mono ?_
    rintro e w' ⟨rfl, hbz⟩
    go_wp2_with fail
    go_ret
    exact ⟨rfl, hB5.trans (hbz.mono hB5.size)⟩
  · by_cases heq : x = z
    · have hxz : ((x : Int) == (z : Int)) = true := by rw [heq]; exact beq_self_eq_true _
      have hst : (s.toList == t.toList) = true := strEq_true (by rw [HS.out, HT.out, heq])
      have hle1 := HLE1.out (by omega)
      have hle2 := HLE2.out (by omega)
      have hng : ¬ (z : Int) < (x : Int) := by omega
      have HEQ := Lib.hid heq
      clear hgt heq HLE1 HLE2
      go_enter Tryd.func4, Tryd.ntmps4
      go_wp2_with fail
      rw [← HX.out, ← HZ.out]
      refine (C1.out _).mono ?_
      rintro e w1 ⟨rfl, hb1⟩
      have hB1 := hb1
      clear hb1
      have HLw1 := Lib.hid (HL.out.below hB1 (Nat.le_refl _))
      go_wp2_with fail
      refine (C2.out _).mono ?_
      rintro e w' ⟨rfl, rfl⟩
      go_wp2_with fail
      refine (C3.out _ HLw1.out).mono ?_
      rintro e w2 ⟨rfl, hb2⟩
      have hB2 := hB1.trans (hb2.mono hB1.size)
      clear hb2 hB1
      have HLw2 := Lib.hid (HL.out.below hB2 (Nat.le_refl _))
      go_wp2_with fail
      refine (C5.out _ HLw2.out).mono ?_
      rintro e w3 ⟨rfl, hb3⟩
      have hB3 := hB2.trans (hb3.mono hB2.size)
      clear hb3 hB2
      have HLw3 := Lib.hid (HL.out.below hB3 (Nat.le_refl _))
      go_wp2_with fail
      refine (C6.out _).mono ?_
      rintro e w' ⟨rfl, rfl⟩
      go_wp2_with fail
      refine (C8.out _).mono ?_
      rintro e w' ⟨rfl, rfl⟩
      go_wp2_with fail
      refine (C6.out _).mono ?_
      rintro e w' ⟨rfl, rfl⟩
      go_wp2_with fail
      refine (C7.out _).mono ?_
      rintro e w' ⟨rfl, rfl⟩
      go_wp2_with fail
      refine (C8.out _).mono ?_
      rintro e w' ⟨rfl, rfl⟩
      go_wp2_with fail
      refine (C9.out _).mono ?_
      rintro e w' ⟨rfl, rfl⟩
      go_wp2_with fail
      refine (C3.out _ HLw3.out).mono ?_
      rintro e w4 ⟨rfl, hb4⟩
      have hB4 := hB3.trans (hb4.mono hB3.size)
      clear hb4 hB3
      have HLw4 := Lib.hid (HL.out.below hB4 (Nat.le_refl _))
      go_wp2_with fail
      refine (C4.out _ HLw4.out).mono ?_
      rintro e w5 ⟨rfl, hb5⟩
      have hB5 := hB4.trans (hb5.mono hB4.size)
      clear hb5 hB4
      have HLw5 := Lib.hid (HL.out.below hB5 (Nat.le_refl _))
      go_wp2_with fail
      refine (HAW.out _).mono ?_
      rintro e w' ⟨rfl, hbz⟩
      go_wp2_with fail
      go_ret
      exact ⟨rfl, hB5.trans (hbz.mono hB5.size)⟩
    · have hxz : ((x : Int) == (z : Int)) = false := by rw [beq_eq_false_iff_ne]; omega
      have hst : (s.toList == t.toList) = false := strEq_false fun e => by
        have := dayText_inj hx1 hz1 (by rw [← HS.out, ← HT.out]; exact e)
        omega
      have hle1 := HLE1.out (by omega)
      have hle2 := HLE2.out (by omega)
      have hng : ¬ (z : Int) < (x : Int) := by omega
      clear hgt heq HLE1 HLE2
      go_enter Tryd.func4, Tryd.ntmps4
      go_wp2_with fail
      rw [← HX.out, ← HZ.out]
      refine (C1.out _).mono ?_
      rintro e w1 ⟨rfl, hb1⟩
      have hB1 := hb1
      clear hb1
      have HLw1 := Lib.hid (HL.out.below hB1 (Nat.le_refl _))
      go_wp2_with fail
      refine (C2.out _).mono ?_
      rintro e w' ⟨rfl, rfl⟩
      go_wp2_with fail
      refine (C3.out _ HLw1.out).mono ?_
      rintro e w2 ⟨rfl, hb2⟩
      have hB2 := hB1.trans (hb2.mono hB1.size)
      clear hb2 hB1
      have HLw2 := Lib.hid (HL.out.below hB2 (Nat.le_refl _))
      go_wp2_with fail
      refine (C5.out _ HLw2.out).mono ?_
      rintro e w3 ⟨rfl, hb3⟩
      have hB3 := hB2.trans (hb3.mono hB2.size)
      clear hb3 hB2
      have HLw3 := Lib.hid (HL.out.below hB3 (Nat.le_refl _))
      go_wp2_with fail
      refine (C6.out _).mono ?_
      rintro e w' ⟨rfl, rfl⟩
      go_wp2_with fail
      refine (C8.out _).mono ?_
      rintro e w' ⟨rfl, rfl⟩
      go_wp2_with fail
      refine (C6.out _).mono ?_
      rintro e w' ⟨rfl, rfl⟩
      go_wp2_with fail
      refine (C7.out _).mono ?_
      rintro e w' ⟨rfl, rfl⟩
      go_wp2_with fail
      refine (C8.out _).mono ?_
      rintro e w' ⟨rfl, rfl⟩
      go_wp2_with fail
      refine (C9.out _).mono ?_
      rintro e w' ⟨rfl, rfl⟩
      go_wp2_with fail
      refine (C3.out _ HLw3.out).mono ?_
      rintro e w4 ⟨rfl, hb4⟩
      have hB4 := hB3.trans (hb4.mono hB3.size)
      clear hb4 hB3
      have HLw4 := Lib.hid (HL.out.below hB4 (Nat.le_refl _))
      go_wp2_with fail
      refine (C4.out _ HLw4.out).mono ?_
      rintro e w5 ⟨rfl, hb5⟩
      have hB5 := hB4.trans (hb5.mono hB4.size)
      clear hb5 hB4
      have HLw5 := Lib.hid (HL.out.below hB5 (Nat.le_refl _))
      go_wp2_with fail
      refine (HAW.out _).mono ?_
      rintro e w' ⟨rfl, hbz⟩
      go_wp2_with fail
      go_ret
      exact ⟨rfl, hB5.trans (hbz.mono hB5.size)⟩

end Go.Proofs.YtgnjboebnobjcaaDoor
