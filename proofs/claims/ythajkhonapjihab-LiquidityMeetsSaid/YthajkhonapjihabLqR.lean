/- liquidity.Right, on the plans made for positions. -/
import Derived.Test.YthajkhonapjihabLqZ
set_option linter.unusedSimpArgs false
set_option linter.unusedVariables false
namespace Go.Proofs.Ythajkhonapjihab
open Go.RowKit Go.Lib Go.Proofs

set_option maxRecDepth 100000 in
set_option maxHeartbeats 4000000 in
theorem lqRight_ok {b : Bnd} (h : BndOk b) {l : List Pos} (hp : PosIn l) (hok : ∀ x ∈ l, okB b x.amt = true) (v u : Value) (w : World) (hv : ListAt posC 2 w v l) (hu : ListAt plC 3 w u (plansM b l)) :
    Calls Try.prog 26 #[.agg b.cells.toArray, v, u] w fun e w' => e = .returned (.bool true) ∧ Below w.heap.size w w' := by
  have hpp := daysP_pair hp
  have hq := plans_pair b hpp
  have hsub := plans_sub b l
  have hplen : (plansM b l).length ≤ 1000 := by have := plansM_len b l; have := hp.len; omega
  have hl1 : (daysP l).length ≤ 1000000 := by rw [daysP_len]; have := hp.len; omega
  have hl2 : (daysL (plansM b l)).length ≤ 1000000 := by rw [daysL_len]; omega
  have HPA := Lib.hid (fun x (hx : x ∈ l) hd => plan_at (b := b) hpp hx hd)
  have HPN := Lib.hid (fun x (hx : x ∈ l) hd => plans_none (b := b) h hx hd)
  have HDP := Lib.hid (fun W (hW : Below w.heap.size w W) => lqdaysP_ok l hp.len v W (hv.below hW))
  have HFL := Lib.hid (fun W (hW : Below w.heap.size w W) => lqfault_ok h hp v W (hv.below hW))
  have HEN := Lib.hid (fun x (hx : x ∈ l) W => (lqenough_any h x.amt (decR b x.amt) (decP b x.amt) (hp.amt x hx).1 (hp.amt x hx).2 W).mono fun e w' (k : _ ∧ _) => show e = .returned (.bool true) ∧ Below W.heap.size W w' from ⟨by rw [k.1, enough_dec (hok x hx)], k.2⟩)
  have HRC := Lib.hid (fun W (hW : Below w.heap.size w W) => plContains_any 58 #[] (enters_of Try.func58 (by kernel_rfl) rfl) (fun _ => false) (plansM b l) u W (hu.below hW) (by omega) fun x hx W _ => by
    obtain ⟨y, hy, _, hz⟩ := plans_mem hx
    have := lqRightC_ok x.day (r := x.raise) (p := x.place) (by omega) W
    simpa [plC] using this)
  rw [show ((plansM b l).any fun _ => false) = false from List.any_eq_false.2 fun x hx => by simp] at HRC
  generalize plansM b l = ps at *
  have HDL := Lib.hid (fun W (hW : Below w.heap.size w W) => lqdaysL_ok ps hplen u W (hu.below hW))
  have HA2 := Lib.hid (fun z W (hz : RowG W z ps.length 1 (cellsI (daysL ps))) => lqascend_ok (daysL ps) (daysL_ok hp hq hsub).1 (daysL_ok hp hq hsub).2 (by rw [daysL_len]; exact hplen) z W ps.length (daysL_len ps).symm hz)
  have HCV := Lib.hid (fun z1 z2 W (h1 : NumsAt W z1 (daysP l)) (h2 : NumsAt W z2 (daysL ps)) => lqcovered_ok (daysP l) (daysL ps) hl1 hl2 (pair_le hpp) hsub z1 z2 W h1 h2)
  have HBS := Lib.hid (fun x z W (h1 : NumsAt W z (daysL ps)) => bs_any (daysL ps) x z W h1 hl2 (pair_le hq))
  obtain ⟨ao, cap, rfl, hcap, hc⟩ := hv.shape posF
  obtain ⟨bo, cap2, rfl, hcap2, hc2⟩ := hu.shape plF
  have hlen := hp.len
  unfold DaysPPost at HDP
  unfold DaysLPost at HDL
  obtain ⟨n, hn⟩ : ∃ n, n = l.length := ⟨_, rfl⟩
  obtain ⟨m, hm⟩ : ∃ m, m = ps.length := ⟨_, rfl⟩
  have HN := Lib.hid hn
  have HM := Lib.hid hm
  have HC := Lib.hid hc
  have HC2 := Lib.hid hc2
  rw [← hn] at HDP HFL hlen hcap ⊢
  rw [← hm] at HDL HRC HA2 hplen hcap2 ⊢
  have HX := Lib.hid (show BInv w w.heap.size b (w.alloc (.cells b.cells.toArray 48)) from ⟨heap_alloc_new w _, below_alloc w _⟩)
  clear h hp hok hv hu hc hc2 hpp hq hsub hl1 hl2 hn hm
  obtain ⟨lo, hi, lt, mr, mp⟩ := b
  simp only [Bnd.cells] at HFL HEN HX ⊢
  go_enter Try.func26, Try.ntmps26
  go_wp2_with fail
  with_reducible refine (HDP.out _ HX.out.old).mono ?_
  rintro e w1 ⟨z1, rfl, ho1, b1⟩
  have HX1 := Lib.hid (HX.out.below b1)
  have HZ1 := Lib.hid (RowG.owns ho1)
  clear ho1 b1 HX
  go_wp2_with fail
  with_reducible refine (HDL.out _ HX1.out.old).mono ?_
  rintro e w2 ⟨z2, rfl, ho2, b2⟩
  have HX2 := Lib.hid (HX1.out.below b2)
  have HY1 := Lib.hid (RowG.below HZ1.out b2)
  have HY2 := Lib.hid (RowG.owns ho2)
  clear ho2 b2 HX1 HZ1
  have hcs := fun k => obj_cell HX2.out.box k
  have s0 := hcs 0
  have s1 := hcs 1
  have s2 := hcs 2
  have s3 := hcs 3
  have s4 := hcs 4
  simp [Bnd.cells] at s0 s1 s2 s3 s4
  clear hcs
  go_wp2_with fail
  with_reducible refine (HFL.out _ HX2.out.old).mono ?_
  rintro e w3 ⟨rfl, b3⟩
  clear s0 s1 s2 s3 s4
  have HX3 := Lib.hid (HX2.out.below b3)
  have HV1 := Lib.hid (RowG.below HY1.out b3)
  have HV2 := Lib.hid (RowG.below HY2.out b3)
  clear b3 HX2 HY1 HY2
  go_wp2_with fail
  with_reducible refine (HA2.out _ _ HV2.out).mono ?_
  rintro e w4 ⟨rfl, b4⟩
  have HX4 := Lib.hid (HX3.out.below b4)
  have HU1 := Lib.hid (RowG.below HV1.out b4)
  have HU2 := Lib.hid (RowG.below HV2.out b4)
  clear b4 HX3 HV1 HV2
  go_wp2_with fail
  with_reducible refine (HCV.out _ _ _ (nums_list.2 (by unfold ListAt; rw [daysP_len, cellsL_int, ← HN.out]; exact HU1.out)) (nums_list.2 (by unfold ListAt; rw [daysL_len, cellsL_int, ← HM.out]; exact HU2.out))).mono ?_
  rintro e w5 ⟨rfl, b5⟩
  have HX5 := Lib.hid (HX4.out.below b5)
  have HT2 := Lib.hid (RowG.below HU2.out b5)
  clear b5 HX4 HU1 HU2
  go_wp2_with fail
  with_reducible refine (HRC.out _ HX5.out.old).mono ?_
  rintro e w6 ⟨rfl, b6⟩
  have HX6 := Lib.hid (HX5.out.below b6)
  have HN6 := Lib.hid (show NumsAt w6 z2 (daysL ps) from nums_list.2 (by unfold ListAt; rw [daysL_len, cellsL_int, ← HM.out]; exact RowG.below HT2.out b6))
  clear b6 HX5 HT2
  go_wp2
  go_loopw [37] (fun iv wr => ∃ (j : Nat), iv = .int .i64 (j : Int) ∧ j ≤ n ∧ Hid (Below w6.heap.size w6 wr)) (fun iv _ => n - (RowKit.intOf iv).toNat)
  case atStart => exact ⟨0, rfl, by omega, Lib.hid (Below.refl _ _)⟩
  case round =>
    obtain ⟨j, rfl, hj, HB⟩ := hrel
    have HXR := Lib.hid (HX6.out.below HB.out)
    by_cases hlt : j < n
    · have hlx : j < l.length := by rw [← HN.out]; exact hlt
      obtain ⟨bk, of, rfl, hbk, hcc⟩ := HC.out (by omega)
      have hcell := fun q (hq : q < 2) => (HXR.out.old.cell (p := ⟨bk, of + j * 2 + q, none⟩) hbk).trans (hcc j hlx q hq)
      have hx := List.getElem_mem hlx
      have HE := Lib.hid (fun W => HEN.out _ hx W)
      have HK := Lib.hid (HPA.out _ hx)
      have HNO := Lib.hid (HPN.out _ hx)
      have HSE := Lib.hid (fun W (hW : Below w6.heap.size w6 W) => HBS.out l[j].day z2 W (HN6.out.below hW))
      generalize l[j] = x at *
      obtain ⟨xd, xa⟩ := x
      have d0 := hcell 0 (by omega)
      have d1 := hcell 1 (by omega)
      simp [posC] at d0 d1
      simp only at HE HK HNO HSE
      have hj0 : (0 : Int) ≤ (j : Int) := by omega
      have hj1 : (j : Int) < (n : Int) := by omega
      clear hcell hcc hx HEN HPA HPN HBS
      have HB2 := Lib.hid (HB.out.trans ((below2 wr (.cells #[.int .i64 xd, .int .i64 xa] 56) (.cells #[.int .i64 0, .int .i64 0, .int .i64 0] 81)).mono HB.out.size))
      have HA := Lib.hid (alloc2_at wr (.cells #[.int .i64 xd, .int .i64 xa] 56) (.cells #[.int .i64 0, .int .i64 0, .int .i64 0] 81))
      by_cases hmem : xd ∈ daysL ps
      · obtain ⟨k, hk, hcount, hpk⟩ := HK.out hmem
        rw [hcount, show (daysL ps).contains xd = true by simpa using hmem] at HSE
        obtain ⟨bk2, of2, rfl, hbk2, hcc2⟩ := HC2.out (by omega)
        have hcell2 := fun q (hq : q < 3) => hcc2 k hk q hq
        rw [hpk] at hcell2
        have HCE := Lib.hid (fun W (hW : Below w.heap.size w W) q (hq : q < 3) => (hW.cell (p := ⟨bk2, of2 + k * 3 + q, none⟩) hbk2).trans (hcell2 q hq))
        have hk0 : (0 : Int) ≤ (k : Int) := by omega
        have hk1 : (k : Int) < (m : Int) := by have := HM.out; omega
        have HBK := Lib.hid hbk2
        clear hcc2 hcell2 hmem hcount hpk HK HNO hbk2
        go_wp2_with fail
        with_reducible refine (HSE.out _ HB2.out).mono ?_
        rintro e w7 ⟨rfl, b7⟩
        have HB7 := Lib.hid ((HB2.out.trans (b7.mono HB2.out.size)))
        have HX7 := Lib.hid (HX6.out.below HB7.out)
        have hb1 := obj_below (alloc1_at wr (.cells #[.int .i64 xd, .int .i64 xa] 56) (.cells #[.int .i64 0, .int .i64 0, .int .i64 0] 81)) b7
        have hb2 := obj_below (alloc2_at wr (.cells #[.int .i64 xd, .int .i64 xa] 56) (.cells #[.int .i64 0, .int .i64 0, .int .i64 0] 81)) b7
        have a1 := obj_cell hb1 1
        have q0 := obj_cell hb2 0
        have q1 := obj_cell hb2 1
        have q2 := obj_cell hb2 2
        have e0 := HCE.out _ HX7.out.old 0 (by omega)
        have e1 := HCE.out _ HX7.out.old 1 (by omega)
        have e2 := HCE.out _ HX7.out.old 2 (by omega)
        have s0 := obj_cell HX7.out.box 0
        have s1 := obj_cell HX7.out.box 1
        have s2 := obj_cell HX7.out.box 2
        have s3 := obj_cell HX7.out.box 3
        have s4 := obj_cell HX7.out.box 4
        simp [Bnd.cells] at a1 q0 q1 q2 s0 s1 s2 s3 s4
        simp [plC] at e0 e1 e2
        have f0 := obj_free hb2 0
        have f1 := obj_free hb2 1
        have f2 := obj_free hb2 2
        have hsz1 : w.heap.size < w6.heap.size := by
          rcases Nat.lt_or_ge w.heap.size w6.heap.size with k1 | k1
          · exact k1
          · have := HX6.out.box
            rw [Array.getElem?_eq_none k1] at this
            cases this
        have hsz2 := HB.out.size
        have hne : w.heap.size ≠ wr.heap.size + 1 := by omega
        have hne2 : wr.heap.size + 1 ≠ w.heap.size := by omega
        have HPB := Lib.hid (put3_below HB7.out (show w6.heap.size ≤ wr.heap.size + 1 by omega) (.int .i64 xd) (.int .i64 (decR ⟨lo, hi, lt, mr, mp⟩ xa)) (.int .i64 (decP ⟨lo, hi, lt, mr, mp⟩ xa)))
        unfold put3 at HPB
        clear b7 hb1 hb2 hsz1 hsz2
        go_wp2_with fail
        with_reducible refine (HE.out _).mono ?_
        rintro e w8 ⟨rfl, b8⟩
        have HB8 := Lib.hid ((HPB.out.trans (b8.mono HPB.out.size)))
        clear b8 a1 q0 q1 q2 s0 s1 s2 s3 s4 e0 e1 e2 f0 f1 f2
        go_wp2
        go_roundw
        case rel => exact ⟨j + 1, by first | rfl | go_num, by omega, HB8⟩
        case measure => simp [RowKit.intOf]; omega
      · have hz := HNO.out hmem
        rw [hz.1, hz.2] at HE
        have hcf : (daysL ps).contains xd = false := by simpa using hmem
        rw [hcf] at HSE
        generalize (daysL ps).countP (fun d => decide (d < xd)) = k at HSE
        clear HK HNO hz hcf hmem
        go_wp2_with fail
        with_reducible refine (HSE.out _ HB2.out).mono ?_
        rintro e w7 ⟨rfl, b7⟩
        have HB7 := Lib.hid ((HB2.out.trans (b7.mono HB2.out.size)))
        have HX7 := Lib.hid (HX6.out.below HB7.out)
        have hb1 := obj_below (alloc1_at wr (.cells #[.int .i64 xd, .int .i64 xa] 56) (.cells #[.int .i64 0, .int .i64 0, .int .i64 0] 81)) b7
        have hb2 := obj_below (alloc2_at wr (.cells #[.int .i64 xd, .int .i64 xa] 56) (.cells #[.int .i64 0, .int .i64 0, .int .i64 0] 81)) b7
        have a1 := obj_cell hb1 1
        have q1 := obj_cell hb2 1
        have q2 := obj_cell hb2 2
        have s0 := obj_cell HX7.out.box 0
        have s1 := obj_cell HX7.out.box 1
        have s2 := obj_cell HX7.out.box 2
        have s3 := obj_cell HX7.out.box 3
        have s4 := obj_cell HX7.out.box 4
        simp [Bnd.cells] at a1 q1 q2 s0 s1 s2 s3 s4
        clear b7 hb1 hb2
        go_wp2_with fail
        with_reducible refine (HE.out _).mono ?_
        rintro e w8 ⟨rfl, b8⟩
        have HB8 := Lib.hid ((HB7.out.trans (b8.mono HB7.out.size)))
        clear b8 a1 q1 q2 s0 s1 s2 s3 s4
        go_wp2
        go_roundw
        case rel => exact ⟨j + 1, by first | rfl | go_num, by omega, HB8⟩
        case measure => simp [RowKit.intOf]; omega
    · obtain rfl : j = n := by omega
      go_wp2
      go_ret
      exact ⟨rfl, HXR.out.old⟩

end Go.Proofs.Ythajkhonapjihab
