/- The days of a tax are business days, do not fall, lie at most two days behind those from which they were moved, and are as many as it says: for every tape. -/
import Derived.Test.YtebgfbcojhmdlaaDoorTaS
set_option linter.unusedSimpArgs false
set_option linter.unusedVariables false
namespace Go.Proofs.YtebgfbcojhmdlaaDoor
open Go.RowKit Go.Lib Go.Proofs

set_option maxRecDepth 100000 in
set_option maxHeartbeats 16000000 in
theorem taxdays_any (v : Value) (n : Nat) (w : World) (hi : IntsAt w v n w.heap.size) (hn : n ≤ 9223372036854775807) (hL : Lay w) :
    Calls Tryd.prog 4 #[v] w fun e w' => e = .returned (.bool true) ∧ Below w.heap.size w w' := by
  have HNEW := Lib.hid (sNew_any v n w hi hn)
  have HLAY := Lib.hid (fun W (hW : Below w.heap.size w W) => hL.below hW (Nat.le_refl _))
  clear hi hn hL
  go_enter Tryd.func4, Tryd.ntmps4
  go_wp2_with fail
  refine (HNEW.out).mono ?_
  rintro e w1 ⟨rfl, t1, b1⟩
  obtain ⟨tb, htb⟩ : ∃ tb, tb = w.heap.size := ⟨_, rfl⟩
  rw [← htb] at t1 ⊢
  have HTB := Lib.hid htb
  have HST := Lib.hid (sTax_any tb w1 t1)
  have HFIN : Hid (∀ W, SI w1 tb W → Below w.heap.size w W) := Lib.hid fun W hW => b1.grown hW.old b1.size (fun q e => by injection e with e; omega)
  clear t1 b1 HNEW htb
  go_wp2_with fail
  refine (HST.out).mono ?_
  rintro e w2 ⟨t, rfl, hts, hsi⟩
  have HB2 := Lib.hid (HFIN.out _ hsi)
  have HTG := Lib.hid hts.ok
  have htb := hts.base
  clear hts hsi HST HFIN
  have HPL := Lib.hid (fun (i : Nat) (hi : i ≤ 10) => plan_in HTG.out hi)
  have HDY := Lib.hid (fun (i : Nat) (hi : i ≤ 10) => day_facts HTG.out hi)
  have HMO := Lib.hid (fun (i : Nat) (hi : i ≤ 9) => day_mono HTG.out hi)
  have HPD : Hid (∀ i : Nat, planT t i = t.fst + (i : Int) * t.evr * 30) := Lib.hid fun i => rfl
  have HDS := Lib.hid (fun W (hW : Below w.heap.size w W) => taDays_ok HTG.out W (HLAY.out W hW))
  have HDG := Lib.hid (fun i (hi : i < t.tms.toNat) => daysT_get t hi)
  obtain ⟨m, hm⟩ : ∃ m, m = t.tms.toNat := ⟨_, rfl⟩
  have h7 := HTG.out.tms
  have hm7 : t.tms = (m : Int) := by omega
  have h5 := HTG.out.fst
  have h6 := HTG.out.evr
  rw [← hm] at HDS HDG
  obtain ⟨DT, hDT⟩ : ∃ D, D = daysT t m := ⟨_, rfl⟩
  obtain ⟨PT, hPT⟩ : ∃ D, D = planT t := ⟨_, rfl⟩
  obtain ⟨YT, hYT⟩ : ∃ D, D = dayT t := ⟨_, rfl⟩
  have HDL : Hid (DT.length = m) := Lib.hid (by rw [hDT]; exact daysT_len t m)
  rw [← hDT] at HDS HDG
  rw [← hPT] at HPL HPD HDY
  rw [← hYT] at HDG HDY HMO
  clear hm hDT hPT hYT HTG htb
  obtain ⟨c0, c1, c2, c3, c4, c5, c6, c7⟩ := t
  simp only at hm7 h5 h6 h7 HPD HPL
  subst hm7
  simp only [txC] at HDS ⊢
  obtain ⟨w3, hw3⟩ : ∃ W, W = w2.alloc (.cells #[.string c0, .int .i64 c1, .int .i64 c2, .int .i64 c3, .int .i64 c4, .int .i64 c5, .int .i64 c6, .int .i64 (m : Int)] 27) := ⟨_, rfl⟩
  obtain ⟨bX, hbX⟩ : ∃ q, q = w2.heap.size := ⟨_, rfl⟩
  have HB3 : Hid (Below w.heap.size w w3) := Lib.hid (by rw [hw3]; exact HB2.out.alloc HB2.out.size _)
  have HX3 : Hid (w3.heap[bX]? = some (.cells #[.string c0, .int .i64 c1, .int .i64 c2, .int .i64 c3, .int .i64 c4, .int .i64 c5, .int .i64 c6, .int .i64 (m : Int)] 27 (0, 0))) := Lib.hid (by rw [hw3, hbX]; exact heap_alloc_new _ _)
  have HW3 := Lib.hid hw3
  have HBX := Lib.hid hbX
  clear hw3 hbX
  go_upto_region 3 with fail
  rw [← HW3.out, ← HBX.out]
  have hx := HX3.out
  have q0 := obj_cell hx 0
  have q1 := obj_cell hx 1
  have q2 := obj_cell hx 2
  have q3 := obj_cell hx 3
  have q4 := obj_cell hx 4
  have q5 := obj_cell hx 5
  have q6 := obj_cell hx 6
  have q7 := obj_cell hx 7
  simp at q0 q1 q2 q3 q4 q5 q6 q7
  clear hx
  go_wp2_with fail
  refine (HDS.out _ HB3.out).mono ?_
  rintro e w4 ⟨dv, rfl, hod, hb4⟩
  have HB4 := Lib.hid (HB3.out.trans (hb4.mono HB3.out.size))
  have HX4 := Lib.hid (obj_below HX3.out hb4)
  obtain ⟨ad, cd, rfl, -, -⟩ := owns_gen hod
  have HOD := Lib.hid hod
  clear q0 q1 q2 q3 q4 q5 q6 q7 hb4 hod HX3 HB3
  go_wp2
  go_loopw [17] (fun iv wr => ∃ i : Nat, iv = .int .i64 (i : Int) ∧ i ≤ m ∧ wr = w4) (fun iv _ => m - (RowKit.intOf iv).toNat)
  case atStart => exact ⟨0, rfl, by omega, rfl⟩
  case round =>
    obtain ⟨i, rfl, hin, rfl⟩ := hrel
    have hx := HX4.out
    have kc0 := obj_cell hx 0
    have kc1 := obj_cell hx 1
    have kc2 := obj_cell hx 2
    have kc3 := obj_cell hx 3
    have kc4 := obj_cell hx 4
    have kc5 := obj_cell hx 5
    have kc6 := obj_cell hx 6
    have kc7 := obj_cell hx 7
    simp at kc0 kc1 kc2 kc3 kc4 kc5 kc6 kc7
    clear hx
    by_cases hlt : i < m
    · obtain ⟨gd, cd', hsl, hgd, -⟩ := owns_shape HOD.out (by omega)
      simp only [Value.slice.injEq, true_and] at hsl
      obtain ⟨rfl, rfl⟩ := hsl
      have hdc : wr.cell? ⟨gd, i, none⟩ = some (.int .i64 (YT i)) := by
        have h1 := HOD.out.cellAt i (by omega)
        rw [h1, cellsI_get DT i (by rw [HDL.out]; exact hlt), HDG.out i hlt]
      have hdp : ∀ k, i = k + 1 → wr.cell? ⟨gd, k, none⟩ = some (.int .i64 (YT k)) ∧ YT k ≤ YT i := fun k hk => by
        have h1 := HOD.out.cellAt k (by omega)
        refine ⟨by rw [h1, cellsI_get DT k (by rw [HDL.out]; omega), HDG.out k (by omega)], ?_⟩
        rw [hk]
        exact HMO.out k (by omega)
      obtain ⟨p0, p1, p2, p3⟩ := HPL.out i (by omega)
      obtain ⟨y0, y1, y2, y3⟩ := HDY.out i (by omega)
      obtain ⟨q, hq⟩ : ∃ q, q = (i : Int) * c6 := ⟨_, rfl⟩
      have hpd := HPD.out i
      rw [← hq] at p2 p3 hpd
      have hmul : 30 * c6 * (i : Int) = q * 30 := by rw [Int.mul_assoc, Int.mul_comm c6, ← hq, Int.mul_comm]
      have hw1 : IntKind.i64.wrap (30 * c6) = 30 * c6 := IntWalk.i64_in _ (by omega)
      have hw2 : IntKind.i64.wrap (30 * c6 * (i : Int)) = q * 30 := by rw [hmul]; exact IntWalk.i64_in _ (by omega)
      have hw3 : IntKind.i64.wrap (c5 + q * 30) = PT i := by rw [hpd]; exact IntWalk.i64_in _ (by omega)
      have hw4 : IntKind.i64.wrap (PT i + 2) = PT i + 2 := IntWalk.i64_in _ (by omega)
      have hi0 : (0 : Int) ≤ (i : Int) := by omega
      have hi1 : (i : Int) < (m : Int) := by omega
      have hwi : IntKind.i64.wrap ((i : Int) + 1) = (i : Int) + 1 := IntWalk.i64_in _ (by omega)
      have hpz : i = 0 → c5 = PT i := fun h => by
        have : q = 0 := by rw [hq, h]; simp
        rw [hpd, this]; omega
      clear hpd hq hmul p0 p1 p2 p3
      have HDP := Lib.hid hdp
      generalize PT i = pl at *
      generalize hyi : YT i = y at *
      have hy4 : ¬ 4 < y % 7 := by omega
      have hy4t : ¬ 4 < y.tmod 7 := by rw [Int.tmod_eq_emod_of_nonneg y3]; omega
      have hyp : ¬ y < pl := by omega
      have hyp2 : ¬ pl + 2 < y := by omega
      clear hyi hdp y0 y1 y2
      cases i with
      | zero =>
        obtain rfl := hpz rfl
        go_wp2
        go_roundw
        case rel => exact ⟨1, by first | rfl | go_num, by omega, by first | trivial | rfl⟩
        case measure => simp [RowKit.intOf]; omega
      | succ k =>
        obtain ⟨hdk, hle⟩ := HDP.out k rfl
        clear hpz
        generalize YT k = z at *
        have hik : ((k + 1 : Nat) : Int) = (k : Int) + 1 := by omega
        rw [hik] at hw2 hi0 hi1 hwi
        have hwk : IntKind.i64.wrap ((k : Int) + 1 - 1) = (k : Int) := by rw [show (k : Int) + 1 - 1 = (k : Int) by omega]; exact IntWalk.i64_in _ (by omega)
        have hk0 : (0 : Int) ≤ (k : Int) := by omega
        have hk1 : (k : Int) < (m : Int) := by omega
        have hnz : (0 : Int) < (k : Int) + 1 := by omega
        have htn : ((k : Int) + 1).toNat = k + 1 := by omega
        clear hik
        have hzy : ¬ y < z := by omega
        go_wp2
        go_roundw
        case rel => exact ⟨k + 1 + 1, by first | rfl | go_num, by omega, by first | trivial | rfl⟩
        case measure => simp [RowKit.intOf]; omega
    · obtain rfl : m = i := by omega
      have HSN := Lib.hid (sane28_true wr (HLAY.out _ HB4.out))
      go_wp2_with fail
      refine (HSN.out).mono ?_
      rintro e w9 ⟨rfl, hb9⟩
      have HB9 := Lib.hid (HB4.out.trans (hb9.mono HB4.out.size))
      clear hb9
      go_wp2
      go_ret
      exact ⟨rfl, HB9.out⟩

end Go.Proofs.YtebgfbcojhmdlaaDoor
