/- A sweep keeps the total, another one of the same day moves nothing, and behind it either all rules are kept or the main sub-account has nothing: for every tape. -/
import Derived.Test.YtoelidndnajedaaSwU
import Derived.Test.YtoelidndnajedaaAcL
set_option linter.unusedSimpArgs false
set_option linter.unusedVariables false
namespace Go.Proofs.Ytoelidndnajedaa
open Go.RowKit Go.Lib Go.Proofs

set_option maxRecDepth 100000 in
set_option maxHeartbeats 32000000 in
theorem swkeeps_any (v : Value) (n : Nat) (w : World) (hi : IntsAt w v n w.heap.size) (hn : n ≤ 9223372036854775807) :
    Calls Try.prog 6 #[v] w fun e w' => e = .returned (.bool true) ∧ Below w.heap.size w w' := by
  have HNEW := Lib.hid (sNew_any v n w hi hn)
  have HSN := Lib.hid sane24_true
  clear hi hn
  go_enter Try.func6, Try.ntmps6
  go_wp2_with fail
  refine (HNEW.out).mono ?_
  rintro e w1 ⟨rfl, t1, b1⟩
  obtain ⟨tb, htb⟩ : ∃ tb, tb = w.heap.size := ⟨_, rfl⟩
  rw [← htb] at t1 ⊢
  have HACC : Hid (Calls Try.prog 10 #[.pointer (some ⟨tb, 0, none⟩), .int .i64 10] w1 (AccPost tb 10 w1)) := Lib.hid (sAccount_any tb 10 w1 t1 (by decide))
  have HW1 := Lib.hid b1
  have HTB := Lib.hid htb
  clear t1 b1 HNEW htb
  go_wp2_with fail
  refine (HACC.out).mono ?_
  rintro e w2 ⟨a, su, en, rfl, hmd, hs, he, hsi, hcr⟩
  obtain ⟨aS, cS, rfl, -, -⟩ := hs.shape
  obtain ⟨aE, cE, rfl, -, -⟩ := entsAt_shape he
  have HKP := Lib.hid (sKeeps_any tb w2 hsi.src)
  have HSI2 := Lib.hid hsi
  have HS2 := Lib.hid hs
  have HE2 := Lib.hid he
  have HMD := Lib.hid hmd
  have HB2 := Lib.hid ((HW1.out).grown hsi.old HW1.out.size (fun q e => by injection e with e; rw [← e, ← HTB.out]; exact Nat.le_refl _))
  clear hsi hs he hmd HACC
  go_wp2_with fail
  refine (HKP.out).mono ?_
  rintro e w3 ⟨kv, ks, rfl, hku, hko, hsi3⟩
  have hS3 := HS2.out.turn HSI2.out.src hsi3.old
  have hE3 := HE2.out.turn HSI2.out.src hsi3.old
  have hK3 : KeepsAt w3 kv ks := ListAt.owns hko
  have hB3 := HB2.out.grown hsi3.old HB2.out.size (fun q e => by injection e with e; rw [← e, ← HTB.out]; exact Nat.le_refl _)
  obtain ⟨aK, cK, rfl, -, -⟩ := hK3.open
  have hko : keepsB a.subs 0 true ks = true := hku.right HMD.out.ids
  have HSRC3 := Lib.hid hsi3.src
  obtain ⟨nS, hnS⟩ : ∃ k, k = a.subs.length := ⟨_, rfl⟩
  obtain ⟨nE, hnE⟩ : ∃ k, k = a.ents.length := ⟨_, rfl⟩
  obtain ⟨nK, hnK⟩ : ∃ k, k = ks.length := ⟨_, rfl⟩
  obtain ⟨cr, hcr2⟩ : ∃ c, c = a.credit := ⟨_, rfl⟩
  rw [← hnS] at hS3
  rw [← hnE] at hE3
  rw [← hnK] at hK3
  rw [← hnS, ← hnE, ← hcr2]
  try rw [← hnK]
  have HKU := Lib.hid hku
  have HKO := Lib.hid hko
  have HNS := Lib.hid hnS
  have HNE := Lib.hid hnE
  have HNK := Lib.hid hnK
  have HCR := Lib.hid hcr2
  have hz := checkM_zero.1 HMD.out.right
  have hns20 : nS ≤ 20 := by rw [hnS]; exact hz.1
  have hne4 : nE ≤ 10 := by rw [hnE]; exact HMD.out.len
  have hnk3 : nK ≤ 3 := by rw [hnK]; exact hku.len
  clear hku hko hsi3 hnS hnE hnK hcr2 hz hcr HKP HSI2 HS2 HE2 HB2
  go_upto_region 3 with fail
  obtain ⟨w4, hw4⟩ : ∃ w4, w4 = w3.alloc (.cells #[.int .i64 cr, .slice aS nS cS, .slice aE nE cE] 28) := ⟨_, rfl⟩
  obtain ⟨bA, hbA⟩ : ∃ bA, bA = w3.heap.size := ⟨_, rfl⟩
  have HBA : Hid (w4.heap[bA]? = some (.cells #[.int .i64 cr, .slice aS nS cS, .slice aE nE cE] 28 (0, 0))) := Lib.hid (by rw [hw4, hbA]; exact heap_alloc_new _ _)
  have HSA : Hid (SubsAt w4 (.slice aS nS cS) a.subs) := Lib.hid (by rw [hw4]; exact hS3.below (below_alloc _ _))
  have HEA : Hid (EntsAt w4 (.slice aE nE cE) a.ents) := Lib.hid (by rw [hw4]; exact hE3.below (below_alloc _ _))
  have HKA : Hid (KeepsAt w4 (.slice aK nK cK) ks) := Lib.hid (by rw [hw4]; exact hK3.below (below_alloc _ _))
  have HB4 : Hid (Below w.heap.size w w4) := Lib.hid (by rw [hw4]; exact hB3.alloc hB3.size _)
  rw [← hw4, ← hbA]
  clear hw4 hbA hS3 hE3 hK3 hB3 HSRC3
  have htop := HMD.out.top (by omega)
  have hsum := sumM_le htop
  have hids : a.subs.length = 4 := by have := congrArg List.length HMD.out.ids; simpa using this
  have hday := HMD.out.day
  obtain ⟨es, b, hsw⟩ := sweep_all (day := 50) HMD.out.right HKO.out (by omega) (by omega) (by omega) (by rw [hids] at hsum; omega) (by rw [← HNE.out, ← HNK.out]; omega)
  have HSW := Lib.hid hsw
  have HBIG : Hid (∀ k ∈ ks, balOf a.subs k.sub ≤ 1000000000000) := Lib.hid fun k _ => by
    have := balOf_le htop (by omega) k.sub
    omega
  have HRB := Lib.hid hsw.run.right
  have HPOST : Hid (∀ W, Below w4.heap.size w4 W → Calls Try.prog 16 #[.agg #[.int .i64 cr, .slice aS nS cS, .slice aE nE cE], .slice aK nK cK, .int .i64 50] W fun e w' => ∃ (aX aY : Option Addr) (nX cX nY cY : Nat) (cb : Int), e = .returned (.tuple #[.agg #[.int .i64 cb, .slice aX nX cX, .slice aY nY cY], .int .i64 0]) ∧ cb = b.credit ∧ nX = b.subs.length ∧ nY = b.ents.length ∧ SubsAt w' (.slice aX nX cX) b.subs ∧ EntsAt w' (.slice aY nY cY) b.ents ∧ Below W.heap.size W w') := Lib.hid fun W hW => by
    have h := swSweep_right a b ks (.slice aS nS cS) (.slice aE nE cE) (.slice aK nK cK) 50 es W (HSA.out.below hW) (HEA.out.below hW) (HKA.out.below hW) (by rw [← HNK.out]; omega) HSW.out.plan HSW.out.run.posts
    rw [← HCR.out] at h
    refine h.mono ?_
    rintro e w' ⟨su, en, h1, h2, h3, h4⟩
    obtain ⟨aX, cX, rfl, -, -⟩ := h2.shape
    obtain ⟨aY, cY, rfl, -, -⟩ := entsAt_shape h3
    exact ⟨aX, aY, _, cX, _, cY, _, h1, rfl, rfl, rfl, h2, h3, h4⟩
  clear htop hsum hids hday hsw
  have hbx := HBA.out
  have u0 := obj_cell hbx 0
  have u1 := obj_cell hbx 1
  have u2 := obj_cell hbx 2
  simp at u0 u1 u2
  clear hbx
  go_wp2_with fail
  refine (HPOST.out _ (Below.refl _ _)).mono ?_
  rintro e w5 ⟨aX, aY, nX, cX, nY, cY, cb, rfl, hcb, hnX, hnY, hs5, he5, hb5⟩
  have HCB := Lib.hid hcb
  have HNX := Lib.hid hnX
  have HNY := Lib.hid hnY
  have hbz := checkM_zero.1 HRB.out
  have hnx20 : nX ≤ 20 := by rw [hnX]; exact hbz.1
  have hny4 : nY ≤ 400 := by rw [hnY]; exact hbz.2.1
  clear u0 u1 u2 HPOST hcb hnX hnY hbz
  go_upto_region 4 with fail
  obtain ⟨w6, hw6⟩ : ∃ w6, w6 = w5.alloc (.cells #[.int .i64 cb, .slice aX nX cX, .slice aY nY cY] 28) := ⟨_, rfl⟩
  obtain ⟨bB, hbB⟩ : ∃ bB, bB = w5.heap.size := ⟨_, rfl⟩
  have HB6 : Hid (Below w4.heap.size w4 w6) := Lib.hid (by rw [hw6]; exact hb5.alloc hb5.size _)
  have HXB : Hid (w6.heap[bB]? = some (.cells #[.int .i64 cb, .slice aX nX cX, .slice aY nY cY] 28 (0, 0))) := Lib.hid (by rw [hw6, hbB]; exact heap_alloc_new _ _)
  have HXA := Lib.hid (obj_below HBA.out HB6.out)
  have HSB : Hid (SubsAt w6 (.slice aX nX cX) b.subs) := Lib.hid (by rw [hw6]; exact hs5.below (below_alloc _ _))
  have HEB : Hid (EntsAt w6 (.slice aY nY cY) b.ents) := Lib.hid (by rw [hw6]; exact he5.below (below_alloc _ _))
  have HK6 := Lib.hid (HKA.out.below HB6.out)
  have HS6 := Lib.hid (HSA.out.below HB6.out)
  have HE6 := Lib.hid (HEA.out.below HB6.out)
  have HW6 := Lib.hid (HB4.out.trans (HB6.out.mono HB4.out.size))
  rw [← hw6, ← hbB]
  clear hw6 hbB hs5 he5 hb5 HSA HEA HKA HBA HB4
  have HKB : Hid (keepsB b.subs 0 true ks = true) := Lib.hid (HKU.out.right (HSW.out.run.ids.trans HMD.out.ids))

  have HPLN : Hid (∀ W, Below w6.heap.size w6 W → Calls Try.prog 21 #[.agg #[.int .i64 cb, .slice aX nX cX, .slice aY nY cY], .slice aK nK cK, .int .i64 50] W fun e w' => ∃ (aP : Option Addr) (cP : Nat), e = .returned (.tuple #[.slice aP 0 cP, .int .i64 0]) ∧ Below W.heap.size W w') := Lib.hid fun W hW => by
    have h := swPlan_right b ks (.slice aX nX cX) (.slice aY nY cY) (.slice aK nK cK) 50 [] W (HSB.out.below hW) (HEB.out.below hW) (HK6.out.below hW) (by rw [← HNK.out]; omega) (swept_again HSW.out HKO.out (by omega) HBIG.out)
    rw [← HCB.out] at h
    refine h.mono ?_
    rintro e w' ⟨ao, cap, h1, -, h2⟩
    exact ⟨ao, cap, h1, h2⟩
  have hbx := HXB.out
  have u0 := obj_cell hbx 0
  have u1 := obj_cell hbx 1
  have u2 := obj_cell hbx 2
  simp at u0 u1 u2
  clear hbx
  go_wp2_with fail
  refine (HPLN.out _ (Below.refl _ _)).mono ?_
  rintro e w7 ⟨aP, cP, rfl, hb7⟩
  have HB7 := Lib.hid hb7
  obtain ⟨mn, hmn⟩ : ∃ x, x = balOf b.subs 1 := ⟨_, rfl⟩
  have HBAL : Hid (∀ W, Below w6.heap.size w6 W → Calls Try.prog 19 #[.agg #[.int .i64 cb, .slice aX nX cX, .slice aY nY cY], .int .i64 1] W fun e w' => e = .returned (.tuple #[.int .i64 mn, .bool true]) ∧ Below W.heap.size W w') := Lib.hid fun W hW => by
    have h := raBalance_any b (.slice aX nX cX) (.slice aY nY cY) 1 W (HSB.out.below hW) (HEB.out.below hW) (by rw [← HNX.out]; omega) (by rw [← HNY.out]; omega)
    have hbm : balanceM b 1 = (mn, true) := by
      unfold balanceM
      rw [if_pos HRB.out, hmn]
      unfold balOf
      rw [right_one HRB.out]
    rw [hbm, ← HCB.out] at h
    exact h
  have HMN := Lib.hid hmn
  have hbx := obj_below HXB.out HB7.out
  have v0 := obj_cell hbx 0
  have v1 := obj_cell hbx 1
  have v2 := obj_cell hbx 2
  simp at v0 v1 v2
  clear hbx hb7 hmn u0 u1 u2 HPLN
  go_wp2_with fail
  refine (HBAL.out _ HB7.out).mono ?_
  rintro e w8 ⟨rfl, hb8⟩
  have HB8 := Lib.hid (HB7.out.trans (hb8.mono HB7.out.size))
  clear hb8 v0 v1 v2 HBAL
  go_upto_region 6 with fail
  obtain ⟨J, hJ⟩ : ∃ J, J = fun W : World => Below w8.heap.size w8 W := ⟨_, rfl⟩
  have HJO : Hid (∀ W, J W → Below w8.heap.size w8 W) := Lib.hid fun W hW => by rw [hJ] at hW; exact hW
  have HJI : Hid (∀ W, Below w8.heap.size w8 W → J W) := Lib.hid fun W hW => by rw [hJ]; exact hW
  have HJD : Hid (∀ W, J W → J W.drew) := Lib.hid fun W hW => HJI.out _ ((HJO.out W hW).drew)
  have HJ0 : Hid (J w8) := Lib.hid (HJI.out _ (Below.refl _ _))
  have HJW : Hid (∀ W, J W → Below w6.heap.size w6 W) := Lib.hid fun W hW => HB8.out.trans ((HJO.out W hW).mono HB8.out.size)
  have HCLA : Hid (∀ W, J W → ∀ j, W.cell? ⟨bA, j, none⟩ = #[.int .i64 cr, .slice aS nS cS, .slice aE nE cE][j]?) := Lib.hid fun W hW j => obj_cell (obj_below HXA.out (HJW.out W hW)) j
  have HCLB : Hid (∀ W, J W → ∀ j, W.cell? ⟨bB, j, none⟩ = #[.int .i64 cb, .slice aX nX cX, .slice aY nY cY][j]?) := Lib.hid fun W hW j => obj_cell (obj_below HXB.out (HJW.out W hW)) j
  have HFIN : Hid (∀ W, J W → Below w.heap.size w W) := Lib.hid fun W hW => HW6.out.trans ((HJW.out W hW).mono HW6.out.size)
  have HC9 : Hid (∀ W, J W → Calls Try.prog 18 #[] W fun e w' => e = .returned (.bool true) ∧ J w') := Lib.hid fun W hW =>
    (HSN.out W).mono fun e w' g => ⟨g.1, HJI.out _ ((HJO.out W hW).trans (g.2.mono (HJO.out W hW).size))⟩
  obtain ⟨T, hT⟩ : ∃ T, T = sumM b.subs := ⟨_, rfl⟩
  obtain ⟨hk1, hk2⟩ := swept_kept HSW.out HKO.out HBIG.out
  obtain ⟨sh, hsh⟩ : ∃ x, x = shortL b.subs ks := ⟨_, rfl⟩
  obtain ⟨c, hc⟩ : ∃ c, c = keptL b.subs ks := ⟨_, rfl⟩
  rw [← hc, ← HMN.out] at hk1
  rw [← hc, ← hsh] at hk2
  have HC1 : Hid (∀ W, J W → Calls Try.prog 12 #[.agg #[.int .i64 cb, .slice aX nX cX, .slice aY nY cY]] W fun e w' => e = .returned (.int .i64 T) ∧ J w') := Lib.hid fun W hW => by
    have h := raTotal_any b (.slice aX nX cX) (.slice aY nY cY) W (HSB.out.below (HJW.out W hW)) (HEB.out.below (HJW.out W hW)) (by rw [← HNX.out]; omega) (by rw [← HNY.out]; omega)
    rw [show totalM b = T from (if_pos HRB.out).trans hT.symm, ← HCB.out] at h
    exact h.mono fun e w' g => ⟨g.1, HJI.out _ ((HJO.out W hW).trans (g.2.mono (HJO.out W hW).size))⟩
  have HC2 : Hid (∀ W, J W → Calls Try.prog 12 #[.agg #[.int .i64 cr, .slice aS nS cS, .slice aE nE cE]] W fun e w' => e = .returned (.int .i64 T) ∧ J w') := Lib.hid fun W hW => by
    have h := raTotal_any a (.slice aS nS cS) (.slice aE nE cE) W (HS6.out.below (HJW.out W hW)) (HE6.out.below (HJW.out W hW)) (by rw [← HNS.out]; omega) (by rw [← HNE.out]; omega)
    rw [show totalM a = T from (if_pos HMD.out.right).trans (HSW.out.run.sum.symm.trans hT.symm), ← HCR.out] at h
    exact h.mono fun e w' g => ⟨g.1, HJI.out _ ((HJO.out W hW).trans (g.2.mono (HJO.out W hW).size))⟩
  have HC3 : Hid (∀ W, J W → Calls Try.prog 23 #[.agg #[.int .i64 cb, .slice aX nX cX, .slice aY nY cY], .slice aK nK cK] W fun e w' => e = .returned (.bool c) ∧ J w') := Lib.hid fun W hW => by
    have h := swKept_right b ks (.slice aX nX cX) (.slice aY nY cY) (.slice aK nK cK) W (HSB.out.below (HJW.out W hW)) (HEB.out.below (HJW.out W hW)) (HK6.out.below (HJW.out W hW)) (by rw [← HNK.out]; omega) HRB.out HKB.out
    rw [← hc, ← HCB.out] at h
    exact h.mono fun e w' g => ⟨g.1, HJI.out _ ((HJO.out W hW).trans (g.2.mono (HJO.out W hW).size))⟩
  have HC4 : Hid (∀ W, J W → Calls Try.prog 20 #[.agg #[.int .i64 cb, .slice aX nX cX, .slice aY nY cY], .slice aK nK cK] W fun e w' => e = .returned (.int .i64 sh) ∧ J w') := Lib.hid fun W hW => by
    have h := swShort_right b ks (.slice aX nX cX) (.slice aY nY cY) (.slice aK nK cK) W (HSB.out.below (HJW.out W hW)) (HEB.out.below (HJW.out W hW)) (HK6.out.below (HJW.out W hW)) (by rw [← HNK.out]; omega) HRB.out HKB.out
    rw [← hsh, ← HCB.out] at h
    exact h.mono fun e w' g => ⟨g.1, HJI.out _ ((HJO.out W hW).trans (g.2.mono (HJO.out W hW).size))⟩
  have egT := enters_of Try.func12 (by kernel_rfl) rfl
  have egK := enters_of Try.func23 (by kernel_rfl) rfl
  have egS := enters_of Try.func20 (by kernel_rfl) rfl
  have egX := enters_of Try.func18 (by kernel_rfl) rfl
  have hqT : True := trivial
  clear hJ hT hsh hc HXA HXB HSB HEB HK6 HS6 HE6 HW6 HB7 HB8 HMN HKB HSW HBIG HRB HKO HKU HMD HB6
  cases c with
  | true =>
    have hqM : True := trivial
    have hqS : sh = 0 := of_decide_eq_true hk2.symm
    clear hk1 hk2
    refine wp_region_props [35, 36, 37, 38, 39, 40, 41, 42, 43, 44, 45, 46, 47, 48, 49, 50, 51, 52, 53, 54, 55, 56, 57, 58, 59, 60, 61, 62, 63, 64, 65, 66, 67, 68, 69, 70, 71, 72, 73, 74, 2] (slotS [35, 36, 37, 38, 39, 40, 41, 42, 43, 44, 45, 46, 47, 48, 49, 50, 51, 52, 53, 54, 55, 56, 57, 58, 59, 60, 61, 62, 63, 64, 65, 66, 67, 68, 69, 70, 71, 72, 73, 74, 2]) (readsS [35, 36, 37, 38, 39, 40, 41, 42, 43, 44, 45, 46, 47, 48, 49, 50, 51, 52, 53, 54, 55, 56, 57, 58, 59, 60, 61, 62, 63, 64, 65, 66, 67, 68, 69, 70, 71, 72, 73, 74, 2]) (RTs [35, 36, 37, 38, 39, 40, 41, 42, 43, 44, 45, 46, 47, 48, 49, 50, 51, 52, 53, 54, 55, 56, 57, 58, 59, 60, 61, 62, 63, 64, 65, 66, 67, 68, 69, 70, 71, 72, 73, 74, 2] [.int .i64 0, .bool true, .bool true, .int .i64 0, .bool true, .bool true, .bool true, .slice aP 0 cP, .int .i64 0, .bool true, .bool true, .bool true, .agg #[.int .i64 cb, .slice aX nX cX, .slice aY nY cY], .int .i64 T, .agg #[.int .i64 cr, .slice aS nS cS, .slice aE nE cE], .int .i64 T, .bool true, .bool true, .bool true, .agg #[.int .i64 cb, .slice aX nX cX, .slice aY nY cY], .slice aK nK cK, .bool true, .bool true, undef, undef, .bool true, .bool true, .bool true, .agg #[.int .i64 cb, .slice aX nX cX, .slice aY nY cY], .slice aK nK cK, .bool true, .agg #[.int .i64 cb, .slice aX nX cX, .slice aY nY cY], .slice aK nK cK, .int .i64 sh, .bool true, .bool true, .bool true, .bool true, .bool true, .bool true, .bool true]) J (by kernel_rfl) (by kernel_rfl) (by kernel_rfl) (HJD.out _ HJ0.out) (fun j f q v W hq h => RTs.upd hq h) ?_ ?_
    case refine_1 =>
      intro iq hiq f W hIW hdep
      have hiq' : iq < 41 := hiq
      generalize ha1 : putsL _ [35, 36, 37, 38, 39, 40, 41, 42, 43, 44, 45, 46, 47, 48, 49, 50, 51, 52, 53, 54, 55, 56, 57, 58, 59, 60, 61, 62, 63, 64, 65, 66, 67, 68, 69, 70, 71, 72, 73, 74, 2] f = a1
      match iq, hiq', hdep with
      | 0, _, hdep =>
        have E7 : a1.tmps[7]?.getD undef = .int .i64 0 := by rw [← ha1]; exact (putsL_out2 _ _ _ _ (by decide)).trans rfl
        exact wpOp_val rfl rfl (v := .int .i64 0) (w' := W) (by simp [execOp, go_sem, E7]) ⟨hIW, fun _ h => h, Or.inl ⟨_, by decide, rfl, updF_same _ _ _⟩⟩
      | 1, _, hdep =>
        have E35 : a1.tmps[35]?.getD undef = .int .i64 0 := by rw [← ha1]; exact (putsL_in2 _ _ _ _ (by decide) (show 35 < 75 from by decide)).trans (hdep 0 (by kernel_rfl))
        exact wpOp_val rfl rfl (v := .bool true) (w' := W) (by simp [execOp, go_sem, E35]) ⟨hIW, fun _ h => h, Or.inl ⟨_, by decide, rfl, updF_same _ _ _⟩⟩
      | 2, _, hdep =>
        have E36 : a1.tmps[36]?.getD undef = .bool true := by rw [← ha1]; exact (putsL_in2 _ _ _ _ (by decide) (show 36 < 75 from by decide)).trans (hdep 1 (by kernel_rfl))
        exact wpOp_val rfl rfl (v := .bool true) (w' := W) (by simp [execOp, go_sem, E36]) ⟨hIW, fun _ h => h, Or.inl ⟨_, by decide, rfl, updF_same _ _ _⟩⟩
      | 3, _, hdep =>
        have G2 : a1.tmps[37]? = some (.bool true) := by rw [← ha1]; exact (putsL_some _ _ _ _ (by decide) (show 37 < 75 from by decide)).trans (congrArg some (hdep 2 (by kernel_rfl)))
        have E9 : a1.tmps[9]?.getD undef = .int .i64 0 := by rw [← ha1]; exact (putsL_out2 _ _ _ _ (by decide)).trans rfl
        exact wpOp_valG rfl rfl (yielded_of rfl G2) (v := .int .i64 0) (w' := W) (by simp [execOp, go_sem, E9]) ⟨hIW, fun _ h => h, Or.inl ⟨_, by decide, rfl, updF_same _ _ _⟩⟩
      | 4, _, hdep =>
        have G2 : a1.tmps[37]? = some (.bool true) := by rw [← ha1]; exact (putsL_some _ _ _ _ (by decide) (show 37 < 75 from by decide)).trans (congrArg some (hdep 2 (by kernel_rfl)))
        have E38 : a1.tmps[38]?.getD undef = .int .i64 0 := by rw [← ha1]; exact (putsL_in2 _ _ _ _ (by decide) (show 38 < 75 from by decide)).trans (hdep 3 (by kernel_rfl))
        exact wpOp_valG rfl rfl (yielded_of rfl G2) (v := .bool true) (w' := W) (by simp [execOp, go_sem, E38]) ⟨hIW, fun _ h => h, Or.inl ⟨_, by decide, rfl, updF_same _ _ _⟩⟩
      | 5, _, hdep =>
        have E37 : a1.tmps[37]?.getD undef = .bool true := by rw [← ha1]; exact (putsL_in2 _ _ _ _ (by decide) (show 37 < 75 from by decide)).trans (hdep 2 (by kernel_rfl))
        have E39 : a1.tmps[39]?.getD undef = .bool true := by rw [← ha1]; exact (putsL_in2 _ _ _ _ (by decide) (show 39 < 75 from by decide)).trans (hdep 4 (by kernel_rfl))
        exact wpOp_val rfl rfl (v := .bool true) (w' := W) (by simp [execOp, go_sem, E37, E39]) ⟨hIW, fun _ h => h, Or.inl ⟨_, by decide, rfl, updF_same _ _ _⟩⟩
      | 6, _, hdep =>
        have E40 : a1.tmps[40]?.getD undef = .bool true := by rw [← ha1]; exact (putsL_in2 _ _ _ _ (by decide) (show 40 < 75 from by decide)).trans (hdep 5 (by kernel_rfl))
        exact wpOp_val rfl rfl (v := .bool true) (w' := W) (by simp [execOp, go_sem, E40]) ⟨hIW, fun _ h => h, Or.inl ⟨_, by decide, rfl, updF_same _ _ _⟩⟩
      | 7, _, hdep =>
        have G6 : a1.tmps[41]? = some (.bool true) := by rw [← ha1]; exact (putsL_some _ _ _ _ (by decide) (show 41 < 75 from by decide)).trans (congrArg some (hdep 6 (by kernel_rfl)))
        have E8 : a1.tmps[8]?.getD undef = .slice aP 0 cP := by rw [← ha1]; exact (putsL_out2 _ _ _ _ (by decide)).trans rfl
        exact wpOp_valG rfl rfl (yielded_of rfl G6) (v := .slice aP 0 cP) (w' := W) (by simp [execOp, go_sem, E8]) ⟨hIW, fun _ h => h, Or.inl ⟨_, by decide, rfl, updF_same _ _ _⟩⟩
      | 8, _, hdep =>
        have G6 : a1.tmps[41]? = some (.bool true) := by rw [← ha1]; exact (putsL_some _ _ _ _ (by decide) (show 41 < 75 from by decide)).trans (congrArg some (hdep 6 (by kernel_rfl)))
        have E42 : a1.tmps[42]?.getD undef = .slice aP 0 cP := by rw [← ha1]; exact (putsL_in2 _ _ _ _ (by decide) (show 42 < 75 from by decide)).trans (hdep 7 (by kernel_rfl))
        exact wpOp_valG rfl rfl (yielded_of rfl G6) (v := .int .i64 0) (w' := W) (by simp [execOp, go_sem, E42]) ⟨hIW, fun _ h => h, Or.inl ⟨_, by decide, rfl, updF_same _ _ _⟩⟩
      | 9, _, hdep =>
        have G6 : a1.tmps[41]? = some (.bool true) := by rw [← ha1]; exact (putsL_some _ _ _ _ (by decide) (show 41 < 75 from by decide)).trans (congrArg some (hdep 6 (by kernel_rfl)))
        have E43 : a1.tmps[43]?.getD undef = .int .i64 0 := by rw [← ha1]; exact (putsL_in2 _ _ _ _ (by decide) (show 43 < 75 from by decide)).trans (hdep 8 (by kernel_rfl))
        exact wpOp_valG rfl rfl (yielded_of rfl G6) (v := .bool true) (w' := W) (by simp [execOp, go_sem, E43]) ⟨hIW, fun _ h => h, Or.inl ⟨_, by decide, rfl, updF_same _ _ _⟩⟩
      | 10, _, hdep =>
        have E41 : a1.tmps[41]?.getD undef = .bool true := by rw [← ha1]; exact (putsL_in2 _ _ _ _ (by decide) (show 41 < 75 from by decide)).trans (hdep 6 (by kernel_rfl))
        have E44 : a1.tmps[44]?.getD undef = .bool true := by rw [← ha1]; exact (putsL_in2 _ _ _ _ (by decide) (show 44 < 75 from by decide)).trans (hdep 9 (by kernel_rfl))
        exact wpOp_val rfl rfl (v := .bool true) (w' := W) (by simp [execOp, go_sem, E41, E44]) ⟨hIW, fun _ h => h, Or.inl ⟨_, by decide, rfl, updF_same _ _ _⟩⟩
      | 11, _, hdep =>
        have E45 : a1.tmps[45]?.getD undef = .bool true := by rw [← ha1]; exact (putsL_in2 _ _ _ _ (by decide) (show 45 < 75 from by decide)).trans (hdep 10 (by kernel_rfl))
        exact wpOp_val rfl rfl (v := .bool true) (w' := W) (by simp [execOp, go_sem, E45]) ⟨hIW, fun _ h => h, Or.inl ⟨_, by decide, rfl, updF_same _ _ _⟩⟩
      | 12, _, hdep =>
        have G11 : a1.tmps[46]? = some (.bool true) := by rw [← ha1]; exact (putsL_some _ _ _ _ (by decide) (show 46 < 75 from by decide)).trans (congrArg some (hdep 11 (by kernel_rfl)))
        have E6 : a1.tmps[6]?.getD undef = .pointer (some ⟨bB, 0, none⟩) := by rw [← ha1]; exact (putsL_out2 _ _ _ _ (by decide)).trans rfl
        have v0 : W.cell? ⟨bB, 0, none⟩ = some (.int .i64 cb) := by simpa using HCLB.out W hIW 0
        have v1 : W.cell? ⟨bB, 1, none⟩ = some (.slice aX nX cX) := by simpa using HCLB.out W hIW 1
        have v2 : W.cell? ⟨bB, 2, none⟩ = some (.slice aY nY cY) := by simpa using HCLB.out W hIW 2
        exact wpOp_valG rfl rfl (yielded_of rfl G11) (v := .agg #[.int .i64 cb, .slice aX nX cX, .slice aY nY cY]) (w' := W) (by simp [execOp, go_sem, E6, v0, v1, v2]) ⟨hIW, fun _ h => h, Or.inl ⟨_, by decide, rfl, updF_same _ _ _⟩⟩
      | 13, _, hdep =>
        have G11 : a1.tmps[46]? = some (.bool true) := by rw [← ha1]; exact (putsL_some _ _ _ _ (by decide) (show 46 < 75 from by decide)).trans (congrArg some (hdep 11 (by kernel_rfl)))
        have E47 : a1.tmps[47]?.getD undef = .agg #[.int .i64 cb, .slice aX nX cX, .slice aY nY cY] := by rw [← ha1]; exact (putsL_in2 _ _ _ _ (by decide) (show 47 < 75 from by decide)).trans (hdep 12 (by kernel_rfl))
        refine wpOp_callG rfl rfl (yielded_of rfl G11) (n := 12) (vs := #[.agg #[.int .i64 cb, .slice aX nX cX, .slice aY nY cY]]) (by have := egT #[.agg #[.int .i64 cb, .slice aX nX cX, .slice aY nY cY]] W; simp [execOp, E47, resolve, invoke, go_sem] <;> exact this) ((HC1.out W hIW).mono fun e w' h => (⟨_, h.1, rfl, h.2⟩ : ∃ v, e = .returned v ∧ (v = .int .i64 T ∧ J w'))) ?_
        rintro v w' ⟨rfl, hI'⟩
        exact ⟨hI', fun _ h => h, Or.inl ⟨_, by decide, rfl, updF_same _ _ _⟩⟩
      | 14, _, hdep =>
        have G11 : a1.tmps[46]? = some (.bool true) := by rw [← ha1]; exact (putsL_some _ _ _ _ (by decide) (show 46 < 75 from by decide)).trans (congrArg some (hdep 11 (by kernel_rfl)))
        have E4 : a1.tmps[4]?.getD undef = .pointer (some ⟨bA, 0, none⟩) := by rw [← ha1]; exact (putsL_out2 _ _ _ _ (by decide)).trans rfl
        have v0 : W.cell? ⟨bA, 0, none⟩ = some (.int .i64 cr) := by simpa using HCLA.out W hIW 0
        have v1 : W.cell? ⟨bA, 1, none⟩ = some (.slice aS nS cS) := by simpa using HCLA.out W hIW 1
        have v2 : W.cell? ⟨bA, 2, none⟩ = some (.slice aE nE cE) := by simpa using HCLA.out W hIW 2
        exact wpOp_valG rfl rfl (yielded_of rfl G11) (v := .agg #[.int .i64 cr, .slice aS nS cS, .slice aE nE cE]) (w' := W) (by simp [execOp, go_sem, E4, v0, v1, v2]) ⟨hIW, fun _ h => h, Or.inl ⟨_, by decide, rfl, updF_same _ _ _⟩⟩
      | 15, _, hdep =>
        have G11 : a1.tmps[46]? = some (.bool true) := by rw [← ha1]; exact (putsL_some _ _ _ _ (by decide) (show 46 < 75 from by decide)).trans (congrArg some (hdep 11 (by kernel_rfl)))
        have E49 : a1.tmps[49]?.getD undef = .agg #[.int .i64 cr, .slice aS nS cS, .slice aE nE cE] := by rw [← ha1]; exact (putsL_in2 _ _ _ _ (by decide) (show 49 < 75 from by decide)).trans (hdep 14 (by kernel_rfl))
        refine wpOp_callG rfl rfl (yielded_of rfl G11) (n := 12) (vs := #[.agg #[.int .i64 cr, .slice aS nS cS, .slice aE nE cE]]) (by have := egT #[.agg #[.int .i64 cr, .slice aS nS cS, .slice aE nE cE]] W; simp [execOp, E49, resolve, invoke, go_sem] <;> exact this) ((HC2.out W hIW).mono fun e w' h => (⟨_, h.1, rfl, h.2⟩ : ∃ v, e = .returned v ∧ (v = .int .i64 T ∧ J w'))) ?_
        rintro v w' ⟨rfl, hI'⟩
        exact ⟨hI', fun _ h => h, Or.inl ⟨_, by decide, rfl, updF_same _ _ _⟩⟩
      | 16, _, hdep =>
        have G11 : a1.tmps[46]? = some (.bool true) := by rw [← ha1]; exact (putsL_some _ _ _ _ (by decide) (show 46 < 75 from by decide)).trans (congrArg some (hdep 11 (by kernel_rfl)))
        have E48 : a1.tmps[48]?.getD undef = .int .i64 T := by rw [← ha1]; exact (putsL_in2 _ _ _ _ (by decide) (show 48 < 75 from by decide)).trans (hdep 13 (by kernel_rfl))
        have E50 : a1.tmps[50]?.getD undef = .int .i64 T := by rw [← ha1]; exact (putsL_in2 _ _ _ _ (by decide) (show 50 < 75 from by decide)).trans (hdep 15 (by kernel_rfl))
        exact wpOp_valG rfl rfl (yielded_of rfl G11) (v := .bool true) (w' := W) (by simp [execOp, go_sem, E48, E50, hqT]) ⟨hIW, fun _ h => h, Or.inl ⟨_, by decide, rfl, updF_same _ _ _⟩⟩
      | 17, _, hdep =>
        have E46 : a1.tmps[46]?.getD undef = .bool true := by rw [← ha1]; exact (putsL_in2 _ _ _ _ (by decide) (show 46 < 75 from by decide)).trans (hdep 11 (by kernel_rfl))
        have E51 : a1.tmps[51]?.getD undef = .bool true := by rw [← ha1]; exact (putsL_in2 _ _ _ _ (by decide) (show 51 < 75 from by decide)).trans (hdep 16 (by kernel_rfl))
        exact wpOp_val rfl rfl (v := .bool true) (w' := W) (by simp [execOp, go_sem, E46, E51]) ⟨hIW, fun _ h => h, Or.inl ⟨_, by decide, rfl, updF_same _ _ _⟩⟩
      | 18, _, hdep =>
        have E52 : a1.tmps[52]?.getD undef = .bool true := by rw [← ha1]; exact (putsL_in2 _ _ _ _ (by decide) (show 52 < 75 from by decide)).trans (hdep 17 (by kernel_rfl))
        exact wpOp_val rfl rfl (v := .bool true) (w' := W) (by simp [execOp, go_sem, E52]) ⟨hIW, fun _ h => h, Or.inl ⟨_, by decide, rfl, updF_same _ _ _⟩⟩
      | 19, _, hdep =>
        have G18 : a1.tmps[53]? = some (.bool true) := by rw [← ha1]; exact (putsL_some _ _ _ _ (by decide) (show 53 < 75 from by decide)).trans (congrArg some (hdep 18 (by kernel_rfl)))
        have E6 : a1.tmps[6]?.getD undef = .pointer (some ⟨bB, 0, none⟩) := by rw [← ha1]; exact (putsL_out2 _ _ _ _ (by decide)).trans rfl
        have v0 : W.cell? ⟨bB, 0, none⟩ = some (.int .i64 cb) := by simpa using HCLB.out W hIW 0
        have v1 : W.cell? ⟨bB, 1, none⟩ = some (.slice aX nX cX) := by simpa using HCLB.out W hIW 1
        have v2 : W.cell? ⟨bB, 2, none⟩ = some (.slice aY nY cY) := by simpa using HCLB.out W hIW 2
        exact wpOp_valG rfl rfl (yielded_of rfl G18) (v := .agg #[.int .i64 cb, .slice aX nX cX, .slice aY nY cY]) (w' := W) (by simp [execOp, go_sem, E6, v0, v1, v2]) ⟨hIW, fun _ h => h, Or.inl ⟨_, by decide, rfl, updF_same _ _ _⟩⟩
      | 20, _, hdep =>
        have G18 : a1.tmps[53]? = some (.bool true) := by rw [← ha1]; exact (putsL_some _ _ _ _ (by decide) (show 53 < 75 from by decide)).trans (congrArg some (hdep 18 (by kernel_rfl)))
        have E5 : a1.tmps[5]?.getD undef = .slice aK nK cK := by rw [← ha1]; exact (putsL_out2 _ _ _ _ (by decide)).trans rfl
        exact wpOp_valG rfl rfl (yielded_of rfl G18) (v := .slice aK nK cK) (w' := W) (by simp [execOp, go_sem, E5]) ⟨hIW, fun _ h => h, Or.inl ⟨_, by decide, rfl, updF_same _ _ _⟩⟩
      | 21, _, hdep =>
        have G18 : a1.tmps[53]? = some (.bool true) := by rw [← ha1]; exact (putsL_some _ _ _ _ (by decide) (show 53 < 75 from by decide)).trans (congrArg some (hdep 18 (by kernel_rfl)))
        have E54 : a1.tmps[54]?.getD undef = .agg #[.int .i64 cb, .slice aX nX cX, .slice aY nY cY] := by rw [← ha1]; exact (putsL_in2 _ _ _ _ (by decide) (show 54 < 75 from by decide)).trans (hdep 19 (by kernel_rfl))
        have E55 : a1.tmps[55]?.getD undef = .slice aK nK cK := by rw [← ha1]; exact (putsL_in2 _ _ _ _ (by decide) (show 55 < 75 from by decide)).trans (hdep 20 (by kernel_rfl))
        refine wpOp_callG rfl rfl (yielded_of rfl G18) (n := 23) (vs := #[.agg #[.int .i64 cb, .slice aX nX cX, .slice aY nY cY], .slice aK nK cK]) (by have := egK #[.agg #[.int .i64 cb, .slice aX nX cX, .slice aY nY cY], .slice aK nK cK] W; simp [execOp, E54, E55, resolve, invoke, go_sem] <;> exact this) ((HC3.out W hIW).mono fun e w' h => (⟨_, h.1, rfl, h.2⟩ : ∃ v, e = .returned v ∧ (v = .bool true ∧ J w'))) ?_
        rintro v w' ⟨rfl, hI'⟩
        exact ⟨hI', fun _ h => h, Or.inl ⟨_, by decide, rfl, updF_same _ _ _⟩⟩
      | 22, _, hdep =>
        have G18 : a1.tmps[53]? = some (.bool true) := by rw [← ha1]; exact (putsL_some _ _ _ _ (by decide) (show 53 < 75 from by decide)).trans (congrArg some (hdep 18 (by kernel_rfl)))
        have E56 : a1.tmps[56]?.getD undef = .bool true := by rw [← ha1]; exact (putsL_in2 _ _ _ _ (by decide) (show 56 < 75 from by decide)).trans (hdep 21 (by kernel_rfl))
        exact wpOp_valG rfl rfl (yielded_of rfl G18) (v := .bool true) (w' := W) (by simp [execOp, go_sem, E56]) ⟨hIW, fun _ h => h, Or.inl ⟨_, by decide, rfl, updF_same _ _ _⟩⟩
      | 23, _, hdep =>
        have G22 : a1.tmps[57]? = some (.bool true) := by rw [← ha1]; exact (putsL_some _ _ _ _ (by decide) (show 57 < 75 from by decide)).trans (congrArg some (hdep 22 (by kernel_rfl)))
        exact wpOp_off rfl rfl (yielded_of rfl G22) ⟨hIW, fun _ h => h, Or.inl ⟨_, by decide, rfl, updF_same _ _ _⟩⟩
      | 24, _, hdep =>
        have G22 : a1.tmps[57]? = some (.bool true) := by rw [← ha1]; exact (putsL_some _ _ _ _ (by decide) (show 57 < 75 from by decide)).trans (congrArg some (hdep 22 (by kernel_rfl)))
        exact wpOp_off rfl rfl (yielded_of rfl G22) ⟨hIW, fun _ h => h, Or.inl ⟨_, by decide, rfl, updF_same _ _ _⟩⟩
      | 25, _, hdep =>
        have G18 : a1.tmps[53]? = some (.bool true) := by rw [← ha1]; exact (putsL_some _ _ _ _ (by decide) (show 53 < 75 from by decide)).trans (congrArg some (hdep 18 (by kernel_rfl)))
        have E57 : a1.tmps[57]?.getD undef = .bool true := by rw [← ha1]; exact (putsL_in2 _ _ _ _ (by decide) (show 57 < 75 from by decide)).trans (hdep 22 (by kernel_rfl))
        exact wpOp_valG rfl rfl (yielded_of rfl G18) (v := .bool true) (w' := W) (by simp [execOp, go_sem, E57]) ⟨hIW, fun _ h => h, Or.inl ⟨_, by decide, rfl, updF_same _ _ _⟩⟩
      | 26, _, hdep =>
        have E53 : a1.tmps[53]?.getD undef = .bool true := by rw [← ha1]; exact (putsL_in2 _ _ _ _ (by decide) (show 53 < 75 from by decide)).trans (hdep 18 (by kernel_rfl))
        have E60 : a1.tmps[60]?.getD undef = .bool true := by rw [← ha1]; exact (putsL_in2 _ _ _ _ (by decide) (show 60 < 75 from by decide)).trans (hdep 25 (by kernel_rfl))
        exact wpOp_val rfl rfl (v := .bool true) (w' := W) (by simp [execOp, go_sem, E53, E60]) ⟨hIW, fun _ h => h, Or.inl ⟨_, by decide, rfl, updF_same _ _ _⟩⟩
      | 27, _, hdep =>
        have E61 : a1.tmps[61]?.getD undef = .bool true := by rw [← ha1]; exact (putsL_in2 _ _ _ _ (by decide) (show 61 < 75 from by decide)).trans (hdep 26 (by kernel_rfl))
        exact wpOp_val rfl rfl (v := .bool true) (w' := W) (by simp [execOp, go_sem, E61]) ⟨hIW, fun _ h => h, Or.inl ⟨_, by decide, rfl, updF_same _ _ _⟩⟩
      | 28, _, hdep =>
        have G27 : a1.tmps[62]? = some (.bool true) := by rw [← ha1]; exact (putsL_some _ _ _ _ (by decide) (show 62 < 75 from by decide)).trans (congrArg some (hdep 27 (by kernel_rfl)))
        have E6 : a1.tmps[6]?.getD undef = .pointer (some ⟨bB, 0, none⟩) := by rw [← ha1]; exact (putsL_out2 _ _ _ _ (by decide)).trans rfl
        have v0 : W.cell? ⟨bB, 0, none⟩ = some (.int .i64 cb) := by simpa using HCLB.out W hIW 0
        have v1 : W.cell? ⟨bB, 1, none⟩ = some (.slice aX nX cX) := by simpa using HCLB.out W hIW 1
        have v2 : W.cell? ⟨bB, 2, none⟩ = some (.slice aY nY cY) := by simpa using HCLB.out W hIW 2
        exact wpOp_valG rfl rfl (yielded_of rfl G27) (v := .agg #[.int .i64 cb, .slice aX nX cX, .slice aY nY cY]) (w' := W) (by simp [execOp, go_sem, E6, v0, v1, v2]) ⟨hIW, fun _ h => h, Or.inl ⟨_, by decide, rfl, updF_same _ _ _⟩⟩
      | 29, _, hdep =>
        have G27 : a1.tmps[62]? = some (.bool true) := by rw [← ha1]; exact (putsL_some _ _ _ _ (by decide) (show 62 < 75 from by decide)).trans (congrArg some (hdep 27 (by kernel_rfl)))
        have E5 : a1.tmps[5]?.getD undef = .slice aK nK cK := by rw [← ha1]; exact (putsL_out2 _ _ _ _ (by decide)).trans rfl
        exact wpOp_valG rfl rfl (yielded_of rfl G27) (v := .slice aK nK cK) (w' := W) (by simp [execOp, go_sem, E5]) ⟨hIW, fun _ h => h, Or.inl ⟨_, by decide, rfl, updF_same _ _ _⟩⟩
      | 30, _, hdep =>
        have G27 : a1.tmps[62]? = some (.bool true) := by rw [← ha1]; exact (putsL_some _ _ _ _ (by decide) (show 62 < 75 from by decide)).trans (congrArg some (hdep 27 (by kernel_rfl)))
        have E63 : a1.tmps[63]?.getD undef = .agg #[.int .i64 cb, .slice aX nX cX, .slice aY nY cY] := by rw [← ha1]; exact (putsL_in2 _ _ _ _ (by decide) (show 63 < 75 from by decide)).trans (hdep 28 (by kernel_rfl))
        have E64 : a1.tmps[64]?.getD undef = .slice aK nK cK := by rw [← ha1]; exact (putsL_in2 _ _ _ _ (by decide) (show 64 < 75 from by decide)).trans (hdep 29 (by kernel_rfl))
        refine wpOp_callG rfl rfl (yielded_of rfl G27) (n := 23) (vs := #[.agg #[.int .i64 cb, .slice aX nX cX, .slice aY nY cY], .slice aK nK cK]) (by have := egK #[.agg #[.int .i64 cb, .slice aX nX cX, .slice aY nY cY], .slice aK nK cK] W; simp [execOp, E63, E64, resolve, invoke, go_sem] <;> exact this) ((HC3.out W hIW).mono fun e w' h => (⟨_, h.1, rfl, h.2⟩ : ∃ v, e = .returned v ∧ (v = .bool true ∧ J w'))) ?_
        rintro v w' ⟨rfl, hI'⟩
        exact ⟨hI', fun _ h => h, Or.inl ⟨_, by decide, rfl, updF_same _ _ _⟩⟩
      | 31, _, hdep =>
        have G27 : a1.tmps[62]? = some (.bool true) := by rw [← ha1]; exact (putsL_some _ _ _ _ (by decide) (show 62 < 75 from by decide)).trans (congrArg some (hdep 27 (by kernel_rfl)))
        have E6 : a1.tmps[6]?.getD undef = .pointer (some ⟨bB, 0, none⟩) := by rw [← ha1]; exact (putsL_out2 _ _ _ _ (by decide)).trans rfl
        have v0 : W.cell? ⟨bB, 0, none⟩ = some (.int .i64 cb) := by simpa using HCLB.out W hIW 0
        have v1 : W.cell? ⟨bB, 1, none⟩ = some (.slice aX nX cX) := by simpa using HCLB.out W hIW 1
        have v2 : W.cell? ⟨bB, 2, none⟩ = some (.slice aY nY cY) := by simpa using HCLB.out W hIW 2
        exact wpOp_valG rfl rfl (yielded_of rfl G27) (v := .agg #[.int .i64 cb, .slice aX nX cX, .slice aY nY cY]) (w' := W) (by simp [execOp, go_sem, E6, v0, v1, v2]) ⟨hIW, fun _ h => h, Or.inl ⟨_, by decide, rfl, updF_same _ _ _⟩⟩
      | 32, _, hdep =>
        have G27 : a1.tmps[62]? = some (.bool true) := by rw [← ha1]; exact (putsL_some _ _ _ _ (by decide) (show 62 < 75 from by decide)).trans (congrArg some (hdep 27 (by kernel_rfl)))
        have E5 : a1.tmps[5]?.getD undef = .slice aK nK cK := by rw [← ha1]; exact (putsL_out2 _ _ _ _ (by decide)).trans rfl
        exact wpOp_valG rfl rfl (yielded_of rfl G27) (v := .slice aK nK cK) (w' := W) (by simp [execOp, go_sem, E5]) ⟨hIW, fun _ h => h, Or.inl ⟨_, by decide, rfl, updF_same _ _ _⟩⟩
      | 33, _, hdep =>
        have G27 : a1.tmps[62]? = some (.bool true) := by rw [← ha1]; exact (putsL_some _ _ _ _ (by decide) (show 62 < 75 from by decide)).trans (congrArg some (hdep 27 (by kernel_rfl)))
        have E66 : a1.tmps[66]?.getD undef = .agg #[.int .i64 cb, .slice aX nX cX, .slice aY nY cY] := by rw [← ha1]; exact (putsL_in2 _ _ _ _ (by decide) (show 66 < 75 from by decide)).trans (hdep 31 (by kernel_rfl))
        have E67 : a1.tmps[67]?.getD undef = .slice aK nK cK := by rw [← ha1]; exact (putsL_in2 _ _ _ _ (by decide) (show 67 < 75 from by decide)).trans (hdep 32 (by kernel_rfl))
        refine wpOp_callG rfl rfl (yielded_of rfl G27) (n := 20) (vs := #[.agg #[.int .i64 cb, .slice aX nX cX, .slice aY nY cY], .slice aK nK cK]) (by have := egS #[.agg #[.int .i64 cb, .slice aX nX cX, .slice aY nY cY], .slice aK nK cK] W; simp [execOp, E66, E67, resolve, invoke, go_sem] <;> exact this) ((HC4.out W hIW).mono fun e w' h => (⟨_, h.1, rfl, h.2⟩ : ∃ v, e = .returned v ∧ (v = .int .i64 sh ∧ J w'))) ?_
        rintro v w' ⟨rfl, hI'⟩
        exact ⟨hI', fun _ h => h, Or.inl ⟨_, by decide, rfl, updF_same _ _ _⟩⟩
      | 34, _, hdep =>
        have G27 : a1.tmps[62]? = some (.bool true) := by rw [← ha1]; exact (putsL_some _ _ _ _ (by decide) (show 62 < 75 from by decide)).trans (congrArg some (hdep 27 (by kernel_rfl)))
        have E68 : a1.tmps[68]?.getD undef = .int .i64 sh := by rw [← ha1]; exact (putsL_in2 _ _ _ _ (by decide) (show 68 < 75 from by decide)).trans (hdep 33 (by kernel_rfl))
        exact wpOp_valG rfl rfl (yielded_of rfl G27) (v := .bool true) (w' := W) (by simp [execOp, go_sem, E68, hqS]) ⟨hIW, fun _ h => h, Or.inl ⟨_, by decide, rfl, updF_same _ _ _⟩⟩
      | 35, _, hdep =>
        have G27 : a1.tmps[62]? = some (.bool true) := by rw [← ha1]; exact (putsL_some _ _ _ _ (by decide) (show 62 < 75 from by decide)).trans (congrArg some (hdep 27 (by kernel_rfl)))
        have E65 : a1.tmps[65]?.getD undef = .bool true := by rw [← ha1]; exact (putsL_in2 _ _ _ _ (by decide) (show 65 < 75 from by decide)).trans (hdep 30 (by kernel_rfl))
        have E69 : a1.tmps[69]?.getD undef = .bool true := by rw [← ha1]; exact (putsL_in2 _ _ _ _ (by decide) (show 69 < 75 from by decide)).trans (hdep 34 (by kernel_rfl))
        exact wpOp_valG rfl rfl (yielded_of rfl G27) (v := .bool true) (w' := W) (by simp [execOp, go_sem, E65, E69]) ⟨hIW, fun _ h => h, Or.inl ⟨_, by decide, rfl, updF_same _ _ _⟩⟩
      | 36, _, hdep =>
        have E62 : a1.tmps[62]?.getD undef = .bool true := by rw [← ha1]; exact (putsL_in2 _ _ _ _ (by decide) (show 62 < 75 from by decide)).trans (hdep 27 (by kernel_rfl))
        have E70 : a1.tmps[70]?.getD undef = .bool true := by rw [← ha1]; exact (putsL_in2 _ _ _ _ (by decide) (show 70 < 75 from by decide)).trans (hdep 35 (by kernel_rfl))
        exact wpOp_val rfl rfl (v := .bool true) (w' := W) (by simp [execOp, go_sem, E62, E70]) ⟨hIW, fun _ h => h, Or.inl ⟨_, by decide, rfl, updF_same _ _ _⟩⟩
      | 37, _, hdep =>
        have E71 : a1.tmps[71]?.getD undef = .bool true := by rw [← ha1]; exact (putsL_in2 _ _ _ _ (by decide) (show 71 < 75 from by decide)).trans (hdep 36 (by kernel_rfl))
        exact wpOp_val rfl rfl (v := .bool true) (w' := W) (by simp [execOp, go_sem, E71]) ⟨hIW, fun _ h => h, Or.inl ⟨_, by decide, rfl, updF_same _ _ _⟩⟩
      | 38, _, hdep =>
        have G37 : a1.tmps[72]? = some (.bool true) := by rw [← ha1]; exact (putsL_some _ _ _ _ (by decide) (show 72 < 75 from by decide)).trans (congrArg some (hdep 37 (by kernel_rfl)))
        refine wpOp_callG rfl rfl (yielded_of rfl G37) (n := 18) (vs := #[]) (by have := egX #[] W; simp [execOp, go_sem, resolve, invoke, go_sem] <;> exact this) ((HC9.out W hIW).mono fun e w' h => (⟨_, h.1, rfl, h.2⟩ : ∃ v, e = .returned v ∧ (v = .bool true ∧ J w'))) ?_
        rintro v w' ⟨rfl, hI'⟩
        exact ⟨hI', fun _ h => h, Or.inl ⟨_, by decide, rfl, updF_same _ _ _⟩⟩
      | 39, _, hdep =>
        have E72 : a1.tmps[72]?.getD undef = .bool true := by rw [← ha1]; exact (putsL_in2 _ _ _ _ (by decide) (show 72 < 75 from by decide)).trans (hdep 37 (by kernel_rfl))
        have E73 : a1.tmps[73]?.getD undef = .bool true := by rw [← ha1]; exact (putsL_in2 _ _ _ _ (by decide) (show 73 < 75 from by decide)).trans (hdep 38 (by kernel_rfl))
        exact wpOp_val rfl rfl (v := .bool true) (w' := W) (by simp [execOp, go_sem, E72, E73]) ⟨hIW, fun _ h => h, Or.inl ⟨_, by decide, rfl, updF_same _ _ _⟩⟩
      | 40, _, hdep =>
        have E74 : a1.tmps[74]?.getD undef = .bool true := by rw [← ha1]; exact (putsL_in2 _ _ _ _ (by decide) (show 74 < 75 from by decide)).trans (hdep 39 (by kernel_rfl))
        exact wpOp_val rfl rfl (v := .bool true) (w' := W) (by simp [execOp, go_sem, E74]) ⟨hIW, fun _ h => h, Or.inl ⟨_, by decide, rfl, updF_same _ _ _⟩⟩
      | iq + 41, h, _ => exact absurd h (by omega)
    case refine_2 =>
      intro f W hIW hR
      have h2 : f 2 = .bool true := hR 40 (show 40 < 41 from by decide)
      simp only [putsL, List.foldl_cons, List.foldl_nil, Act.put, List.setIfInBounds_toArray, List.set_cons_zero, List.set_cons_succ]
      go_wp2
      go_ret
      first
        | exact ⟨rfl, HFIN.out _ hIW⟩
        | exact ⟨congrArg Ending.returned h2, HFIN.out _ hIW⟩
  | false =>
    have hqM : mn ≤ 0 := by rcases hk1 with h | h; cases h; exact h
    have hqS : ¬ sh = 0 := of_decide_eq_false hk2.symm
    clear hk1 hk2
    refine wp_region_props [35, 36, 37, 38, 39, 40, 41, 42, 43, 44, 45, 46, 47, 48, 49, 50, 51, 52, 53, 54, 55, 56, 57, 58, 59, 60, 61, 62, 63, 64, 65, 66, 67, 68, 69, 70, 71, 72, 73, 74, 2] (slotS [35, 36, 37, 38, 39, 40, 41, 42, 43, 44, 45, 46, 47, 48, 49, 50, 51, 52, 53, 54, 55, 56, 57, 58, 59, 60, 61, 62, 63, 64, 65, 66, 67, 68, 69, 70, 71, 72, 73, 74, 2]) (readsS [35, 36, 37, 38, 39, 40, 41, 42, 43, 44, 45, 46, 47, 48, 49, 50, 51, 52, 53, 54, 55, 56, 57, 58, 59, 60, 61, 62, 63, 64, 65, 66, 67, 68, 69, 70, 71, 72, 73, 74, 2]) (RTs [35, 36, 37, 38, 39, 40, 41, 42, 43, 44, 45, 46, 47, 48, 49, 50, 51, 52, 53, 54, 55, 56, 57, 58, 59, 60, 61, 62, 63, 64, 65, 66, 67, 68, 69, 70, 71, 72, 73, 74, 2] [.int .i64 0, .bool true, .bool true, .int .i64 0, .bool true, .bool true, .bool true, .slice aP 0 cP, .int .i64 0, .bool true, .bool true, .bool true, .agg #[.int .i64 cb, .slice aX nX cX, .slice aY nY cY], .int .i64 T, .agg #[.int .i64 cr, .slice aS nS cS, .slice aE nE cE], .int .i64 T, .bool true, .bool true, .bool true, .agg #[.int .i64 cb, .slice aX nX cX, .slice aY nY cY], .slice aK nK cK, .bool false, .bool false, .int .i64 mn, .bool true, .bool true, .bool true, .bool true, .agg #[.int .i64 cb, .slice aX nX cX, .slice aY nY cY], .slice aK nK cK, .bool false, .agg #[.int .i64 cb, .slice aX nX cX, .slice aY nY cY], .slice aK nK cK, .int .i64 sh, .bool false, .bool true, .bool true, .bool true, .bool true, .bool true, .bool true]) J (by kernel_rfl) (by kernel_rfl) (by kernel_rfl) (HJD.out _ HJ0.out) (fun j f q v W hq h => RTs.upd hq h) ?_ ?_
    case refine_1 =>
      intro iq hiq f W hIW hdep
      have hiq' : iq < 41 := hiq
      generalize ha1 : putsL _ [35, 36, 37, 38, 39, 40, 41, 42, 43, 44, 45, 46, 47, 48, 49, 50, 51, 52, 53, 54, 55, 56, 57, 58, 59, 60, 61, 62, 63, 64, 65, 66, 67, 68, 69, 70, 71, 72, 73, 74, 2] f = a1
      match iq, hiq', hdep with
      | 0, _, hdep =>
        have E7 : a1.tmps[7]?.getD undef = .int .i64 0 := by rw [← ha1]; exact (putsL_out2 _ _ _ _ (by decide)).trans rfl
        exact wpOp_val rfl rfl (v := .int .i64 0) (w' := W) (by simp [execOp, go_sem, E7]) ⟨hIW, fun _ h => h, Or.inl ⟨_, by decide, rfl, updF_same _ _ _⟩⟩
      | 1, _, hdep =>
        have E35 : a1.tmps[35]?.getD undef = .int .i64 0 := by rw [← ha1]; exact (putsL_in2 _ _ _ _ (by decide) (show 35 < 75 from by decide)).trans (hdep 0 (by kernel_rfl))
        exact wpOp_val rfl rfl (v := .bool true) (w' := W) (by simp [execOp, go_sem, E35]) ⟨hIW, fun _ h => h, Or.inl ⟨_, by decide, rfl, updF_same _ _ _⟩⟩
      | 2, _, hdep =>
        have E36 : a1.tmps[36]?.getD undef = .bool true := by rw [← ha1]; exact (putsL_in2 _ _ _ _ (by decide) (show 36 < 75 from by decide)).trans (hdep 1 (by kernel_rfl))
        exact wpOp_val rfl rfl (v := .bool true) (w' := W) (by simp [execOp, go_sem, E36]) ⟨hIW, fun _ h => h, Or.inl ⟨_, by decide, rfl, updF_same _ _ _⟩⟩
      | 3, _, hdep =>
        have G2 : a1.tmps[37]? = some (.bool true) := by rw [← ha1]; exact (putsL_some _ _ _ _ (by decide) (show 37 < 75 from by decide)).trans (congrArg some (hdep 2 (by kernel_rfl)))
        have E9 : a1.tmps[9]?.getD undef = .int .i64 0 := by rw [← ha1]; exact (putsL_out2 _ _ _ _ (by decide)).trans rfl
        exact wpOp_valG rfl rfl (yielded_of rfl G2) (v := .int .i64 0) (w' := W) (by simp [execOp, go_sem, E9]) ⟨hIW, fun _ h => h, Or.inl ⟨_, by decide, rfl, updF_same _ _ _⟩⟩
      | 4, _, hdep =>
        have G2 : a1.tmps[37]? = some (.bool true) := by rw [← ha1]; exact (putsL_some _ _ _ _ (by decide) (show 37 < 75 from by decide)).trans (congrArg some (hdep 2 (by kernel_rfl)))
        have E38 : a1.tmps[38]?.getD undef = .int .i64 0 := by rw [← ha1]; exact (putsL_in2 _ _ _ _ (by decide) (show 38 < 75 from by decide)).trans (hdep 3 (by kernel_rfl))
        exact wpOp_valG rfl rfl (yielded_of rfl G2) (v := .bool true) (w' := W) (by simp [execOp, go_sem, E38]) ⟨hIW, fun _ h => h, Or.inl ⟨_, by decide, rfl, updF_same _ _ _⟩⟩
      | 5, _, hdep =>
        have E37 : a1.tmps[37]?.getD undef = .bool true := by rw [← ha1]; exact (putsL_in2 _ _ _ _ (by decide) (show 37 < 75 from by decide)).trans (hdep 2 (by kernel_rfl))
        have E39 : a1.tmps[39]?.getD undef = .bool true := by rw [← ha1]; exact (putsL_in2 _ _ _ _ (by decide) (show 39 < 75 from by decide)).trans (hdep 4 (by kernel_rfl))
        exact wpOp_val rfl rfl (v := .bool true) (w' := W) (by simp [execOp, go_sem, E37, E39]) ⟨hIW, fun _ h => h, Or.inl ⟨_, by decide, rfl, updF_same _ _ _⟩⟩
      | 6, _, hdep =>
        have E40 : a1.tmps[40]?.getD undef = .bool true := by rw [← ha1]; exact (putsL_in2 _ _ _ _ (by decide) (show 40 < 75 from by decide)).trans (hdep 5 (by kernel_rfl))
        exact wpOp_val rfl rfl (v := .bool true) (w' := W) (by simp [execOp, go_sem, E40]) ⟨hIW, fun _ h => h, Or.inl ⟨_, by decide, rfl, updF_same _ _ _⟩⟩
      | 7, _, hdep =>
        have G6 : a1.tmps[41]? = some (.bool true) := by rw [← ha1]; exact (putsL_some _ _ _ _ (by decide) (show 41 < 75 from by decide)).trans (congrArg some (hdep 6 (by kernel_rfl)))
        have E8 : a1.tmps[8]?.getD undef = .slice aP 0 cP := by rw [← ha1]; exact (putsL_out2 _ _ _ _ (by decide)).trans rfl
        exact wpOp_valG rfl rfl (yielded_of rfl G6) (v := .slice aP 0 cP) (w' := W) (by simp [execOp, go_sem, E8]) ⟨hIW, fun _ h => h, Or.inl ⟨_, by decide, rfl, updF_same _ _ _⟩⟩
      | 8, _, hdep =>
        have G6 : a1.tmps[41]? = some (.bool true) := by rw [← ha1]; exact (putsL_some _ _ _ _ (by decide) (show 41 < 75 from by decide)).trans (congrArg some (hdep 6 (by kernel_rfl)))
        have E42 : a1.tmps[42]?.getD undef = .slice aP 0 cP := by rw [← ha1]; exact (putsL_in2 _ _ _ _ (by decide) (show 42 < 75 from by decide)).trans (hdep 7 (by kernel_rfl))
        exact wpOp_valG rfl rfl (yielded_of rfl G6) (v := .int .i64 0) (w' := W) (by simp [execOp, go_sem, E42]) ⟨hIW, fun _ h => h, Or.inl ⟨_, by decide, rfl, updF_same _ _ _⟩⟩
      | 9, _, hdep =>
        have G6 : a1.tmps[41]? = some (.bool true) := by rw [← ha1]; exact (putsL_some _ _ _ _ (by decide) (show 41 < 75 from by decide)).trans (congrArg some (hdep 6 (by kernel_rfl)))
        have E43 : a1.tmps[43]?.getD undef = .int .i64 0 := by rw [← ha1]; exact (putsL_in2 _ _ _ _ (by decide) (show 43 < 75 from by decide)).trans (hdep 8 (by kernel_rfl))
        exact wpOp_valG rfl rfl (yielded_of rfl G6) (v := .bool true) (w' := W) (by simp [execOp, go_sem, E43]) ⟨hIW, fun _ h => h, Or.inl ⟨_, by decide, rfl, updF_same _ _ _⟩⟩
      | 10, _, hdep =>
        have E41 : a1.tmps[41]?.getD undef = .bool true := by rw [← ha1]; exact (putsL_in2 _ _ _ _ (by decide) (show 41 < 75 from by decide)).trans (hdep 6 (by kernel_rfl))
        have E44 : a1.tmps[44]?.getD undef = .bool true := by rw [← ha1]; exact (putsL_in2 _ _ _ _ (by decide) (show 44 < 75 from by decide)).trans (hdep 9 (by kernel_rfl))
        exact wpOp_val rfl rfl (v := .bool true) (w' := W) (by simp [execOp, go_sem, E41, E44]) ⟨hIW, fun _ h => h, Or.inl ⟨_, by decide, rfl, updF_same _ _ _⟩⟩
      | 11, _, hdep =>
        have E45 : a1.tmps[45]?.getD undef = .bool true := by rw [← ha1]; exact (putsL_in2 _ _ _ _ (by decide) (show 45 < 75 from by decide)).trans (hdep 10 (by kernel_rfl))
        exact wpOp_val rfl rfl (v := .bool true) (w' := W) (by simp [execOp, go_sem, E45]) ⟨hIW, fun _ h => h, Or.inl ⟨_, by decide, rfl, updF_same _ _ _⟩⟩
      | 12, _, hdep =>
        have G11 : a1.tmps[46]? = some (.bool true) := by rw [← ha1]; exact (putsL_some _ _ _ _ (by decide) (show 46 < 75 from by decide)).trans (congrArg some (hdep 11 (by kernel_rfl)))
        have E6 : a1.tmps[6]?.getD undef = .pointer (some ⟨bB, 0, none⟩) := by rw [← ha1]; exact (putsL_out2 _ _ _ _ (by decide)).trans rfl
        have v0 : W.cell? ⟨bB, 0, none⟩ = some (.int .i64 cb) := by simpa using HCLB.out W hIW 0
        have v1 : W.cell? ⟨bB, 1, none⟩ = some (.slice aX nX cX) := by simpa using HCLB.out W hIW 1
        have v2 : W.cell? ⟨bB, 2, none⟩ = some (.slice aY nY cY) := by simpa using HCLB.out W hIW 2
        exact wpOp_valG rfl rfl (yielded_of rfl G11) (v := .agg #[.int .i64 cb, .slice aX nX cX, .slice aY nY cY]) (w' := W) (by simp [execOp, go_sem, E6, v0, v1, v2]) ⟨hIW, fun _ h => h, Or.inl ⟨_, by decide, rfl, updF_same _ _ _⟩⟩
      | 13, _, hdep =>
        have G11 : a1.tmps[46]? = some (.bool true) := by rw [← ha1]; exact (putsL_some _ _ _ _ (by decide) (show 46 < 75 from by decide)).trans (congrArg some (hdep 11 (by kernel_rfl)))
        have E47 : a1.tmps[47]?.getD undef = .agg #[.int .i64 cb, .slice aX nX cX, .slice aY nY cY] := by rw [← ha1]; exact (putsL_in2 _ _ _ _ (by decide) (show 47 < 75 from by decide)).trans (hdep 12 (by kernel_rfl))
        refine wpOp_callG rfl rfl (yielded_of rfl G11) (n := 12) (vs := #[.agg #[.int .i64 cb, .slice aX nX cX, .slice aY nY cY]]) (by have := egT #[.agg #[.int .i64 cb, .slice aX nX cX, .slice aY nY cY]] W; simp [execOp, E47, resolve, invoke, go_sem] <;> exact this) ((HC1.out W hIW).mono fun e w' h => (⟨_, h.1, rfl, h.2⟩ : ∃ v, e = .returned v ∧ (v = .int .i64 T ∧ J w'))) ?_
        rintro v w' ⟨rfl, hI'⟩
        exact ⟨hI', fun _ h => h, Or.inl ⟨_, by decide, rfl, updF_same _ _ _⟩⟩
      | 14, _, hdep =>
        have G11 : a1.tmps[46]? = some (.bool true) := by rw [← ha1]; exact (putsL_some _ _ _ _ (by decide) (show 46 < 75 from by decide)).trans (congrArg some (hdep 11 (by kernel_rfl)))
        have E4 : a1.tmps[4]?.getD undef = .pointer (some ⟨bA, 0, none⟩) := by rw [← ha1]; exact (putsL_out2 _ _ _ _ (by decide)).trans rfl
        have v0 : W.cell? ⟨bA, 0, none⟩ = some (.int .i64 cr) := by simpa using HCLA.out W hIW 0
        have v1 : W.cell? ⟨bA, 1, none⟩ = some (.slice aS nS cS) := by simpa using HCLA.out W hIW 1
        have v2 : W.cell? ⟨bA, 2, none⟩ = some (.slice aE nE cE) := by simpa using HCLA.out W hIW 2
        exact wpOp_valG rfl rfl (yielded_of rfl G11) (v := .agg #[.int .i64 cr, .slice aS nS cS, .slice aE nE cE]) (w' := W) (by simp [execOp, go_sem, E4, v0, v1, v2]) ⟨hIW, fun _ h => h, Or.inl ⟨_, by decide, rfl, updF_same _ _ _⟩⟩
      | 15, _, hdep =>
        have G11 : a1.tmps[46]? = some (.bool true) := by rw [← ha1]; exact (putsL_some _ _ _ _ (by decide) (show 46 < 75 from by decide)).trans (congrArg some (hdep 11 (by kernel_rfl)))
        have E49 : a1.tmps[49]?.getD undef = .agg #[.int .i64 cr, .slice aS nS cS, .slice aE nE cE] := by rw [← ha1]; exact (putsL_in2 _ _ _ _ (by decide) (show 49 < 75 from by decide)).trans (hdep 14 (by kernel_rfl))
        refine wpOp_callG rfl rfl (yielded_of rfl G11) (n := 12) (vs := #[.agg #[.int .i64 cr, .slice aS nS cS, .slice aE nE cE]]) (by have := egT #[.agg #[.int .i64 cr, .slice aS nS cS, .slice aE nE cE]] W; simp [execOp, E49, resolve, invoke, go_sem] <;> exact this) ((HC2.out W hIW).mono fun e w' h => (⟨_, h.1, rfl, h.2⟩ : ∃ v, e = .returned v ∧ (v = .int .i64 T ∧ J w'))) ?_
        rintro v w' ⟨rfl, hI'⟩
        exact ⟨hI', fun _ h => h, Or.inl ⟨_, by decide, rfl, updF_same _ _ _⟩⟩
      | 16, _, hdep =>
        have G11 : a1.tmps[46]? = some (.bool true) := by rw [← ha1]; exact (putsL_some _ _ _ _ (by decide) (show 46 < 75 from by decide)).trans (congrArg some (hdep 11 (by kernel_rfl)))
        have E48 : a1.tmps[48]?.getD undef = .int .i64 T := by rw [← ha1]; exact (putsL_in2 _ _ _ _ (by decide) (show 48 < 75 from by decide)).trans (hdep 13 (by kernel_rfl))
        have E50 : a1.tmps[50]?.getD undef = .int .i64 T := by rw [← ha1]; exact (putsL_in2 _ _ _ _ (by decide) (show 50 < 75 from by decide)).trans (hdep 15 (by kernel_rfl))
        exact wpOp_valG rfl rfl (yielded_of rfl G11) (v := .bool true) (w' := W) (by simp [execOp, go_sem, E48, E50, hqT]) ⟨hIW, fun _ h => h, Or.inl ⟨_, by decide, rfl, updF_same _ _ _⟩⟩
      | 17, _, hdep =>
        have E46 : a1.tmps[46]?.getD undef = .bool true := by rw [← ha1]; exact (putsL_in2 _ _ _ _ (by decide) (show 46 < 75 from by decide)).trans (hdep 11 (by kernel_rfl))
        have E51 : a1.tmps[51]?.getD undef = .bool true := by rw [← ha1]; exact (putsL_in2 _ _ _ _ (by decide) (show 51 < 75 from by decide)).trans (hdep 16 (by kernel_rfl))
        exact wpOp_val rfl rfl (v := .bool true) (w' := W) (by simp [execOp, go_sem, E46, E51]) ⟨hIW, fun _ h => h, Or.inl ⟨_, by decide, rfl, updF_same _ _ _⟩⟩
      | 18, _, hdep =>
        have E52 : a1.tmps[52]?.getD undef = .bool true := by rw [← ha1]; exact (putsL_in2 _ _ _ _ (by decide) (show 52 < 75 from by decide)).trans (hdep 17 (by kernel_rfl))
        exact wpOp_val rfl rfl (v := .bool true) (w' := W) (by simp [execOp, go_sem, E52]) ⟨hIW, fun _ h => h, Or.inl ⟨_, by decide, rfl, updF_same _ _ _⟩⟩
      | 19, _, hdep =>
        have G18 : a1.tmps[53]? = some (.bool true) := by rw [← ha1]; exact (putsL_some _ _ _ _ (by decide) (show 53 < 75 from by decide)).trans (congrArg some (hdep 18 (by kernel_rfl)))
        have E6 : a1.tmps[6]?.getD undef = .pointer (some ⟨bB, 0, none⟩) := by rw [← ha1]; exact (putsL_out2 _ _ _ _ (by decide)).trans rfl
        have v0 : W.cell? ⟨bB, 0, none⟩ = some (.int .i64 cb) := by simpa using HCLB.out W hIW 0
        have v1 : W.cell? ⟨bB, 1, none⟩ = some (.slice aX nX cX) := by simpa using HCLB.out W hIW 1
        have v2 : W.cell? ⟨bB, 2, none⟩ = some (.slice aY nY cY) := by simpa using HCLB.out W hIW 2
        exact wpOp_valG rfl rfl (yielded_of rfl G18) (v := .agg #[.int .i64 cb, .slice aX nX cX, .slice aY nY cY]) (w' := W) (by simp [execOp, go_sem, E6, v0, v1, v2]) ⟨hIW, fun _ h => h, Or.inl ⟨_, by decide, rfl, updF_same _ _ _⟩⟩
      | 20, _, hdep =>
        have G18 : a1.tmps[53]? = some (.bool true) := by rw [← ha1]; exact (putsL_some _ _ _ _ (by decide) (show 53 < 75 from by decide)).trans (congrArg some (hdep 18 (by kernel_rfl)))
        have E5 : a1.tmps[5]?.getD undef = .slice aK nK cK := by rw [← ha1]; exact (putsL_out2 _ _ _ _ (by decide)).trans rfl
        exact wpOp_valG rfl rfl (yielded_of rfl G18) (v := .slice aK nK cK) (w' := W) (by simp [execOp, go_sem, E5]) ⟨hIW, fun _ h => h, Or.inl ⟨_, by decide, rfl, updF_same _ _ _⟩⟩
      | 21, _, hdep =>
        have G18 : a1.tmps[53]? = some (.bool true) := by rw [← ha1]; exact (putsL_some _ _ _ _ (by decide) (show 53 < 75 from by decide)).trans (congrArg some (hdep 18 (by kernel_rfl)))
        have E54 : a1.tmps[54]?.getD undef = .agg #[.int .i64 cb, .slice aX nX cX, .slice aY nY cY] := by rw [← ha1]; exact (putsL_in2 _ _ _ _ (by decide) (show 54 < 75 from by decide)).trans (hdep 19 (by kernel_rfl))
        have E55 : a1.tmps[55]?.getD undef = .slice aK nK cK := by rw [← ha1]; exact (putsL_in2 _ _ _ _ (by decide) (show 55 < 75 from by decide)).trans (hdep 20 (by kernel_rfl))
        refine wpOp_callG rfl rfl (yielded_of rfl G18) (n := 23) (vs := #[.agg #[.int .i64 cb, .slice aX nX cX, .slice aY nY cY], .slice aK nK cK]) (by have := egK #[.agg #[.int .i64 cb, .slice aX nX cX, .slice aY nY cY], .slice aK nK cK] W; simp [execOp, E54, E55, resolve, invoke, go_sem] <;> exact this) ((HC3.out W hIW).mono fun e w' h => (⟨_, h.1, rfl, h.2⟩ : ∃ v, e = .returned v ∧ (v = .bool false ∧ J w'))) ?_
        rintro v w' ⟨rfl, hI'⟩
        exact ⟨hI', fun _ h => h, Or.inl ⟨_, by decide, rfl, updF_same _ _ _⟩⟩
      | 22, _, hdep =>
        have G18 : a1.tmps[53]? = some (.bool true) := by rw [← ha1]; exact (putsL_some _ _ _ _ (by decide) (show 53 < 75 from by decide)).trans (congrArg some (hdep 18 (by kernel_rfl)))
        have E56 : a1.tmps[56]?.getD undef = .bool false := by rw [← ha1]; exact (putsL_in2 _ _ _ _ (by decide) (show 56 < 75 from by decide)).trans (hdep 21 (by kernel_rfl))
        exact wpOp_valG rfl rfl (yielded_of rfl G18) (v := .bool false) (w' := W) (by simp [execOp, go_sem, E56]) ⟨hIW, fun _ h => h, Or.inl ⟨_, by decide, rfl, updF_same _ _ _⟩⟩
      | 23, _, hdep =>
        have G22 : a1.tmps[57]? = some (.bool false) := by rw [← ha1]; exact (putsL_some _ _ _ _ (by decide) (show 57 < 75 from by decide)).trans (congrArg some (hdep 22 (by kernel_rfl)))
        have E10 : a1.tmps[10]?.getD undef = .int .i64 mn := by rw [← ha1]; exact (putsL_out2 _ _ _ _ (by decide)).trans rfl
        exact wpOp_valG rfl rfl (yielded_of rfl G22) (v := .int .i64 mn) (w' := W) (by simp [execOp, go_sem, E10]) ⟨hIW, fun _ h => h, Or.inl ⟨_, by decide, rfl, updF_same _ _ _⟩⟩
      | 24, _, hdep =>
        have G22 : a1.tmps[57]? = some (.bool false) := by rw [← ha1]; exact (putsL_some _ _ _ _ (by decide) (show 57 < 75 from by decide)).trans (congrArg some (hdep 22 (by kernel_rfl)))
        have E58 : a1.tmps[58]?.getD undef = .int .i64 mn := by rw [← ha1]; exact (putsL_in2 _ _ _ _ (by decide) (show 58 < 75 from by decide)).trans (hdep 23 (by kernel_rfl))
        exact wpOp_valG rfl rfl (yielded_of rfl G22) (v := .bool true) (w' := W) (by simp [execOp, go_sem, E58, hqM]) ⟨hIW, fun _ h => h, Or.inl ⟨_, by decide, rfl, updF_same _ _ _⟩⟩
      | 25, _, hdep =>
        have G18 : a1.tmps[53]? = some (.bool true) := by rw [← ha1]; exact (putsL_some _ _ _ _ (by decide) (show 53 < 75 from by decide)).trans (congrArg some (hdep 18 (by kernel_rfl)))
        have E57 : a1.tmps[57]?.getD undef = .bool false := by rw [← ha1]; exact (putsL_in2 _ _ _ _ (by decide) (show 57 < 75 from by decide)).trans (hdep 22 (by kernel_rfl))
        have E59 : a1.tmps[59]?.getD undef = .bool true := by rw [← ha1]; exact (putsL_in2 _ _ _ _ (by decide) (show 59 < 75 from by decide)).trans (hdep 24 (by kernel_rfl))
        exact wpOp_valG rfl rfl (yielded_of rfl G18) (v := .bool true) (w' := W) (by simp [execOp, go_sem, E57, E59]) ⟨hIW, fun _ h => h, Or.inl ⟨_, by decide, rfl, updF_same _ _ _⟩⟩
      | 26, _, hdep =>
        have E53 : a1.tmps[53]?.getD undef = .bool true := by rw [← ha1]; exact (putsL_in2 _ _ _ _ (by decide) (show 53 < 75 from by decide)).trans (hdep 18 (by kernel_rfl))
        have E60 : a1.tmps[60]?.getD undef = .bool true := by rw [← ha1]; exact (putsL_in2 _ _ _ _ (by decide) (show 60 < 75 from by decide)).trans (hdep 25 (by kernel_rfl))
        exact wpOp_val rfl rfl (v := .bool true) (w' := W) (by simp [execOp, go_sem, E53, E60]) ⟨hIW, fun _ h => h, Or.inl ⟨_, by decide, rfl, updF_same _ _ _⟩⟩
      | 27, _, hdep =>
        have E61 : a1.tmps[61]?.getD undef = .bool true := by rw [← ha1]; exact (putsL_in2 _ _ _ _ (by decide) (show 61 < 75 from by decide)).trans (hdep 26 (by kernel_rfl))
        exact wpOp_val rfl rfl (v := .bool true) (w' := W) (by simp [execOp, go_sem, E61]) ⟨hIW, fun _ h => h, Or.inl ⟨_, by decide, rfl, updF_same _ _ _⟩⟩
      | 28, _, hdep =>
        have G27 : a1.tmps[62]? = some (.bool true) := by rw [← ha1]; exact (putsL_some _ _ _ _ (by decide) (show 62 < 75 from by decide)).trans (congrArg some (hdep 27 (by kernel_rfl)))
        have E6 : a1.tmps[6]?.getD undef = .pointer (some ⟨bB, 0, none⟩) := by rw [← ha1]; exact (putsL_out2 _ _ _ _ (by decide)).trans rfl
        have v0 : W.cell? ⟨bB, 0, none⟩ = some (.int .i64 cb) := by simpa using HCLB.out W hIW 0
        have v1 : W.cell? ⟨bB, 1, none⟩ = some (.slice aX nX cX) := by simpa using HCLB.out W hIW 1
        have v2 : W.cell? ⟨bB, 2, none⟩ = some (.slice aY nY cY) := by simpa using HCLB.out W hIW 2
        exact wpOp_valG rfl rfl (yielded_of rfl G27) (v := .agg #[.int .i64 cb, .slice aX nX cX, .slice aY nY cY]) (w' := W) (by simp [execOp, go_sem, E6, v0, v1, v2]) ⟨hIW, fun _ h => h, Or.inl ⟨_, by decide, rfl, updF_same _ _ _⟩⟩
      | 29, _, hdep =>
        have G27 : a1.tmps[62]? = some (.bool true) := by rw [← ha1]; exact (putsL_some _ _ _ _ (by decide) (show 62 < 75 from by decide)).trans (congrArg some (hdep 27 (by kernel_rfl)))
        have E5 : a1.tmps[5]?.getD undef = .slice aK nK cK := by rw [← ha1]; exact (putsL_out2 _ _ _ _ (by decide)).trans rfl
        exact wpOp_valG rfl rfl (yielded_of rfl G27) (v := .slice aK nK cK) (w' := W) (by simp [execOp, go_sem, E5]) ⟨hIW, fun _ h => h, Or.inl ⟨_, by decide, rfl, updF_same _ _ _⟩⟩
      | 30, _, hdep =>
        have G27 : a1.tmps[62]? = some (.bool true) := by rw [← ha1]; exact (putsL_some _ _ _ _ (by decide) (show 62 < 75 from by decide)).trans (congrArg some (hdep 27 (by kernel_rfl)))
        have E63 : a1.tmps[63]?.getD undef = .agg #[.int .i64 cb, .slice aX nX cX, .slice aY nY cY] := by rw [← ha1]; exact (putsL_in2 _ _ _ _ (by decide) (show 63 < 75 from by decide)).trans (hdep 28 (by kernel_rfl))
        have E64 : a1.tmps[64]?.getD undef = .slice aK nK cK := by rw [← ha1]; exact (putsL_in2 _ _ _ _ (by decide) (show 64 < 75 from by decide)).trans (hdep 29 (by kernel_rfl))
        refine wpOp_callG rfl rfl (yielded_of rfl G27) (n := 23) (vs := #[.agg #[.int .i64 cb, .slice aX nX cX, .slice aY nY cY], .slice aK nK cK]) (by have := egK #[.agg #[.int .i64 cb, .slice aX nX cX, .slice aY nY cY], .slice aK nK cK] W; simp [execOp, E63, E64, resolve, invoke, go_sem] <;> exact this) ((HC3.out W hIW).mono fun e w' h => (⟨_, h.1, rfl, h.2⟩ : ∃ v, e = .returned v ∧ (v = .bool false ∧ J w'))) ?_
        rintro v w' ⟨rfl, hI'⟩
        exact ⟨hI', fun _ h => h, Or.inl ⟨_, by decide, rfl, updF_same _ _ _⟩⟩
      | 31, _, hdep =>
        have G27 : a1.tmps[62]? = some (.bool true) := by rw [← ha1]; exact (putsL_some _ _ _ _ (by decide) (show 62 < 75 from by decide)).trans (congrArg some (hdep 27 (by kernel_rfl)))
        have E6 : a1.tmps[6]?.getD undef = .pointer (some ⟨bB, 0, none⟩) := by rw [← ha1]; exact (putsL_out2 _ _ _ _ (by decide)).trans rfl
        have v0 : W.cell? ⟨bB, 0, none⟩ = some (.int .i64 cb) := by simpa using HCLB.out W hIW 0
        have v1 : W.cell? ⟨bB, 1, none⟩ = some (.slice aX nX cX) := by simpa using HCLB.out W hIW 1
        have v2 : W.cell? ⟨bB, 2, none⟩ = some (.slice aY nY cY) := by simpa using HCLB.out W hIW 2
        exact wpOp_valG rfl rfl (yielded_of rfl G27) (v := .agg #[.int .i64 cb, .slice aX nX cX, .slice aY nY cY]) (w' := W) (by simp [execOp, go_sem, E6, v0, v1, v2]) ⟨hIW, fun _ h => h, Or.inl ⟨_, by decide, rfl, updF_same _ _ _⟩⟩
      | 32, _, hdep =>
        have G27 : a1.tmps[62]? = some (.bool true) := by rw [← ha1]; exact (putsL_some _ _ _ _ (by decide) (show 62 < 75 from by decide)).trans (congrArg some (hdep 27 (by kernel_rfl)))
        have E5 : a1.tmps[5]?.getD undef = .slice aK nK cK := by rw [← ha1]; exact (putsL_out2 _ _ _ _ (by decide)).trans rfl
        exact wpOp_valG rfl rfl (yielded_of rfl G27) (v := .slice aK nK cK) (w' := W) (by simp [execOp, go_sem, E5]) ⟨hIW, fun _ h => h, Or.inl ⟨_, by decide, rfl, updF_same _ _ _⟩⟩
      | 33, _, hdep =>
        have G27 : a1.tmps[62]? = some (.bool true) := by rw [← ha1]; exact (putsL_some _ _ _ _ (by decide) (show 62 < 75 from by decide)).trans (congrArg some (hdep 27 (by kernel_rfl)))
        have E66 : a1.tmps[66]?.getD undef = .agg #[.int .i64 cb, .slice aX nX cX, .slice aY nY cY] := by rw [← ha1]; exact (putsL_in2 _ _ _ _ (by decide) (show 66 < 75 from by decide)).trans (hdep 31 (by kernel_rfl))
        have E67 : a1.tmps[67]?.getD undef = .slice aK nK cK := by rw [← ha1]; exact (putsL_in2 _ _ _ _ (by decide) (show 67 < 75 from by decide)).trans (hdep 32 (by kernel_rfl))
        refine wpOp_callG rfl rfl (yielded_of rfl G27) (n := 20) (vs := #[.agg #[.int .i64 cb, .slice aX nX cX, .slice aY nY cY], .slice aK nK cK]) (by have := egS #[.agg #[.int .i64 cb, .slice aX nX cX, .slice aY nY cY], .slice aK nK cK] W; simp [execOp, E66, E67, resolve, invoke, go_sem] <;> exact this) ((HC4.out W hIW).mono fun e w' h => (⟨_, h.1, rfl, h.2⟩ : ∃ v, e = .returned v ∧ (v = .int .i64 sh ∧ J w'))) ?_
        rintro v w' ⟨rfl, hI'⟩
        exact ⟨hI', fun _ h => h, Or.inl ⟨_, by decide, rfl, updF_same _ _ _⟩⟩
      | 34, _, hdep =>
        have G27 : a1.tmps[62]? = some (.bool true) := by rw [← ha1]; exact (putsL_some _ _ _ _ (by decide) (show 62 < 75 from by decide)).trans (congrArg some (hdep 27 (by kernel_rfl)))
        have E68 : a1.tmps[68]?.getD undef = .int .i64 sh := by rw [← ha1]; exact (putsL_in2 _ _ _ _ (by decide) (show 68 < 75 from by decide)).trans (hdep 33 (by kernel_rfl))
        exact wpOp_valG rfl rfl (yielded_of rfl G27) (v := .bool false) (w' := W) (by simp [execOp, go_sem, E68, hqS]) ⟨hIW, fun _ h => h, Or.inl ⟨_, by decide, rfl, updF_same _ _ _⟩⟩
      | 35, _, hdep =>
        have G27 : a1.tmps[62]? = some (.bool true) := by rw [← ha1]; exact (putsL_some _ _ _ _ (by decide) (show 62 < 75 from by decide)).trans (congrArg some (hdep 27 (by kernel_rfl)))
        have E65 : a1.tmps[65]?.getD undef = .bool false := by rw [← ha1]; exact (putsL_in2 _ _ _ _ (by decide) (show 65 < 75 from by decide)).trans (hdep 30 (by kernel_rfl))
        have E69 : a1.tmps[69]?.getD undef = .bool false := by rw [← ha1]; exact (putsL_in2 _ _ _ _ (by decide) (show 69 < 75 from by decide)).trans (hdep 34 (by kernel_rfl))
        exact wpOp_valG rfl rfl (yielded_of rfl G27) (v := .bool true) (w' := W) (by simp [execOp, go_sem, E65, E69]) ⟨hIW, fun _ h => h, Or.inl ⟨_, by decide, rfl, updF_same _ _ _⟩⟩
      | 36, _, hdep =>
        have E62 : a1.tmps[62]?.getD undef = .bool true := by rw [← ha1]; exact (putsL_in2 _ _ _ _ (by decide) (show 62 < 75 from by decide)).trans (hdep 27 (by kernel_rfl))
        have E70 : a1.tmps[70]?.getD undef = .bool true := by rw [← ha1]; exact (putsL_in2 _ _ _ _ (by decide) (show 70 < 75 from by decide)).trans (hdep 35 (by kernel_rfl))
        exact wpOp_val rfl rfl (v := .bool true) (w' := W) (by simp [execOp, go_sem, E62, E70]) ⟨hIW, fun _ h => h, Or.inl ⟨_, by decide, rfl, updF_same _ _ _⟩⟩
      | 37, _, hdep =>
        have E71 : a1.tmps[71]?.getD undef = .bool true := by rw [← ha1]; exact (putsL_in2 _ _ _ _ (by decide) (show 71 < 75 from by decide)).trans (hdep 36 (by kernel_rfl))
        exact wpOp_val rfl rfl (v := .bool true) (w' := W) (by simp [execOp, go_sem, E71]) ⟨hIW, fun _ h => h, Or.inl ⟨_, by decide, rfl, updF_same _ _ _⟩⟩
      | 38, _, hdep =>
        have G37 : a1.tmps[72]? = some (.bool true) := by rw [← ha1]; exact (putsL_some _ _ _ _ (by decide) (show 72 < 75 from by decide)).trans (congrArg some (hdep 37 (by kernel_rfl)))
        refine wpOp_callG rfl rfl (yielded_of rfl G37) (n := 18) (vs := #[]) (by have := egX #[] W; simp [execOp, go_sem, resolve, invoke, go_sem] <;> exact this) ((HC9.out W hIW).mono fun e w' h => (⟨_, h.1, rfl, h.2⟩ : ∃ v, e = .returned v ∧ (v = .bool true ∧ J w'))) ?_
        rintro v w' ⟨rfl, hI'⟩
        exact ⟨hI', fun _ h => h, Or.inl ⟨_, by decide, rfl, updF_same _ _ _⟩⟩
      | 39, _, hdep =>
        have E72 : a1.tmps[72]?.getD undef = .bool true := by rw [← ha1]; exact (putsL_in2 _ _ _ _ (by decide) (show 72 < 75 from by decide)).trans (hdep 37 (by kernel_rfl))
        have E73 : a1.tmps[73]?.getD undef = .bool true := by rw [← ha1]; exact (putsL_in2 _ _ _ _ (by decide) (show 73 < 75 from by decide)).trans (hdep 38 (by kernel_rfl))
        exact wpOp_val rfl rfl (v := .bool true) (w' := W) (by simp [execOp, go_sem, E72, E73]) ⟨hIW, fun _ h => h, Or.inl ⟨_, by decide, rfl, updF_same _ _ _⟩⟩
      | 40, _, hdep =>
        have E74 : a1.tmps[74]?.getD undef = .bool true := by rw [← ha1]; exact (putsL_in2 _ _ _ _ (by decide) (show 74 < 75 from by decide)).trans (hdep 39 (by kernel_rfl))
        exact wpOp_val rfl rfl (v := .bool true) (w' := W) (by simp [execOp, go_sem, E74]) ⟨hIW, fun _ h => h, Or.inl ⟨_, by decide, rfl, updF_same _ _ _⟩⟩
      | iq + 41, h, _ => exact absurd h (by omega)
    case refine_2 =>
      intro f W hIW hR
      have h2 : f 2 = .bool true := hR 40 (show 40 < 41 from by decide)
      simp only [putsL, List.foldl_cons, List.foldl_nil, Act.put, List.setIfInBounds_toArray, List.set_cons_zero, List.set_cons_succ]
      go_wp2
      go_ret
      first
        | exact ⟨rfl, HFIN.out _ hIW⟩
        | exact ⟨congrArg Ending.returned h2, HFIN.out _ hIW⟩

end Go.Proofs.Ytoelidndnajedaa
