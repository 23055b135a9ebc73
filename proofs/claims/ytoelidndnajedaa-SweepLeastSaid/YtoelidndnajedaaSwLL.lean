/- A sweep never takes a sub-account below its greatest balance, never gives one more than its least one, and moves nothing between others than the main one: for every tape. -/
import Derived.Test.YtoelidndnajedaaSwR
import Derived.Test.YtoelidndnajedaaSwU
import Derived.Test.YtoelidndnajedaaAcL
set_option linter.unusedSimpArgs false
set_option linter.unusedVariables false
namespace Go.Proofs.Ytoelidndnajedaa
open Go.RowKit Go.Lib Go.Proofs

theorem swept_one {a b : Acc} {ks : List Kp} {day : Int} {es : List Ent} (h : Swept a ks day es b) (hk : keepsB a.subs 0 true ks = true) (hbig : ∀ k ∈ ks, balOf a.subs k.sub ≤ 1000000000000) {k : Kp} (hkm : k ∈ ks) :
    k.low ≤ k.high ∧ (k.high < balOf a.subs k.sub → balOf b.subs k.sub = k.high) ∧ (balOf a.subs k.sub < k.low → balOf a.subs k.sub ≤ balOf b.subs k.sub ∧ balOf b.subs k.sub ≤ k.low) ∧ (k.low ≤ balOf a.subs k.sub → balOf a.subs k.sub ≤ k.high → balOf b.subs k.sub = balOf a.subs k.sub) := by
  have hkk := (keepsB_mem hk k hkm).1
  have he := (h.each k hkm).1
  have hbg := hbig k hkm
  obtain ⟨h1, h2, h3, h4, h5⟩ := hkk
  have hup : upB a k = if k.high < balOf a.subs k.sub then k.high else balOf a.subs k.sub := by
    unfold upB upX
    split <;> split <;> omega
  rw [hup] at he
  refine ⟨h4, fun q => ?_, fun q => ?_, fun q r => ?_⟩
  · rw [if_pos q] at he; omega
  · rw [if_neg (by omega)] at he; omega
  · rw [if_neg (by omega)] at he; omega
theorem keepsB_ids {l m : List SubA} (h : m.map SubA.id = l.map SubA.id) {x : Int} (hx : (atS l x).isSome = true) : (atS m x).isSome = true := by
  have h1 : ∀ {l m : List SubA}, m.map SubA.id = l.map SubA.id → (atS m x).isSome = (atS l x).isSome := by
    intro l
    induction l with
    | nil => intro m h; simp at h; subst h; rfl
    | cons s l ih =>
      intro m h
      cases m with
      | nil => simp at h
      | cons t m =>
        simp only [List.map_cons, List.cons.injEq] at h
        have := ih h.2
        simp only [atS, h.1]
        split
        · rfl
        · simpa using this
  rw [h1 h]; exact hx

set_option maxRecDepth 100000 in
set_option maxHeartbeats 32000000 in
theorem swleast_any (v : Value) (n : Nat) (w : World) (hi : IntsAt w v n w.heap.size) (hn : n ≤ 9223372036854775807) :
    Calls Try.prog 5 #[v] w fun e w' => e = .returned (.bool true) ∧ Below w.heap.size w w' := by
  have HNEW := Lib.hid (sNew_any v n w hi hn)
  have HSN := Lib.hid sane24_true
  clear hi hn
  go_enter Try.func5, Try.ntmps5
  go_wp2_with fail
  refine (HNEW.out).mono ?_
  rintro e w1 ⟨rfl, t1, b1⟩
  obtain ⟨tb, htb⟩ : ∃ tb, tb = w.heap.size := ⟨_, rfl⟩
  rw [← htb] at t1 ⊢
  have HACC : Hid (Calls Try.prog 10 #[.pointer (some ⟨tb, 0, none⟩), .int .i64 10] w1 (AccPost tb 10 w1)) := Lib.hid (sAccount_any tb 10 w1 t1 (by decide))
  have HW1 := Lib.hid b1
  have HTB := Lib.hid htb
  clear t1 b1 HNEW htb
  go_wp2_with fail
  refine (HACC.out).mono ?_
  rintro e w2 ⟨a, su, en, rfl, hmd, hs, he, hsi, hcr⟩
  obtain ⟨aS, cS, rfl, -, -⟩ := hs.shape
  obtain ⟨aE, cE, rfl, -, -⟩ := entsAt_shape he
  have HKP := Lib.hid (sKeeps_any tb w2 hsi.src)
  have HSI2 := Lib.hid hsi
  have HS2 := Lib.hid hs
  have HE2 := Lib.hid he
  have HMD := Lib.hid hmd
  have HB2 := Lib.hid ((HW1.out).grown hsi.old HW1.out.size (fun q e => by injection e with e; rw [← e, ← HTB.out]; exact Nat.le_refl _))
  clear hsi hs he hmd HACC
  go_wp2_with fail
  refine (HKP.out).mono ?_
  rintro e w3 ⟨kv, ks, rfl, hku, hko, hsi3⟩
  have hS3 := HS2.out.turn HSI2.out.src hsi3.old
  have hE3 := HE2.out.turn HSI2.out.src hsi3.old
  have hK3 : KeepsAt w3 kv ks := ListAt.owns hko
  have hB3 := HB2.out.grown hsi3.old HB2.out.size (fun q e => by injection e with e; rw [← e, ← HTB.out]; exact Nat.le_refl _)
  obtain ⟨aK, cK, rfl, -, -⟩ := hK3.open
  have hko : keepsB a.subs 0 true ks = true := hku.right HMD.out.ids
  have HSRC3 := Lib.hid hsi3.src
  have HSI3 : Hid (SI w1 tb w3) := Lib.hid ⟨hsi3.src, grown_step HSI2.out.old hsi3.old, HSI2.out.lt⟩
  obtain ⟨nS, hnS⟩ : ∃ k, k = a.subs.length := ⟨_, rfl⟩
  obtain ⟨nE, hnE⟩ : ∃ k, k = a.ents.length := ⟨_, rfl⟩
  obtain ⟨nK, hnK⟩ : ∃ k, k = ks.length := ⟨_, rfl⟩
  obtain ⟨cr, hcr2⟩ : ∃ c, c = a.credit := ⟨_, rfl⟩
  rw [← hnS] at hS3
  rw [← hnE] at hE3
  rw [← hnK] at hK3
  rw [← hnS, ← hnE, ← hcr2]
  try rw [← hnK]
  have HKU := Lib.hid hku
  have HKO := Lib.hid hko
  have HNS := Lib.hid hnS
  have HNE := Lib.hid hnE
  have HNK := Lib.hid hnK
  have HCR := Lib.hid hcr2
  have hz := checkM_zero.1 HMD.out.right
  have hns20 : nS ≤ 20 := by rw [hnS]; exact hz.1
  have hne4 : nE ≤ 10 := by rw [hnE]; exact HMD.out.len
  have hnk3 : nK ≤ 3 := by rw [hnK]; exact hku.len
  clear hku hko hsi3 hnS hnE hnK hcr2 hz hcr HKP HSI2 HS2 HE2 HB2
  go_upto_region 3 with fail
  obtain ⟨w4, hw4⟩ : ∃ w4, w4 = w3.alloc (.cells #[.int .i64 cr, .slice aS nS cS, .slice aE nE cE] 28) := ⟨_, rfl⟩
  obtain ⟨bA, hbA⟩ : ∃ bA, bA = w3.heap.size := ⟨_, rfl⟩
  have HBA : Hid (w4.heap[bA]? = some (.cells #[.int .i64 cr, .slice aS nS cS, .slice aE nE cE] 28 (0, 0))) := Lib.hid (by rw [hw4, hbA]; exact heap_alloc_new _ _)
  have HSA : Hid (SubsAt w4 (.slice aS nS cS) a.subs) := Lib.hid (by rw [hw4]; exact hS3.below (below_alloc _ _))
  have HEA : Hid (EntsAt w4 (.slice aE nE cE) a.ents) := Lib.hid (by rw [hw4]; exact hE3.below (below_alloc _ _))
  have HKA : Hid (KeepsAt w4 (.slice aK nK cK) ks) := Lib.hid (by rw [hw4]; exact hK3.below (below_alloc _ _))
  have HB4 : Hid (Below w.heap.size w w4) := Lib.hid (by rw [hw4]; exact hB3.alloc hB3.size _)
  rw [← hw4, ← hbA]
  clear hw4 hbA hS3 hE3 hK3 hB3 HSRC3 HSI3
  have htop := HMD.out.top (by omega)
  have hsum := sumM_le htop
  have hids : a.subs.length = 4 := by have := congrArg List.length HMD.out.ids; simpa using this
  have hday := HMD.out.day
  obtain ⟨es, b, hsw⟩ := sweep_all (day := 50) HMD.out.right HKO.out (by omega) (by omega) (by omega) (by rw [hids] at hsum; omega) (by rw [← HNE.out, ← HNK.out]; omega)
  have HSW := Lib.hid hsw
  have HBIG : Hid (∀ k ∈ ks, balOf a.subs k.sub ≤ 1000000000000) := Lib.hid fun k _ => by
    have := balOf_le htop (by omega) k.sub
    omega
  have HRB := Lib.hid hsw.run.right
  have hlenP : es.length ≤ 2 * ks.length := hsw.len
  obtain ⟨nP, hnP⟩ : ∃ q, q = es.length := ⟨_, rfl⟩
  have HNP := Lib.hid hnP
  have hnp6 : nP ≤ 6 := by rw [hnP]; rw [← HNK.out] at hlenP; omega
  have HPLN : Hid (∀ W, Below w4.heap.size w4 W → Calls Try.prog 21 #[.agg #[.int .i64 cr, .slice aS nS cS, .slice aE nE cE], .slice aK nK cK, .int .i64 50] W fun e w' => ∃ (aP : Option Addr) (cP : Nat), e = .returned (.tuple #[.slice aP nP cP, .int .i64 0]) ∧ EntsAt w' (.slice aP nP cP) es ∧ Below W.heap.size W w') := Lib.hid fun W hW => by
    have h := swPlan_right a ks (.slice aS nS cS) (.slice aE nE cE) (.slice aK nK cK) 50 es W (HSA.out.below hW) (HEA.out.below hW) (HKA.out.below hW) (by rw [← HNK.out]; omega) HSW.out.plan
    rw [← HCR.out] at h
    refine h.mono ?_
    rintro e w' ⟨ao, cap, h1, h2, h3⟩
    rw [← HNP.out] at h1 h2
    exact ⟨ao, cap, h1, by unfold EntsAt; have := RowG.owns h2; rwa [HNP.out] at this ⊢, h3⟩
  have HPOST : Hid (∀ W, Below w4.heap.size w4 W → Calls Try.prog 22 #[.agg #[.int .i64 cr, .slice aS nS cS, .slice aE nE cE], .slice aK nK cK, .int .i64 50] W fun e w' => ∃ (aX aY : Option Addr) (nX cX nY cY : Nat) (cb : Int), e = .returned (.tuple #[.agg #[.int .i64 cb, .slice aX nX cX, .slice aY nY cY], .int .i64 0]) ∧ cb = b.credit ∧ nX = b.subs.length ∧ nY = b.ents.length ∧ SubsAt w' (.slice aX nX cX) b.subs ∧ EntsAt w' (.slice aY nY cY) b.ents ∧ Below W.heap.size W w') := Lib.hid fun W hW => by
    have h := rwSweep_right a b ks (.slice aS nS cS) (.slice aE nE cE) (.slice aK nK cK) 50 es W (HSA.out.below hW) (HEA.out.below hW) (HKA.out.below hW) (by rw [← HNK.out]; omega) HSW.out.plan HSW.out.run.posts
    rw [← HCR.out] at h
    refine h.mono ?_
    rintro e w' ⟨su, en, h1, h2, h3, h4⟩
    obtain ⟨aX, cX, rfl, -, -⟩ := h2.shape
    obtain ⟨aY, cY, rfl, -, -⟩ := entsAt_shape h3
    exact ⟨aX, aY, _, cX, _, cY, _, h1, rfl, rfl, rfl, h2, h3, h4⟩
  clear htop hsum hids hday hsw hlenP hnP
  have hbx := HBA.out
  have u0 := obj_cell hbx 0
  have u1 := obj_cell hbx 1
  have u2 := obj_cell hbx 2
  simp at u0 u1 u2
  clear hbx
  go_wp2_with fail
  refine (HPLN.out _ (Below.refl _ _)).mono ?_
  rintro e w5 ⟨aP, cP, rfl, hep5, hb5⟩
  have HB5 := Lib.hid hb5
  have HEP5 := Lib.hid hep5
  have hbx := obj_below HBA.out HB5.out
  have v0 := obj_cell hbx 0
  have v1 := obj_cell hbx 1
  have v2 := obj_cell hbx 2
  simp at v0 v1 v2
  clear hbx u0 u1 u2 hb5 hep5 HPLN
  go_wp2_with fail
  refine (HPOST.out _ HB5.out).mono ?_
  rintro e w6 ⟨aX, aY, nX, cX, nY, cY, cb, rfl, hcb, hnX, hnY, hs6, he6, hb6⟩
  have HCB := Lib.hid hcb
  have HNX := Lib.hid hnX
  have HNY := Lib.hid hnY
  have hbz := checkM_zero.1 HRB.out
  have hnx20 : nX ≤ 20 := by rw [hnX]; exact hbz.1
  have hny4 : nY ≤ 400 := by rw [hnY]; exact hbz.2.1
  obtain ⟨w7, hw7⟩ : ∃ x, x = w6.alloc (.cells #[.int .i64 cb, .slice aX nX cX, .slice aY nY cY] 28) := ⟨_, rfl⟩
  obtain ⟨bB, hbB⟩ : ∃ x, x = w6.heap.size := ⟨_, rfl⟩
  have hb57 : Below w5.heap.size w5 w7 := by rw [hw7]; exact hb6.alloc hb6.size _
  have HXB : Hid (w7.heap[bB]? = some (.cells #[.int .i64 cb, .slice aX nX cX, .slice aY nY cY] 28 (0, 0))) := Lib.hid (by rw [hw7, hbB]; exact heap_alloc_new _ _)
  have HB7 : Hid (Below w4.heap.size w4 w7) := Lib.hid (HB5.out.trans (hb57.mono HB5.out.size))
  have HXA := Lib.hid (obj_below HBA.out HB7.out)
  have HSB : Hid (SubsAt w7 (.slice aX nX cX) b.subs) := Lib.hid (by rw [hw7]; exact hs6.below (below_alloc _ _))
  have HEB : Hid (EntsAt w7 (.slice aY nY cY) b.ents) := Lib.hid (by rw [hw7]; exact he6.below (below_alloc _ _))
  have HEP := Lib.hid (HEP5.out.below hb57)
  have HK7 := Lib.hid (HKA.out.below HB7.out)
  have HS7 := Lib.hid (HSA.out.below HB7.out)
  have HE7 := Lib.hid (HEA.out.below HB7.out)
  have HW7 := Lib.hid (HB4.out.trans (HB7.out.mono HB4.out.size))
  have HWE := Lib.hid hw7
  have HBE := Lib.hid hbB
  clear v0 v1 v2 HPOST hcb hnX hnY hbz hw7 hbB hb57 hs6 he6 hb6 HEP5 HB5 HSA HEA HKA HBA HB4
  go_upto_region 7 with fail
  rw [← HWE.out, ← HBE.out]
  have HONE : Hid (∀ k ∈ ks, ∀ W, Below w7.heap.size w7 W → Calls Try.prog 19 #[.agg #[.int .i64 cr, .slice aS nS cS, .slice aE nE cE], .int .i64 k.sub] W fun e w' => e = .returned (.tuple #[.int .i64 (balOf a.subs k.sub), .bool true]) ∧ Below W.heap.size W w') := Lib.hid fun k hk W hW => by
    have h := raBalance_any a (.slice aS nS cS) (.slice aE nE cE) k.sub W (HS7.out.below hW) (HE7.out.below hW) (by rw [← HNS.out]; omega) (by rw [← HNE.out]; omega)
    rw [balanceM_at HMD.out.right (keepsB_mem HKO.out k hk).1.1, ← HCR.out] at h
    exact h
  have HTWO : Hid (∀ k ∈ ks, ∀ W, Below w7.heap.size w7 W → Calls Try.prog 19 #[.agg #[.int .i64 cb, .slice aX nX cX, .slice aY nY cY], .int .i64 k.sub] W fun e w' => e = .returned (.tuple #[.int .i64 (balOf b.subs k.sub), .bool true]) ∧ Below W.heap.size W w') := Lib.hid fun k hk W hW => by
    have h := raBalance_any b (.slice aX nX cX) (.slice aY nY cY) k.sub W (HSB.out.below hW) (HEB.out.below hW) (by rw [← HNX.out]; omega) (by rw [← HNY.out]; omega)
    rw [balanceM_at HRB.out (keepsB_ids HSW.out.run.ids (keepsB_mem HKO.out k hk).1.1), ← HCB.out] at h
    exact h
  obtain ⟨aK', cK', hke, hkcap, hks⟩ := KeepsAt.open HK7.out
  injection hke with hke1 hke2 hke3
  subst hke1 hke3
  have HKS := Lib.hid hks
  obtain ⟨aP', cP', hpe, hpcap, hps⟩ := entsAt_shape HEP.out
  injection hpe with hpe1 hpe2 hpe3
  subst hpe1 hpe3
  have HPS := Lib.hid hps
  rw [← HNP.out] at hpcap
  rw [← HNK.out] at hkcap
  clear hke2 hpe2 hks hps
  have hnP0 : (0 : Int) ≤ (nP : Int) := by omega
  go_wp2
  go_loopw [40] (fun iv wr => ∃ j : Nat, iv = .int .i64 j ∧ j ≤ nK ∧ Hid (Below w7.heap.size w7 wr)) (fun iv _ => nK - (RowKit.intOf iv).toNat)
  case atStart => exact ⟨0, rfl, by omega, Lib.hid (Below.refl _ _)⟩
  case round =>
    obtain ⟨j, rfl, hjn, HB⟩ := hrel
    by_cases hlt : j < nK
    · have hjl : j < ks.length := by rw [← HNK.out]; exact hlt
      obtain ⟨b1, o1, rfl, hb1, hcc⟩ := HKS.out (by omega)
      have hcell := fun i (hi : i < 3) => (HB.out.cell (p := ⟨b1, o1 + j * 3 + i, none⟩) hb1).trans (hcc j hjl i hi)
      have hmem : keepAt ks j ∈ ks := by rw [keepAt_get hjl]; exact List.getElem_mem hjl
      have HA1 := Lib.hid (HONE.out _ hmem)
      have HA2 := Lib.hid (HTWO.out _ hmem)
      obtain ⟨hlh, hc1, hc2, hc3⟩ := swept_one HSW.out HKO.out HBIG.out hmem
      generalize keepAt ks j = x at *
      obtain ⟨x0, x1, x2⟩ := x
      simp only at hlh hc1 hc2 hc3 HA1 HA2
      have c0 : wr.cell? ⟨b1, o1 + j * 3, none⟩ = some (.int .i64 x0) := hcell 0 (by omega)
      have c1 : wr.cell? ⟨b1, o1 + j * 3 + 1, none⟩ = some (.int .i64 x1) := hcell 1 (by omega)
      have c2 : wr.cell? ⟨b1, o1 + j * 3 + 2, none⟩ = some (.int .i64 x2) := hcell 2 (by omega)
      generalize balOf a.subs x0 = old at *
      generalize balOf b.subs x0 = now at *
      have hj0 : (0 : Int) ≤ (j : Int) := by omega
      have hj1 : (j : Int) < (nK : Int) := by omega
      have HBK := Lib.hid (HB.out.alloc HB.out.size (.cells #[.int .i64 x0, .int .i64 x1, .int .i64 x2] 50))
      have HXK := Lib.hid (heap_alloc_new wr (.cells #[.int .i64 x0, .int .i64 x1, .int .i64 x2] 50))
      have hbx := obj_below HXA.out HBK.out
      have u0 := obj_cell hbx 0
      have u1 := obj_cell hbx 1
      have u2 := obj_cell hbx 2
      simp at u0 u1 u2
      clear hbx hcell hcc hmem
      go_wp2_with fail
      refine (HA1.out _ HBK.out).mono ?_
      rintro e w8 ⟨rfl, hb8⟩
      have HB8 := Lib.hid (HBK.out.trans (hb8.mono HBK.out.size))
      have HXK8 := Lib.hid (obj_below HXK.out hb8)
      have hbx := obj_below HXB.out HB8.out
      have v0 := obj_cell hbx 0
      have v1 := obj_cell hbx 1
      have v2 := obj_cell hbx 2
      simp at v0 v1 v2
      have hbk := HXK8.out
      have k0 := obj_cell hbk 0
      have k1 := obj_cell hbk 1
      have k2 := obj_cell hbk 2
      simp at k0 k1 k2
      clear hbx hbk u0 u1 u2 c0 c1 c2 hb8 HXK HBK HA1
      go_wp2_with fail
      refine (HA2.out _ HB8.out).mono ?_
      rintro e w9 ⟨rfl, hb9⟩
      have HB9 := Lib.hid (HB8.out.trans (hb9.mono HB8.out.size))
      have hbk := obj_below HXK8.out hb9
      have m0 := obj_cell hbk 0
      have m1 := obj_cell hbk 1
      have m2 := obj_cell hbk 2
      simp at m0 m1 m2
      clear hbk v0 v1 v2 k0 k1 k2 hb9 HXK8 HB8 HA2
      by_cases q1 : x2 < old
      · have q2 : ¬ old < x1 := by omega
        have q3 : x1 ≤ old := by omega
        have q4 : ¬ old ≤ x2 := by omega
        have q5 : (now != x2) = false := by rw [hc1 q1]; simp
        clear hc1 hc2 hc3 hlh
        go_wp2
        go_roundw
        case rel => exact ⟨j + 1, by first | rfl | go_num, by omega, HB9⟩
        case measure => simp [RowKit.intOf]; omega
      · by_cases q2 : old < x1
        · have q3 : ¬ now < old := by have := hc2 q2; omega
          have q4 : ¬ x1 < now := by have := hc2 q2; omega
          have q5 : ¬ x1 ≤ old := by omega
          clear hc1 hc2 hc3 hlh
          go_wp2
          go_roundw
          case rel => exact ⟨j + 1, by first | rfl | go_num, by omega, HB9⟩
          case measure => simp [RowKit.intOf]; omega
        · have q3 : x1 ≤ old := by omega
          have q4 : old ≤ x2 := by omega
          have q5 : (now != old) = false := by rw [hc3 q3 q4]; simp
          clear hc1 hc2 hc3 hlh
          go_wp2
          go_roundw
          case rel => exact ⟨j + 1, by first | rfl | go_num, by omega, HB9⟩
          case measure => simp [RowKit.intOf]; omega
    · obtain rfl : j = nK := by omega
      obtain ⟨w8, hw8⟩ : ∃ x, x = wr := ⟨_, rfl⟩
      rw [← hw8] at HB ⊢
      clear hw8 hlt hjn
      go_wp2
      go_loopw [105] (fun iv wr => ∃ j : Nat, iv = .int .i64 j ∧ j ≤ nP ∧ Hid (Below w8.heap.size w8 wr)) (fun iv _ => nP - (RowKit.intOf iv).toNat)
      case atStart => exact ⟨0, rfl, by omega, Lib.hid (Below.refl _ _)⟩
      case round =>
        obtain ⟨i, rfl, hin, HBI⟩ := hrel
        have HBW := Lib.hid (HB.out.trans (HBI.out.mono HB.out.size))
        by_cases hlt : i < nP
        · have hil : i < es.length := by rw [← HNP.out]; exact hlt
          obtain ⟨b1, o1, rfl, hb1, hcc⟩ := HPS.out (by omega)
          have hcell := fun q (hq : q < 6) => (HBW.out.cell (p := ⟨b1, o1 + i * 6 + q, none⟩) hb1).trans (hcc i hil q hq)
          obtain ⟨z1, z2, z3, z4⟩ := HSW.out.run.ends (entAt es i) (by rw [entAt_get hil]; exact List.getElem_mem hil)
          generalize entAt es i = x at *
          obtain ⟨x0, x1, x2, x3, x4, x5⟩ := x
          simp only at z1 z2 z3 z4
          have c0 : wr.cell? ⟨b1, o1 + i * 6, none⟩ = some (.int .i64 x0) := hcell 0 (by omega)
          have c1 : wr.cell? ⟨b1, o1 + i * 6 + 1, none⟩ = some (.int .i64 x1) := hcell 1 (by omega)
          have c2 : wr.cell? ⟨b1, o1 + i * 6 + 2, none⟩ = some (.int .i64 x2) := hcell 2 (by omega)
          have c3 : wr.cell? ⟨b1, o1 + i * 6 + 3, none⟩ = some (.int .i64 x3) := hcell 3 (by omega)
          have c4 : wr.cell? ⟨b1, o1 + i * 6 + 4, none⟩ = some (.int .i64 x4) := hcell 4 (by omega)
          have c5 : wr.cell? ⟨b1, o1 + i * 6 + 5, none⟩ = some (.int .i64 x5) := hcell 5 (by omega)
          have hi0 : (0 : Int) ≤ (i : Int) := by omega
          have hi1 : (i : Int) < (nP : Int) := by omega
          have q1 : ¬ x4 < 1 := by omega
          have q2 : (x5 != 0) = false := by rw [z3]; rfl
          have q3 : (x1 != 50) = false := by rw [z4]; rfl
          have HBK := Lib.hid (HBI.out.alloc HBI.out.size (.cells #[.int .i64 x0, .int .i64 x1, .int .i64 x2, .int .i64 x3, .int .i64 x4, .int .i64 x5] 38))
          clear hcell hcc z2 z3 z4
          by_cases q4 : x2 = 1
          · have q5 : (x2 != 1) = false := by rw [q4]; rfl
            clear q4 z1
            go_wp2
            go_roundw
            case rel => exact ⟨i + 1, by first | rfl | go_num, by omega, HBK⟩
            case measure => simp [RowKit.intOf]; omega
          · have q5 : (x2 != 1) = true := by simp [q4]
            have q6 : (x3 != 1) = false := by rcases z1 with h | h; exact absurd h q4; rw [h]; rfl
            clear q4 z1
            go_wp2
            go_roundw
            case rel => exact ⟨i + 1, by first | rfl | go_num, by omega, HBK⟩
            case measure => simp [RowKit.intOf]; omega
        · obtain rfl : i = nP := by omega
          go_wp2_with fail
          refine (HSN.out _).mono ?_
          rintro e w9 ⟨rfl, hb9⟩
          have HBF := Lib.hid (HW7.out.trans ((HBW.out.trans (hb9.mono HBW.out.size)).mono HW7.out.size))
          clear hb9
          go_wp2
          go_ret
          exact ⟨rfl, HBF.out⟩

end Go.Proofs.Ytoelidndnajedaa
