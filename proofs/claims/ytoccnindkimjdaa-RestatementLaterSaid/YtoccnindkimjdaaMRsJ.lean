/- The package's small functions of histories, on right ones: lastDay, ofResult, sum, versions, rightCorrection. -/
import Derived.Test.YtoccnindkimjdaaMRsI
set_option linter.unusedSimpArgs false
set_option linter.unusedVariables false
set_option linter.unusedSimpArgs false
set_option linter.unusedVariables false
namespace Go.Proofs.Ytoccnindkimjdaa
open Go.RowKit Go.Lib Go.Proofs

set_option maxHeartbeats 400000 in
theorem rslastDay_ok {y : Int} (w : World) (h1 : 0 ≤ y) (h2 : y ≤ 99) : Calls Try.prog 56 #[.int .i64 y] w fun e w' => e = .returned (.int .i64 (360 * y + 359)) ∧ w = w' := by
  have h36 : IntKind.i64.wrap (360 * y) = 360 * y := IntWalk.i64_in _ (by omega)
  have h37 : IntKind.i64.wrap (360 * y + 360) = 360 * y + 360 := IntWalk.i64_in _ (by omega)
  have h38 : IntKind.i64.wrap (360 * y + 360 - 1) = 360 * y + 359 := by rw [show 360 * y + 360 - 1 = 360 * y + 359 by omega]; exact IntWalk.i64_in _ (by omega)
  go_enter Try.func56, Try.ntmps56
  go_wp2
  go_ret
  exact ⟨rfl, rfl⟩
set_option maxHeartbeats 400000 in
theorem rsofResult_any (a : Int) (w : World) : Calls Try.prog 43 #[.int .i64 a] w fun e w' => e = .returned (.bool (decide (4 ≤ classM a))) ∧ w = w' := by
  go_enter Try.func43, Try.ntmps43
  go_wp2_with fail
  refine (lgClass_any a _).mono ?_
  rintro e w1 ⟨rfl, rfl⟩
  go_wp2
  go_ret
  exact ⟨rfl, rfl⟩

set_option maxRecDepth 100000 in
set_option maxHeartbeats 4000000 in
theorem rssum_ok {a b : Stm} (ha : StmIn 1000000000 a) (hb : StmIn 1000000000 b) (w : World) : Calls Try.prog 34 #[.agg (stmA a), .agg (stmA b)] w fun e w' => e = .returned (.agg (stmA (a.add b))) ∧ Below w.heap.size w w' := by
  obtain ⟨a0, a1, a2, a3, a4⟩ := a
  obtain ⟨b0, b1, b2, b3, b4⟩ := b
  obtain ⟨p0, p1, p2, p3, p4⟩ := ha
  obtain ⟨q0, q1, q2, q3, q4⟩ := hb
  simp only [stmA, Stm.add] at *
  have g0 : IntKind.i64.wrap (a0 + b0) = a0 + b0 := IntWalk.i64_in _ (by omega)
  have g1 : IntKind.i64.wrap (a1 + b1) = a1 + b1 := IntWalk.i64_in _ (by omega)
  have g2 : IntKind.i64.wrap (a2 + b2) = a2 + b2 := IntWalk.i64_in _ (by omega)
  have g3 : IntKind.i64.wrap (a3 + b3) = a3 + b3 := IntWalk.i64_in _ (by omega)
  have g4 : IntKind.i64.wrap (a4 + b4) = a4 + b4 := IntWalk.i64_in _ (by omega)
  obtain ⟨w0, hw0⟩ : ∃ W, W = ((w.alloc (.cells #[.int .i64 a0, .int .i64 a1, .int .i64 a2, .int .i64 a3, .int .i64 a4] 38)).alloc (.cells #[.int .i64 b0, .int .i64 b1, .int .i64 b2, .int .i64 b3, .int .i64 b4] 38)).alloc (.cells #[.int .i64 0, .int .i64 0, .int .i64 0, .int .i64 0, .int .i64 0] 38) := ⟨_, rfl⟩
  obtain ⟨bA, hbA⟩ : ∃ b, b = w.heap.size := ⟨_, rfl⟩
  have hx1 : w0.heap[bA]? = some (.cells #[.int .i64 a0, .int .i64 a1, .int .i64 a2, .int .i64 a3, .int .i64 a4] 38 (0, 0)) := by rw [hw0, hbA]; exact obj_below (alloc1_at w _ _) (below_alloc _ _)
  have hx2 : w0.heap[bA + 1]? = some (.cells #[.int .i64 b0, .int .i64 b1, .int .i64 b2, .int .i64 b3, .int .i64 b4] 38 (0, 0)) := by rw [hw0, hbA]; exact obj_below (alloc2_at w _ _) (below_alloc _ _)
  have hx3 : w0.heap[bA + 2]? = some (.cells #[.int .i64 0, .int .i64 0, .int .i64 0, .int .i64 0, .int .i64 0] 38 (0, 0)) := by
    rw [hw0, hbA]
    have := heap_alloc_new ((w.alloc (.cells #[.int .i64 a0, .int .i64 a1, .int .i64 a2, .int .i64 a3, .int .i64 a4] 38)).alloc (.cells #[.int .i64 b0, .int .i64 b1, .int .i64 b2, .int .i64 b3, .int .i64 b4] 38)) (.cells #[.int .i64 0, .int .i64 0, .int .i64 0, .int .i64 0, .int .i64 0] 38)
    rw [show ((w.alloc (.cells #[.int .i64 a0, .int .i64 a1, .int .i64 a2, .int .i64 a3, .int .i64 a4] 38)).alloc (.cells #[.int .i64 b0, .int .i64 b1, .int .i64 b2, .int .i64 b3, .int .i64 b4] 38)).heap.size = w.heap.size + 2 by simp] at this
    exact this
  have HB0 : Hid (Below w.heap.size w w0) := Lib.hid (by rw [hw0]; exact (below2 w _ _).trans ((below_alloc _ _).mono (below2 w _ _).size))
  have HR0 := Lib.hid hx3
  have c0 := obj_cell hx1 0
  have c1 := obj_cell hx1 1
  have c2 := obj_cell hx1 2
  have c3 := obj_cell hx1 3
  have c4 := obj_cell hx1 4
  simp at c0 c1 c2 c3 c4
  have d0 := obj_cell hx2 0
  have d1 := obj_cell hx2 1
  have d2 := obj_cell hx2 2
  have d3 := obj_cell hx2 3
  have d4 := obj_cell hx2 4
  simp at d0 d1 d2 d3 d4
  have r0 := obj_cell hx3 0
  have r1 := obj_cell hx3 1
  have r2 := obj_cell hx3 2
  have r3 := obj_cell hx3 3
  have r4 := obj_cell hx3 4
  simp at r0 r1 r2 r3 r4
  have fr0 := obj_free hx3 0
  have fr1 := obj_free hx3 1
  have fr2 := obj_free hx3 2
  have fr3 := obj_free hx3 3
  have fr4 := obj_free hx3 4
  have HW0 := Lib.hid hw0
  have HBA := Lib.hid hbA
  clear hx1 hx2 hx3 hw0 hbA p0 p1 p2 p3 p4 q0 q1 q2 q3 q4
  go_enter Try.func34, Try.ntmps34
  go_upto_region 1 with fail
  rw [← HW0.out, ← HBA.out]
  go_wp2
  refine ret5 HR0.out rfl _ _ _ _ _ (v := .agg #[.int .i64 (a0 + b0), .int .i64 (a1 + b1), .int .i64 (a2 + b2), .int .i64 (a3 + b3), .int .i64 (a4 + b4)]) (fun F hF => ?_) rfl ⟨rfl, put5_below HB0.out (by rw [HBA.out]; omega) _ _ _ _ _⟩
  have q0 := obj_cell hF 0
  have q1 := obj_cell hF 1
  have q2 := obj_cell hF 2
  have q3 := obj_cell hF 3
  have q4 := obj_cell hF 4
  simp at q0 q1 q2 q3 q4
  simp [results, Try.results34, go_sem, q0, q1, q2, q3, q4]

set_option maxRecDepth 100000 in
set_option maxHeartbeats 4000000 in
theorem rsversions_ok {PS : List Prs} (hlen : PS.length ≤ 1000) (y : Int) (v : Value) (w : World) (hap : ListAt prsC 7 w v PS) : Calls Try.prog 44 #[v, .int .i64 y] w fun e w' => e = .returned (.int .i64 (versM y PS)) ∧ Below w.heap.size w w' := by
  obtain ⟨ap, cp, rfl, hcp, hcs⟩ := hap.shape prsF
  have HCS := Lib.hid hcs
  obtain ⟨q, hq⟩ : ∃ q, q = versM y PS := ⟨_, rfl⟩
  obtain ⟨VM, hVM⟩ : ∃ V : Nat → Int, V = fun k => versM y (PS.take k) := ⟨_, rfl⟩
  have HV0 : Hid (VM 0 = 0) := Lib.hid (by rw [hVM]; rfl)
  have HVN : Hid (VM PS.length = q) := Lib.hid (by rw [hVM, hq]; show versM y (PS.take PS.length) = _; rw [List.take_length])
  have HVS : Hid (∀ k (hk : k < PS.length), VM (k + 1) = VM k + (if (PS[k]).yr = y then 1 else 0)) := Lib.hid fun k hk => by
    rw [hVM]
    show versM y (PS.take (k + 1)) = _
    rw [List.take_succ_eq_append_getElem hk, versM_snoc]
  have HVB : Hid (∀ k, 0 ≤ VM k ∧ VM k ≤ (k : Int)) := Lib.hid fun k => by
    rw [hVM]
    have h1 := versM_len y (PS.take k)
    have h2 : (PS.take k).length ≤ k := by rw [List.length_take]; omega
    show 0 ≤ versM y (PS.take k) ∧ versM y (PS.take k) ≤ (k : Int)
    exact ⟨h1.1, by omega⟩
  rw [← hq]
  obtain ⟨n, hn⟩ : ∃ n, n = PS.length := ⟨_, rfl⟩
  have HN := Lib.hid hn
  rw [← hn] at hcp hlen HVN ⊢
  clear hap hcs hq hVM hn
  go_enter Try.func44, Try.ntmps44
  go_wp2
  go_loopw [10, 5] (fun iv cv wr => ∃ k : Nat, iv = .int .i64 k ∧ cv = .int .i64 (VM k) ∧ k ≤ n ∧ Hid (Below w.heap.size w wr)) (fun iv _ _ => n - (RowKit.intOf iv).toNat)
  case atStart => exact ⟨0, rfl, by rw [HV0.out], by omega, Lib.hid (Below.refl _ _)⟩
  case round =>
    obtain ⟨k, rfl, rfl, hkn, HB⟩ := hrel
    by_cases hlt : k < n
    · have hkP : k < PS.length := by rw [← HN.out]; exact hlt
      obtain ⟨b, o, rfl, hb, hcc⟩ := HCS.out (by omega)
      have hcell := fun j (hj : j < 7) => (HB.out.cell (p := ⟨b, o + k * 7 + j, none⟩) hb).trans (hcc k hkP j hj)
      have hvs := HVS.out k hkP
      have hvb := HVB.out k
      generalize PS[k] = x at *
      obtain ⟨x0, x1, x2, x3, x4, x5, x6⟩ := x
      simp only at hvs
      have c0 := hcell 0 (by omega)
      have c1 := hcell 1 (by omega)
      have c2 := hcell 2 (by omega)
      have c3 := hcell 3 (by omega)
      have c4 := hcell 4 (by omega)
      have c5 := hcell 5 (by omega)
      have c6 := hcell 6 (by omega)
      simp [prsC] at c0 c1 c2 c3 c4 c5 c6
      have hwk : IntKind.i64.wrap ((k : Int) + 1) = (k : Int) + 1 := IntWalk.i64_in _ (by omega)
      have hwv : IntKind.i64.wrap (VM k + 1) = VM k + 1 := IntWalk.i64_in _ (by omega)
      have hk0 : (0 : Int) ≤ (k : Int) := by omega
      have hk1 : (k : Int) < (n : Int) := by omega
      obtain ⟨w8, hw8⟩ : ∃ W, W = wr.alloc (.cells #[.int .i64 x0, .int .i64 x1, .int .i64 x2, .int .i64 x3, .int .i64 x4, .int .i64 x5, .int .i64 x6] 40) := ⟨_, rfl⟩
      obtain ⟨bQ, hbQ⟩ : ∃ b, b = wr.heap.size := ⟨_, rfl⟩
      have hx8 : w8.heap[bQ]? = some (.cells #[.int .i64 x0, .int .i64 x1, .int .i64 x2, .int .i64 x3, .int .i64 x4, .int .i64 x5, .int .i64 x6] 40 (0, 0)) := by rw [hw8, hbQ]; exact heap_alloc_new _ _
      have HB8 : Hid (Below w.heap.size w w8) := Lib.hid (by rw [hw8]; exact HB.out.alloc HB.out.size _)
      have e0 := obj_cell hx8 0
      simp at e0
      have HW8 := Lib.hid hw8
      have HBQ := Lib.hid hbQ
      clear hcell hcc hw8 hbQ hx8
      go_upto_region 5 with fail
      rw [← HW8.out, ← HBQ.out]
      clear c0 c1 c2 c3 c4 c5 c6
      by_cases he : x0 = y
      · rw [if_pos he] at hvs
        subst he
        go_wp2
        go_roundw
        case rel => exact ⟨k + 1, by first | rfl | go_num, by rw [hvs], by omega, HB8⟩
        case measure => simp [RowKit.intOf]; omega
      · rw [if_neg he, Int.add_zero] at hvs
        go_wp2
        go_roundw
        case rel => exact ⟨k + 1, by first | rfl | go_num, by rw [hvs], by omega, HB8⟩
        case measure => simp [RowKit.intOf]; omega
    · obtain rfl : k = n := by omega
      have hvn := HVN.out
      go_wp2
      go_ret
      exact ⟨by rw [← hvn]; rfl, HB.out⟩

set_option maxRecDepth 100000 in
set_option maxHeartbeats 4000000 in
theorem rsrightC_ok {p : Pst} {cy : Int} (h : PstY cy p) (hy : 0 ≤ cy ∧ cy ≤ 99) (b : Nat) (w : World) (hc : w.cell? ⟨b, 0, none⟩ = some (.int .i64 cy)) (hb : b < w.heap.size) :
    Calls Try.prog 71 #[.agg (pstC p).toArray, .pointer (some ⟨b, 0, none⟩)] w fun e w' => e = .returned (.bool false) ∧ Below w.heap.size w w' := by
  have HP := Lib.hid (fun W => lgPosting_right h.ok W)
  have hyr := h.yr
  obtain ⟨x0, x1, x2, x3, x4, x5, x6, x7⟩ := p
  simp only [pstC] at HP ⊢
  simp only at hyr
  have hq1 : x1.tdiv 360 = cy := by rw [Int.tdiv_eq_ediv_of_nonneg (by omega)]; omega
  have hq2 : x1 / 360 = cy := by omega
  have hqw : IntKind.i64.wrap cy = cy := IntWalk.i64_in _ (by omega)
  obtain ⟨w0, hw0⟩ : ∃ W, W = w.alloc (.cells #[.int .i64 x0, .int .i64 x1, .int .i64 x2, .int .i64 x3, .int .i64 x4, .int .i64 x5, .int .i64 x6, .int .i64 x7] 55) := ⟨_, rfl⟩
  obtain ⟨bX, hbX⟩ : ∃ q, q = w.heap.size := ⟨_, rfl⟩
  have HX0 : Hid (w0.heap[bX]? = some (.cells #[.int .i64 x0, .int .i64 x1, .int .i64 x2, .int .i64 x3, .int .i64 x4, .int .i64 x5, .int .i64 x6, .int .i64 x7] 55 (0, 0))) := Lib.hid (by rw [hw0, hbX]; exact heap_alloc_new _ _)
  have HB0 : Hid (Below w.heap.size w w0) := Lib.hid (by rw [hw0]; exact below_alloc _ _)
  have HC : Hid (∀ W, Below w.heap.size w W → W.cell? ⟨b, 0, none⟩ = some (.int .i64 cy)) := Lib.hid fun W hW => (hW.cell (p := ⟨b, 0, none⟩) hb).trans hc
  have hx := HX0.out
  have y0 := obj_cell hx 0
  have y1 := obj_cell hx 1
  have y2 := obj_cell hx 2
  have y3 := obj_cell hx 3
  have y4 := obj_cell hx 4
  have y5 := obj_cell hx 5
  have y6 := obj_cell hx 6
  have y7 := obj_cell hx 7
  simp at y0 y1 y2 y3 y4 y5 y6 y7
  have HW0 := Lib.hid hw0
  have HBX := Lib.hid hbX
  clear h hyr hw0 hbX hx hc hb
  go_enter Try.func71, Try.ntmps71
  go_upto_region 1 with fail
  rw [← HW0.out, ← HBX.out]
  go_wp2_with fail
  refine (HP.out _).mono ?_
  rintro e w1 ⟨rfl, hb1⟩
  have HB1 := Lib.hid (HB0.out.trans (hb1.mono HB0.out.size))
  have hx1 := obj_below HX0.out hb1
  have z1 := obj_cell hx1 1
  simp at z1
  have hc1 := HC.out _ HB1.out
  clear hb1 hx1 y0 y1 y2 y3 y4 y5 y6 y7
  go_wp2
  go_ret
  exact ⟨rfl, HB1.out⟩

set_option maxRecDepth 100000 in
set_option maxHeartbeats 8000000 in
theorem rsrightCorrection_ok {c : Cor} (h : CorOk c) (v : Value) (w : World) (hl : PstsAt w v c.ps) :
    Calls Try.prog 53 #[.agg #[.int .i64 c.yr, .int .i64 c.fnd, v]] w fun e w' => e = .returned (.bool true) ∧ Below w.heap.size w w' := by
  obtain ⟨cy, cf, l⟩ := c
  obtain ⟨hy, ⟨hf0, hf1⟩, ⟨hn0, hn1⟩, hps⟩ := h
  simp only at hy hf0 hf1 hn0 hn1 hps hl ⊢
  obtain ⟨ao, cap, rfl, hcap, -⟩ := hl.shape pstF
  obtain ⟨w1, hw1⟩ : ∃ w1, w1 = w.alloc (.cells #[.int .i64 cy, .int .i64 cf, .slice ao l.length cap] 49) := ⟨_, rfl⟩
  obtain ⟨bC, hbC⟩ : ∃ b, b = w.heap.size := ⟨_, rfl⟩
  have HX1 : Hid (w1.heap[bC]? = some (.cells #[.int .i64 cy, .int .i64 cf, .slice ao l.length cap] 49 (0, 0))) := Lib.hid (by rw [hw1, hbC]; exact heap_alloc_new w _)
  have HB1 : Hid (Below w.heap.size w w1) := Lib.hid (by rw [hw1]; exact below_alloc w _)
  have HCF0 : Hid (∀ W, Below w1.heap.size w1 W → Calls Try.prog 49 #[.slice ao l.length cap, .func (.func 71) #[] #[.pointer (some ⟨bC, 0, none⟩)]] W fun e w' => e = .returned (.bool false) ∧ Below W.heap.size W w') := Lib.hid fun W hW => by
    have := pstContains_any 71 #[.pointer (some ⟨bC, 0, none⟩)] (enters_of Try.func71 (by kernel_rfl) rfl) (fun _ => false) l _ W (ListAt.below hl (HB1.out.trans (hW.mono HB1.out.size))) (by omega) fun x hx W2 hW2 => by
      have hx2 := obj_below HX1.out (hW.trans (hW2.mono hW.size))
      have hc := obj_cell hx2 0
      simp at hc
      exact rsrightC_ok (hps x hx) hy bC W2 hc (obj_lt hx2)
    rw [show l.any (fun _ => false) = false by simp] at this
    exact this
  obtain ⟨n, hn⟩ : ∃ n, n = l.length := ⟨_, rfl⟩
  rw [← hn] at hcap hn0 hn1 hw1 HX1 HCF0 ⊢
  have hf2 : 360 * cy + 359 < cf := by omega
  have hf3 : cf ≤ 36000 := hf1
  have hl1 : (0 : Int) < (n : Int) := by omega
  have hl1b : 0 < n := by omega
  have hl2 : (n : Int) ≤ 20 := by omega
  have hl2b : n ≤ 20 := by omega
  have HW1 := Lib.hid hw1
  have HBC := Lib.hid hbC
  clear hn hl hw1 hbC hps
  go_enter Try.func53, Try.ntmps53
  go_upto_region 2 with fail
  rw [← HW1.out, ← HBC.out]
  obtain ⟨J, hJ⟩ : ∃ J, J = fun W : World => Below w1.heap.size w1 W := ⟨_, rfl⟩
  have HJO : Hid (∀ W, J W → Below w1.heap.size w1 W) := Lib.hid fun W hW => by rw [hJ] at hW; exact hW
  have HJI : Hid (∀ W, Below w1.heap.size w1 W → J W) := Lib.hid fun W hW => by rw [hJ]; exact hW
  have HJD : Hid (∀ W, J W → J W.drew) := Lib.hid fun W hW => HJI.out _ ((HJO.out W hW).drew)
  have HJ0 : Hid (J w1) := Lib.hid (HJI.out _ (Below.refl _ _))
  have HMC : Hid (∀ W, J W → ∀ i, W.cell? ⟨bC, i, none⟩ = #[.int .i64 cy, .int .i64 cf, .slice ao n cap][i]?) := Lib.hid fun W hW i => obj_cell (obj_below HX1.out (HJO.out W hW)) i
  have HYY : Hid (∀ W, J W → Calls Try.prog 32 #[.int .i64 cy] W fun e w' => e = .returned (.bool true) ∧ J w') := Lib.hid fun W hW => (rsisYear_yes W hy.1 hy.2).mono fun e w' ⟨h1, h2⟩ => ⟨h1, h2 ▸ hW⟩
  have HLD : Hid (∀ W, J W → Calls Try.prog 56 #[.int .i64 cy] W fun e w' => e = .returned (.int .i64 (360 * cy + 359)) ∧ J w') := Lib.hid fun W hW => (rslastDay_ok W hy.1 hy.2).mono fun e w' ⟨h1, h2⟩ => ⟨h1, h2 ▸ hW⟩
  have HCF : Hid (∀ W, J W → Calls Try.prog 49 #[.slice ao n cap, .func (.func 71) #[] #[.pointer (some ⟨bC, 0, none⟩)]] W fun e w' => e = .returned (.bool false) ∧ J w') := Lib.hid fun W hW => (HCF0.out W (HJO.out W hW)).mono fun e w' ⟨h1, h2⟩ => ⟨h1, HJI.out _ ((HJO.out W hW).trans (h2.mono (HJO.out W hW).size))⟩
  have egY := enters_of Try.func32 (by kernel_rfl) rfl
  have egL := enters_of Try.func56 (by kernel_rfl) rfl
  have egF := enters_of Try.func49 (by kernel_rfl) rfl
  clear hJ HCF0 hy hf0 hf1 hn0 hn1
  go_cut [2] (fun bv wx => bv = .bool true ∧ Hid (J wx))
  case first =>
    refine wp_region_props [5, 6, 7, 8, 9, 10, 11, 12, 13, 14, 15, 16, 17, 18, 19, 20, 21, 22, 23, 24, 25, 26, 27, 28, 29, 30, 31, 32, 33, 34, 35, 36, 37, 38, 39, 2] (slotS [5, 6, 7, 8, 9, 10, 11, 12, 13, 14, 15, 16, 17, 18, 19, 20, 21, 22, 23, 24, 25, 26, 27, 28, 29, 30, 31, 32, 33, 34, 35, 36, 37, 38, 39, 2]) (readsS [5, 6, 7, 8, 9, 10, 11, 12, 13, 14, 15, 16, 17, 18, 19, 20, 21, 22, 23, 24, 25, 26, 27, 28, 29, 30, 31, 32, 33, 34, 35, 36, 37, 38, 39, 2]) (RTs [5, 6, 7, 8, 9, 10, 11, 12, 13, 14, 15, 16, 17, 18, 19, 20, 21, 22, 23, 24, 25, 26, 27, 28, 29, 30, 31, 32, 33, 34, 35, 36, 37, 38, 39, 2] [.pointer (some ⟨bC, 0, none⟩), .int .i64 cy, .bool true, .bool true, .pointer (some ⟨bC, 1, none⟩), .int .i64 cf, .pointer (some ⟨bC, 0, none⟩), .int .i64 cy, .int .i64 (360 * cy + 359), .bool true, .bool true, .bool true, .pointer (some ⟨bC, 1, none⟩), .int .i64 cf, .bool true, .bool true, .bool true, .pointer (some ⟨bC, 2, none⟩), .slice ao n cap, .int .i64 (n : Int), .bool true, .bool true, .bool true, .pointer (some ⟨bC, 2, none⟩), .slice ao n cap, .int .i64 (n : Int), .bool true, .bool true, .bool true, .pointer (some ⟨bC, 2, none⟩), .slice ao n cap, .func (.func 71) #[] #[.pointer (some ⟨bC, 0, none⟩)], .bool false, .bool true, .bool true, .bool true]) J (by kernel_rfl) (by kernel_rfl) (by kernel_rfl) (HJD.out _ HJ0.out) (fun j f q v W hq h => RTs.upd hq h) ?_ ?_
    case refine_1 =>
      intro iq hiq f W hIW hdep
      have hiq' : iq < 36 := hiq
      generalize ha1 : putsL _ [5, 6, 7, 8, 9, 10, 11, 12, 13, 14, 15, 16, 17, 18, 19, 20, 21, 22, 23, 24, 25, 26, 27, 28, 29, 30, 31, 32, 33, 34, 35, 36, 37, 38, 39, 2] f = a1
      match iq, hiq', hdep with
      | 0, _, hdep =>
        have E1 : a1.tmps[1]?.getD undef = .pointer (some ⟨bC, 0, none⟩) := by rw [← ha1]; exact (putsL_out2 _ _ _ _ (by decide)).trans rfl
        exact wpOp_val rfl rfl (v := .pointer (some ⟨bC, 0, none⟩)) (w' := W) (by simp [execOp, go_sem, E1]) ⟨hIW, fun _ h => h, Or.inl ⟨_, by decide, rfl, updF_same _ _ _⟩⟩
      | 1, _, hdep =>
        have E5 : a1.tmps[5]?.getD undef = .pointer (some ⟨bC, 0, none⟩) := by rw [← ha1]; exact (putsL_in2 _ _ _ _ (by decide) (show 5 < 40 from by decide)).trans (hdep 0 (by kernel_rfl))
        have v0 : W.cell? ⟨bC, 0, none⟩ = some (.int .i64 cy) := by simpa using HMC.out W hIW 0
        exact wpOp_val rfl rfl (v := .int .i64 cy) (w' := W) (by simp [execOp, go_sem, E5, v0]) ⟨hIW, fun _ h => h, Or.inl ⟨_, by decide, rfl, updF_same _ _ _⟩⟩
      | 2, _, hdep =>
        have E6 : a1.tmps[6]?.getD undef = .int .i64 cy := by rw [← ha1]; exact (putsL_in2 _ _ _ _ (by decide) (show 6 < 40 from by decide)).trans (hdep 1 (by kernel_rfl))
        refine wpOp_call rfl rfl (n := 32) (vs := #[.int .i64 cy]) (by have := egY #[.int .i64 cy] W; simp [execOp, E6, resolve, invoke, go_sem] <;> exact this) ((HYY.out W hIW).mono fun e w' h => (⟨_, h.1, rfl, h.2⟩ : ∃ v, e = .returned v ∧ (v = .bool true ∧ J w'))) ?_
        rintro v w' ⟨rfl, hI'⟩
        exact ⟨hI', fun _ h => h, Or.inl ⟨_, by decide, rfl, updF_same _ _ _⟩⟩
      | 3, _, hdep =>
        have E7 : a1.tmps[7]?.getD undef = .bool true := by rw [← ha1]; exact (putsL_in2 _ _ _ _ (by decide) (show 7 < 40 from by decide)).trans (hdep 2 (by kernel_rfl))
        exact wpOp_val rfl rfl (v := .bool true) (w' := W) (by simp [execOp, go_sem, E7]) ⟨hIW, fun _ h => h, Or.inl ⟨_, by decide, rfl, updF_same _ _ _⟩⟩
      | 4, _, hdep =>
        have G3 : a1.tmps[8]? = some (.bool true) := by rw [← ha1]; exact (putsL_some _ _ _ _ (by decide) (show 8 < 40 from by decide)).trans (congrArg some (hdep 3 (by kernel_rfl)))
        have E1 : a1.tmps[1]?.getD undef = .pointer (some ⟨bC, 0, none⟩) := by rw [← ha1]; exact (putsL_out2 _ _ _ _ (by decide)).trans rfl
        exact wpOp_valG rfl rfl (yielded_of rfl G3) (v := .pointer (some ⟨bC, 1, none⟩)) (w' := W) (by simp [execOp, go_sem, E1]) ⟨hIW, fun _ h => h, Or.inl ⟨_, by decide, rfl, updF_same _ _ _⟩⟩
      | 5, _, hdep =>
        have G3 : a1.tmps[8]? = some (.bool true) := by rw [← ha1]; exact (putsL_some _ _ _ _ (by decide) (show 8 < 40 from by decide)).trans (congrArg some (hdep 3 (by kernel_rfl)))
        have E9 : a1.tmps[9]?.getD undef = .pointer (some ⟨bC, 1, none⟩) := by rw [← ha1]; exact (putsL_in2 _ _ _ _ (by decide) (show 9 < 40 from by decide)).trans (hdep 4 (by kernel_rfl))
        have v1 : W.cell? ⟨bC, 1, none⟩ = some (.int .i64 cf) := by simpa using HMC.out W hIW 1
        exact wpOp_valG rfl rfl (yielded_of rfl G3) (v := .int .i64 cf) (w' := W) (by simp [execOp, go_sem, E9, v1]) ⟨hIW, fun _ h => h, Or.inl ⟨_, by decide, rfl, updF_same _ _ _⟩⟩
      | 6, _, hdep =>
        have G3 : a1.tmps[8]? = some (.bool true) := by rw [← ha1]; exact (putsL_some _ _ _ _ (by decide) (show 8 < 40 from by decide)).trans (congrArg some (hdep 3 (by kernel_rfl)))
        have E1 : a1.tmps[1]?.getD undef = .pointer (some ⟨bC, 0, none⟩) := by rw [← ha1]; exact (putsL_out2 _ _ _ _ (by decide)).trans rfl
        exact wpOp_valG rfl rfl (yielded_of rfl G3) (v := .pointer (some ⟨bC, 0, none⟩)) (w' := W) (by simp [execOp, go_sem, E1]) ⟨hIW, fun _ h => h, Or.inl ⟨_, by decide, rfl, updF_same _ _ _⟩⟩
      | 7, _, hdep =>
        have G3 : a1.tmps[8]? = some (.bool true) := by rw [← ha1]; exact (putsL_some _ _ _ _ (by decide) (show 8 < 40 from by decide)).trans (congrArg some (hdep 3 (by kernel_rfl)))
        have E11 : a1.tmps[11]?.getD undef = .pointer (some ⟨bC, 0, none⟩) := by rw [← ha1]; exact (putsL_in2 _ _ _ _ (by decide) (show 11 < 40 from by decide)).trans (hdep 6 (by kernel_rfl))
        have v0 : W.cell? ⟨bC, 0, none⟩ = some (.int .i64 cy) := by simpa using HMC.out W hIW 0
        exact wpOp_valG rfl rfl (yielded_of rfl G3) (v := .int .i64 cy) (w' := W) (by simp [execOp, go_sem, E11, v0]) ⟨hIW, fun _ h => h, Or.inl ⟨_, by decide, rfl, updF_same _ _ _⟩⟩
      | 8, _, hdep =>
        have G3 : a1.tmps[8]? = some (.bool true) := by rw [← ha1]; exact (putsL_some _ _ _ _ (by decide) (show 8 < 40 from by decide)).trans (congrArg some (hdep 3 (by kernel_rfl)))
        have E12 : a1.tmps[12]?.getD undef = .int .i64 cy := by rw [← ha1]; exact (putsL_in2 _ _ _ _ (by decide) (show 12 < 40 from by decide)).trans (hdep 7 (by kernel_rfl))
        refine wpOp_callG rfl rfl (yielded_of rfl G3) (n := 56) (vs := #[.int .i64 cy]) (by have := egL #[.int .i64 cy] W; simp [execOp, E12, resolve, invoke, go_sem] <;> exact this) ((HLD.out W hIW).mono fun e w' h => (⟨_, h.1, rfl, h.2⟩ : ∃ v, e = .returned v ∧ (v = .int .i64 (360 * cy + 359) ∧ J w'))) ?_
        rintro v w' ⟨rfl, hI'⟩
        exact ⟨hI', fun _ h => h, Or.inl ⟨_, by decide, rfl, updF_same _ _ _⟩⟩
      | 9, _, hdep =>
        have G3 : a1.tmps[8]? = some (.bool true) := by rw [← ha1]; exact (putsL_some _ _ _ _ (by decide) (show 8 < 40 from by decide)).trans (congrArg some (hdep 3 (by kernel_rfl)))
        have E10 : a1.tmps[10]?.getD undef = .int .i64 cf := by rw [← ha1]; exact (putsL_in2 _ _ _ _ (by decide) (show 10 < 40 from by decide)).trans (hdep 5 (by kernel_rfl))
        have E13 : a1.tmps[13]?.getD undef = .int .i64 (360 * cy + 359) := by rw [← ha1]; exact (putsL_in2 _ _ _ _ (by decide) (show 13 < 40 from by decide)).trans (hdep 8 (by kernel_rfl))
        exact wpOp_valG rfl rfl (yielded_of rfl G3) (v := .bool true) (w' := W) (by simp [execOp, go_sem, E10, E13, hf2]) ⟨hIW, fun _ h => h, Or.inl ⟨_, by decide, rfl, updF_same _ _ _⟩⟩
      | 10, _, hdep =>
        have E8 : a1.tmps[8]?.getD undef = .bool true := by rw [← ha1]; exact (putsL_in2 _ _ _ _ (by decide) (show 8 < 40 from by decide)).trans (hdep 3 (by kernel_rfl))
        have E14 : a1.tmps[14]?.getD undef = .bool true := by rw [← ha1]; exact (putsL_in2 _ _ _ _ (by decide) (show 14 < 40 from by decide)).trans (hdep 9 (by kernel_rfl))
        exact wpOp_val rfl rfl (v := .bool true) (w' := W) (by simp [execOp, go_sem, E8, E14]) ⟨hIW, fun _ h => h, Or.inl ⟨_, by decide, rfl, updF_same _ _ _⟩⟩
      | 11, _, hdep =>
        have E15 : a1.tmps[15]?.getD undef = .bool true := by rw [← ha1]; exact (putsL_in2 _ _ _ _ (by decide) (show 15 < 40 from by decide)).trans (hdep 10 (by kernel_rfl))
        exact wpOp_val rfl rfl (v := .bool true) (w' := W) (by simp [execOp, go_sem, E15]) ⟨hIW, fun _ h => h, Or.inl ⟨_, by decide, rfl, updF_same _ _ _⟩⟩
      | 12, _, hdep =>
        have G11 : a1.tmps[16]? = some (.bool true) := by rw [← ha1]; exact (putsL_some _ _ _ _ (by decide) (show 16 < 40 from by decide)).trans (congrArg some (hdep 11 (by kernel_rfl)))
        have E1 : a1.tmps[1]?.getD undef = .pointer (some ⟨bC, 0, none⟩) := by rw [← ha1]; exact (putsL_out2 _ _ _ _ (by decide)).trans rfl
        exact wpOp_valG rfl rfl (yielded_of rfl G11) (v := .pointer (some ⟨bC, 1, none⟩)) (w' := W) (by simp [execOp, go_sem, E1]) ⟨hIW, fun _ h => h, Or.inl ⟨_, by decide, rfl, updF_same _ _ _⟩⟩
      | 13, _, hdep =>
        have G11 : a1.tmps[16]? = some (.bool true) := by rw [← ha1]; exact (putsL_some _ _ _ _ (by decide) (show 16 < 40 from by decide)).trans (congrArg some (hdep 11 (by kernel_rfl)))
        have E17 : a1.tmps[17]?.getD undef = .pointer (some ⟨bC, 1, none⟩) := by rw [← ha1]; exact (putsL_in2 _ _ _ _ (by decide) (show 17 < 40 from by decide)).trans (hdep 12 (by kernel_rfl))
        have v1 : W.cell? ⟨bC, 1, none⟩ = some (.int .i64 cf) := by simpa using HMC.out W hIW 1
        exact wpOp_valG rfl rfl (yielded_of rfl G11) (v := .int .i64 cf) (w' := W) (by simp [execOp, go_sem, E17, v1]) ⟨hIW, fun _ h => h, Or.inl ⟨_, by decide, rfl, updF_same _ _ _⟩⟩
      | 14, _, hdep =>
        have G11 : a1.tmps[16]? = some (.bool true) := by rw [← ha1]; exact (putsL_some _ _ _ _ (by decide) (show 16 < 40 from by decide)).trans (congrArg some (hdep 11 (by kernel_rfl)))
        have E18 : a1.tmps[18]?.getD undef = .int .i64 cf := by rw [← ha1]; exact (putsL_in2 _ _ _ _ (by decide) (show 18 < 40 from by decide)).trans (hdep 13 (by kernel_rfl))
        exact wpOp_valG rfl rfl (yielded_of rfl G11) (v := .bool true) (w' := W) (by simp [execOp, go_sem, E18, hf3]) ⟨hIW, fun _ h => h, Or.inl ⟨_, by decide, rfl, updF_same _ _ _⟩⟩
      | 15, _, hdep =>
        have E16 : a1.tmps[16]?.getD undef = .bool true := by rw [← ha1]; exact (putsL_in2 _ _ _ _ (by decide) (show 16 < 40 from by decide)).trans (hdep 11 (by kernel_rfl))
        have E19 : a1.tmps[19]?.getD undef = .bool true := by rw [← ha1]; exact (putsL_in2 _ _ _ _ (by decide) (show 19 < 40 from by decide)).trans (hdep 14 (by kernel_rfl))
        exact wpOp_val rfl rfl (v := .bool true) (w' := W) (by simp [execOp, go_sem, E16, E19]) ⟨hIW, fun _ h => h, Or.inl ⟨_, by decide, rfl, updF_same _ _ _⟩⟩
      | 16, _, hdep =>
        have E20 : a1.tmps[20]?.getD undef = .bool true := by rw [← ha1]; exact (putsL_in2 _ _ _ _ (by decide) (show 20 < 40 from by decide)).trans (hdep 15 (by kernel_rfl))
        exact wpOp_val rfl rfl (v := .bool true) (w' := W) (by simp [execOp, go_sem, E20]) ⟨hIW, fun _ h => h, Or.inl ⟨_, by decide, rfl, updF_same _ _ _⟩⟩
      | 17, _, hdep =>
        have G16 : a1.tmps[21]? = some (.bool true) := by rw [← ha1]; exact (putsL_some _ _ _ _ (by decide) (show 21 < 40 from by decide)).trans (congrArg some (hdep 16 (by kernel_rfl)))
        have E1 : a1.tmps[1]?.getD undef = .pointer (some ⟨bC, 0, none⟩) := by rw [← ha1]; exact (putsL_out2 _ _ _ _ (by decide)).trans rfl
        exact wpOp_valG rfl rfl (yielded_of rfl G16) (v := .pointer (some ⟨bC, 2, none⟩)) (w' := W) (by simp [execOp, go_sem, E1]) ⟨hIW, fun _ h => h, Or.inl ⟨_, by decide, rfl, updF_same _ _ _⟩⟩
      | 18, _, hdep =>
        have G16 : a1.tmps[21]? = some (.bool true) := by rw [← ha1]; exact (putsL_some _ _ _ _ (by decide) (show 21 < 40 from by decide)).trans (congrArg some (hdep 16 (by kernel_rfl)))
        have E22 : a1.tmps[22]?.getD undef = .pointer (some ⟨bC, 2, none⟩) := by rw [← ha1]; exact (putsL_in2 _ _ _ _ (by decide) (show 22 < 40 from by decide)).trans (hdep 17 (by kernel_rfl))
        have v2 : W.cell? ⟨bC, 2, none⟩ = some (.slice ao n cap) := by simpa using HMC.out W hIW 2
        exact wpOp_valG rfl rfl (yielded_of rfl G16) (v := .slice ao n cap) (w' := W) (by simp [execOp, go_sem, E22, v2]) ⟨hIW, fun _ h => h, Or.inl ⟨_, by decide, rfl, updF_same _ _ _⟩⟩
      | 19, _, hdep =>
        have G16 : a1.tmps[21]? = some (.bool true) := by rw [← ha1]; exact (putsL_some _ _ _ _ (by decide) (show 21 < 40 from by decide)).trans (congrArg some (hdep 16 (by kernel_rfl)))
        have E23 : a1.tmps[23]?.getD undef = .slice ao n cap := by rw [← ha1]; exact (putsL_in2 _ _ _ _ (by decide) (show 23 < 40 from by decide)).trans (hdep 18 (by kernel_rfl))
        exact wpOp_valG rfl rfl (yielded_of rfl G16) (v := .int .i64 (n : Int)) (w' := W) (by simp [execOp, go_sem, E23]) ⟨hIW, fun _ h => h, Or.inl ⟨_, by decide, rfl, updF_same _ _ _⟩⟩
      | 20, _, hdep =>
        have G16 : a1.tmps[21]? = some (.bool true) := by rw [← ha1]; exact (putsL_some _ _ _ _ (by decide) (show 21 < 40 from by decide)).trans (congrArg some (hdep 16 (by kernel_rfl)))
        have E24 : a1.tmps[24]?.getD undef = .int .i64 (n : Int) := by rw [← ha1]; exact (putsL_in2 _ _ _ _ (by decide) (show 24 < 40 from by decide)).trans (hdep 19 (by kernel_rfl))
        exact wpOp_valG rfl rfl (yielded_of rfl G16) (v := .bool true) (w' := W) (by simp [execOp, go_sem, E24, hl1, hl1b]) ⟨hIW, fun _ h => h, Or.inl ⟨_, by decide, rfl, updF_same _ _ _⟩⟩
      | 21, _, hdep =>
        have E21 : a1.tmps[21]?.getD undef = .bool true := by rw [← ha1]; exact (putsL_in2 _ _ _ _ (by decide) (show 21 < 40 from by decide)).trans (hdep 16 (by kernel_rfl))
        have E25 : a1.tmps[25]?.getD undef = .bool true := by rw [← ha1]; exact (putsL_in2 _ _ _ _ (by decide) (show 25 < 40 from by decide)).trans (hdep 20 (by kernel_rfl))
        exact wpOp_val rfl rfl (v := .bool true) (w' := W) (by simp [execOp, go_sem, E21, E25]) ⟨hIW, fun _ h => h, Or.inl ⟨_, by decide, rfl, updF_same _ _ _⟩⟩
      | 22, _, hdep =>
        have E26 : a1.tmps[26]?.getD undef = .bool true := by rw [← ha1]; exact (putsL_in2 _ _ _ _ (by decide) (show 26 < 40 from by decide)).trans (hdep 21 (by kernel_rfl))
        exact wpOp_val rfl rfl (v := .bool true) (w' := W) (by simp [execOp, go_sem, E26]) ⟨hIW, fun _ h => h, Or.inl ⟨_, by decide, rfl, updF_same _ _ _⟩⟩
      | 23, _, hdep =>
        have G22 : a1.tmps[27]? = some (.bool true) := by rw [← ha1]; exact (putsL_some _ _ _ _ (by decide) (show 27 < 40 from by decide)).trans (congrArg some (hdep 22 (by kernel_rfl)))
        have E1 : a1.tmps[1]?.getD undef = .pointer (some ⟨bC, 0, none⟩) := by rw [← ha1]; exact (putsL_out2 _ _ _ _ (by decide)).trans rfl
        exact wpOp_valG rfl rfl (yielded_of rfl G22) (v := .pointer (some ⟨bC, 2, none⟩)) (w' := W) (by simp [execOp, go_sem, E1]) ⟨hIW, fun _ h => h, Or.inl ⟨_, by decide, rfl, updF_same _ _ _⟩⟩
      | 24, _, hdep =>
        have G22 : a1.tmps[27]? = some (.bool true) := by rw [← ha1]; exact (putsL_some _ _ _ _ (by decide) (show 27 < 40 from by decide)).trans (congrArg some (hdep 22 (by kernel_rfl)))
        have E28 : a1.tmps[28]?.getD undef = .pointer (some ⟨bC, 2, none⟩) := by rw [← ha1]; exact (putsL_in2 _ _ _ _ (by decide) (show 28 < 40 from by decide)).trans (hdep 23 (by kernel_rfl))
        have v2 : W.cell? ⟨bC, 2, none⟩ = some (.slice ao n cap) := by simpa using HMC.out W hIW 2
        exact wpOp_valG rfl rfl (yielded_of rfl G22) (v := .slice ao n cap) (w' := W) (by simp [execOp, go_sem, E28, v2]) ⟨hIW, fun _ h => h, Or.inl ⟨_, by decide, rfl, updF_same _ _ _⟩⟩
      | 25, _, hdep =>
        have G22 : a1.tmps[27]? = some (.bool true) := by rw [← ha1]; exact (putsL_some _ _ _ _ (by decide) (show 27 < 40 from by decide)).trans (congrArg some (hdep 22 (by kernel_rfl)))
        have E29 : a1.tmps[29]?.getD undef = .slice ao n cap := by rw [← ha1]; exact (putsL_in2 _ _ _ _ (by decide) (show 29 < 40 from by decide)).trans (hdep 24 (by kernel_rfl))
        exact wpOp_valG rfl rfl (yielded_of rfl G22) (v := .int .i64 (n : Int)) (w' := W) (by simp [execOp, go_sem, E29]) ⟨hIW, fun _ h => h, Or.inl ⟨_, by decide, rfl, updF_same _ _ _⟩⟩
      | 26, _, hdep =>
        have G22 : a1.tmps[27]? = some (.bool true) := by rw [← ha1]; exact (putsL_some _ _ _ _ (by decide) (show 27 < 40 from by decide)).trans (congrArg some (hdep 22 (by kernel_rfl)))
        have E30 : a1.tmps[30]?.getD undef = .int .i64 (n : Int) := by rw [← ha1]; exact (putsL_in2 _ _ _ _ (by decide) (show 30 < 40 from by decide)).trans (hdep 25 (by kernel_rfl))
        exact wpOp_valG rfl rfl (yielded_of rfl G22) (v := .bool true) (w' := W) (by simp [execOp, go_sem, E30, hl2, hl2b]) ⟨hIW, fun _ h => h, Or.inl ⟨_, by decide, rfl, updF_same _ _ _⟩⟩
      | 27, _, hdep =>
        have E27 : a1.tmps[27]?.getD undef = .bool true := by rw [← ha1]; exact (putsL_in2 _ _ _ _ (by decide) (show 27 < 40 from by decide)).trans (hdep 22 (by kernel_rfl))
        have E31 : a1.tmps[31]?.getD undef = .bool true := by rw [← ha1]; exact (putsL_in2 _ _ _ _ (by decide) (show 31 < 40 from by decide)).trans (hdep 26 (by kernel_rfl))
        exact wpOp_val rfl rfl (v := .bool true) (w' := W) (by simp [execOp, go_sem, E27, E31]) ⟨hIW, fun _ h => h, Or.inl ⟨_, by decide, rfl, updF_same _ _ _⟩⟩
      | 28, _, hdep =>
        have E32 : a1.tmps[32]?.getD undef = .bool true := by rw [← ha1]; exact (putsL_in2 _ _ _ _ (by decide) (show 32 < 40 from by decide)).trans (hdep 27 (by kernel_rfl))
        exact wpOp_val rfl rfl (v := .bool true) (w' := W) (by simp [execOp, go_sem, E32]) ⟨hIW, fun _ h => h, Or.inl ⟨_, by decide, rfl, updF_same _ _ _⟩⟩
      | 29, _, hdep =>
        have G28 : a1.tmps[33]? = some (.bool true) := by rw [← ha1]; exact (putsL_some _ _ _ _ (by decide) (show 33 < 40 from by decide)).trans (congrArg some (hdep 28 (by kernel_rfl)))
        have E1 : a1.tmps[1]?.getD undef = .pointer (some ⟨bC, 0, none⟩) := by rw [← ha1]; exact (putsL_out2 _ _ _ _ (by decide)).trans rfl
        exact wpOp_valG rfl rfl (yielded_of rfl G28) (v := .pointer (some ⟨bC, 2, none⟩)) (w' := W) (by simp [execOp, go_sem, E1]) ⟨hIW, fun _ h => h, Or.inl ⟨_, by decide, rfl, updF_same _ _ _⟩⟩
      | 30, _, hdep =>
        have G28 : a1.tmps[33]? = some (.bool true) := by rw [← ha1]; exact (putsL_some _ _ _ _ (by decide) (show 33 < 40 from by decide)).trans (congrArg some (hdep 28 (by kernel_rfl)))
        have E34 : a1.tmps[34]?.getD undef = .pointer (some ⟨bC, 2, none⟩) := by rw [← ha1]; exact (putsL_in2 _ _ _ _ (by decide) (show 34 < 40 from by decide)).trans (hdep 29 (by kernel_rfl))
        have v2 : W.cell? ⟨bC, 2, none⟩ = some (.slice ao n cap) := by simpa using HMC.out W hIW 2
        exact wpOp_valG rfl rfl (yielded_of rfl G28) (v := .slice ao n cap) (w' := W) (by simp [execOp, go_sem, E34, v2]) ⟨hIW, fun _ h => h, Or.inl ⟨_, by decide, rfl, updF_same _ _ _⟩⟩
      | 31, _, hdep =>
        have G28 : a1.tmps[33]? = some (.bool true) := by rw [← ha1]; exact (putsL_some _ _ _ _ (by decide) (show 33 < 40 from by decide)).trans (congrArg some (hdep 28 (by kernel_rfl)))
        have E3 : a1.tmps[3]?.getD undef = .func (.func 71) #[] #[.pointer (some ⟨bC, 0, none⟩)] := by rw [← ha1]; exact (putsL_out2 _ _ _ _ (by decide)).trans rfl
        exact wpOp_valG rfl rfl (yielded_of rfl G28) (v := .func (.func 71) #[] #[.pointer (some ⟨bC, 0, none⟩)]) (w' := W) (by simp [execOp, go_sem, E3]) ⟨hIW, fun _ h => h, Or.inl ⟨_, by decide, rfl, updF_same _ _ _⟩⟩
      | 32, _, hdep =>
        have G28 : a1.tmps[33]? = some (.bool true) := by rw [← ha1]; exact (putsL_some _ _ _ _ (by decide) (show 33 < 40 from by decide)).trans (congrArg some (hdep 28 (by kernel_rfl)))
        have E35 : a1.tmps[35]?.getD undef = .slice ao n cap := by rw [← ha1]; exact (putsL_in2 _ _ _ _ (by decide) (show 35 < 40 from by decide)).trans (hdep 30 (by kernel_rfl))
        have E36 : a1.tmps[36]?.getD undef = .func (.func 71) #[] #[.pointer (some ⟨bC, 0, none⟩)] := by rw [← ha1]; exact (putsL_in2 _ _ _ _ (by decide) (show 36 < 40 from by decide)).trans (hdep 31 (by kernel_rfl))
        refine wpOp_callG rfl rfl (yielded_of rfl G28) (n := 49) (vs := #[.slice ao n cap, .func (.func 71) #[] #[.pointer (some ⟨bC, 0, none⟩)]]) (by have := egF #[.slice ao n cap, .func (.func 71) #[] #[.pointer (some ⟨bC, 0, none⟩)]] W; simp [execOp, E35, E36, resolve, invoke, go_sem] <;> exact this) ((HCF.out W hIW).mono fun e w' h => (⟨_, h.1, rfl, h.2⟩ : ∃ v, e = .returned v ∧ (v = .bool false ∧ J w'))) ?_
        rintro v w' ⟨rfl, hI'⟩
        exact ⟨hI', fun _ h => h, Or.inl ⟨_, by decide, rfl, updF_same _ _ _⟩⟩
      | 33, _, hdep =>
        have G28 : a1.tmps[33]? = some (.bool true) := by rw [← ha1]; exact (putsL_some _ _ _ _ (by decide) (show 33 < 40 from by decide)).trans (congrArg some (hdep 28 (by kernel_rfl)))
        have E37 : a1.tmps[37]?.getD undef = .bool false := by rw [← ha1]; exact (putsL_in2 _ _ _ _ (by decide) (show 37 < 40 from by decide)).trans (hdep 32 (by kernel_rfl))
        exact wpOp_valG rfl rfl (yielded_of rfl G28) (v := .bool true) (w' := W) (by simp [execOp, go_sem, E37]) ⟨hIW, fun _ h => h, Or.inl ⟨_, by decide, rfl, updF_same _ _ _⟩⟩
      | 34, _, hdep =>
        have E33 : a1.tmps[33]?.getD undef = .bool true := by rw [← ha1]; exact (putsL_in2 _ _ _ _ (by decide) (show 33 < 40 from by decide)).trans (hdep 28 (by kernel_rfl))
        have E38 : a1.tmps[38]?.getD undef = .bool true := by rw [← ha1]; exact (putsL_in2 _ _ _ _ (by decide) (show 38 < 40 from by decide)).trans (hdep 33 (by kernel_rfl))
        exact wpOp_val rfl rfl (v := .bool true) (w' := W) (by simp [execOp, go_sem, E33, E38]) ⟨hIW, fun _ h => h, Or.inl ⟨_, by decide, rfl, updF_same _ _ _⟩⟩
      | 35, _, hdep =>
        have E39 : a1.tmps[39]?.getD undef = .bool true := by rw [← ha1]; exact (putsL_in2 _ _ _ _ (by decide) (show 39 < 40 from by decide)).trans (hdep 34 (by kernel_rfl))
        exact wpOp_val rfl rfl (v := .bool true) (w' := W) (by simp [execOp, go_sem, E39]) ⟨hIW, fun _ h => h, Or.inl ⟨_, by decide, rfl, updF_same _ _ _⟩⟩
      | iq + 36, h, _ => exact absurd h (by omega)
    case refine_2 =>
      intro f W hIW hR
      have h2 : f 2 = .bool true := hR 35 (show 35 < 36 from by decide)
      simp only [putsL, List.foldl_cons, List.foldl_nil, Act.put, List.setIfInBounds_toArray, List.set_cons_zero, List.set_cons_succ]
      go_wp2
      go_meet
      exact ⟨(by first | exact h2 | rfl), Lib.hid hIW⟩
  case rest =>
    obtain ⟨rfl, HJX⟩ := hcut
    have HBF := Lib.hid (HB1.out.trans ((HJO.out _ HJX.out).mono HB1.out.size))
    go_wp2
    go_ret
    exact ⟨rfl, HBF.out⟩

end Go.Proofs.Ytoccnindkimjdaa
