/- accrual.Adjust of right books, a right closing, with amounts that can be. -/
import Derived.Test.YtknmgkjfopoinaaGreatDoorMG5
import Derived.Test.YtknmgkjfopoinaaGreatDoorMG6
import Derived.Test.YtknmgkjfopoinaaGreatDoorMG7
import Derived.Test.YtknmgkjfopoinaaGreatDoorMRegT
import Derived.Deep.DeepCutAuto
import Derived.Deep.CutBlock
set_option linter.unusedSimpArgs false
set_option linter.unusedVariables false
set_option linter.unusedSimpArgs false
set_option linter.unusedVariables false
namespace Go.Proofs.YtknmgkjfopoinaaGreatDoor
open Go.RowKit Go.Lib Go.Proofs

theorem aaisEntity_yes {n : Int} (w : World) (h0 : 1 ≤ n) (h1 : n ≤ 10) : Calls Tryz.prog 35 #[.int .i64 n] w fun e w' => e = .returned (.bool true) ∧ w = w' := by
  go_enter Tryz.func35, Tryz.ntmps35
  go_wp2_with fail
  refine (aawithin_yes _ h0 h1).mono ?_
  rintro e w' ⟨rfl, rfl⟩
  go_wp2
  go_ret
  exact ⟨rfl, rfl⟩
theorem aaAdjustC_any (x : Pst) (w : World) : Calls Tryz.prog 48 #[.agg (pstC x).toArray] w fun e w' => e = .returned (.bool (decide (x.amt = 0))) ∧ Below w.heap.size w w' := by
  obtain ⟨x0, x1, x2, x3, x4, x5, x6, x7⟩ := x
  simp only [pstC]
  by_cases hz : x5 = 0
  · subst hz
    go_enter Tryz.func48, Tryz.ntmps48
    go_wp2
    go_ret
    exact ⟨by simp, below_alloc w _⟩
  · have hzb : (x5 == 0) = false := by rw [beq_eq_false_iff_ne]; exact hz
    rw [decide_eq_false hz]
    go_enter Tryz.func48, Tryz.ntmps48
    go_wp2
    go_ret
    exact ⟨rfl, below_alloc w _⟩

set_option maxRecDepth 100000 in
set_option maxHeartbeats 8000000 in
theorem aaAdjust_right {l : List Pst} (h : LdgOk l) {cl : List Clm} (hok : ∀ x ∈ cl, ClmG x) (hcl : cl.length ≤ 60) {ent d i u p : Int} (he : 1 ≤ ent ∧ ent ≤ 10) (hd0 : 0 ≤ d) (hday : (lastP l).day ≤ d) (hd : d ≤ 36000) (hi : 0 ≤ i ∧ i ≤ 1000000000000) (hu : 0 ≤ u ∧ u ≤ 1000000000000) (hp : 0 ≤ p ∧ p ≤ 1000000000000)
    (c b : Int) (hc : c = openC cl - ofM ent (byDay d) 120 l) (hb : b = -provM d cl - ofM ent (byDay d) 119 l) (hcb : -1000000000000 ≤ c ∧ c ≤ 1000000000000) (hbb : -1000000000000 ≤ b ∧ b ≤ 1000000000000) (hlen : l.length + 5 ≤ 400) (vl vc : Value) (w : World) (hL : Lay w) (hvl : PstsAt w vl l) (hvc : ListAt clmC 6 w vc cl) :
    Calls Tryz.prog 25 #[.agg #[vl], .int .i64 ent, .int .i64 d, .agg #[.int .i64 i, .int .i64 u, .int .i64 p, vc]] w fun en w' => ∃ v, en = .returned (.tuple #[v, .int .i64 0]) ∧ w'.ownsRow w.heap.size 57 8 v (keptP (fiveP i u p c b)).length (cellsL pstC (numP l.length d ent (keptP (fiveP i u p c b)))) ∧ Below w.heap.size w w' := by
  obtain ⟨al, capl, rfl, hcapl, -⟩ := hvl.open
  obtain ⟨ac, capc, rfl, hcapc, hcs⟩ := hvc.shape clmF
  have HCS := Lib.hid hcs
  have HCK := Lib.hid (fun W (hW : Below w.heap.size w W) => lgCheck_right h (.slice al l.length capl) W (hvl.below hW))
  have HCA := Lib.hid (fun W (hW : Below w.heap.size w W) => aaCheck_yes hi hu hp hok hcl (.slice ac cl.length capc) W (hL.below hW (Nat.le_refl _)) (hvc.below hW))
  have HLD := Lib.hid (fun W (hW : Below w.heap.size w W) => aalastDay_any l (.slice al l.length capl) W (hvl.below hW) (by have := h.len; omega))
  have HPV := Lib.hid (fun W (hW : Below w.heap.size w W) => aaprov_any hok hcl d ⟨hd0, hd⟩ (.slice ac cl.length capc) W (hL.below hW (Nat.le_refl _)) (hvc.below hW))
  have HO1 := Lib.hid (fun W (hW : Below w.heap.size w W) => lgOf_right h ent 120 d (.slice al l.length capl) W (hvl.below hW) (by decide) (by decide))
  have HO2 := Lib.hid (fun W (hW : Below w.heap.size w W) => lgOf_right h ent 119 d (.slice al l.length capl) W (hvl.below hW) (by decide) (by decide))
  have hop := openC_in hok
  have hpr := provM_in (day := d) hok
  have hb1 := ofM_bound (e := ent) (f := byDay d) (a := 120) h.mem
  have hb2 := ofM_bound (e := ent) (f := byDay d) (a := 119) h.mem
  have hOPT := Lib.hid (fun (j : Nat) (hj : j < cl.length) => (⟨by rw [List.take_succ_eq_append_getElem hj, openC_app]; simp [openC], openC_in fun x hx => hok x (List.mem_of_mem_take hx), (hok _ (List.getElem_mem hj)).opn, (hok _ (List.getElem_mem hj)).amt⟩ : openC (cl.take (j + 1)) = openC (cl.take j) + cl[j].opn ∧ (0 ≤ openC (cl.take j) ∧ openC (cl.take j) ≤ 1000000000000 * ((cl.take j).length : Int)) ∧ (0 ≤ cl[j].opn ∧ cl[j].opn ≤ cl[j].amt) ∧ (1 ≤ cl[j].amt ∧ cl[j].amt ≤ 1000000000000)))
  obtain ⟨K, hK⟩ : ∃ K, K = keptP (fiveP i u p c b) := ⟨_, rfl⟩
  have HKL : Hid (K.length ≤ 5) := Lib.hid (by rw [hK]; exact kept_len _)
  have HKR := Lib.hid (kept_raw hi hu hp hcb hbb)
  have HKF : Hid (K = (fiveP i u p c b).filter fun x => !decide (x.amt = 0)) := Lib.hid hK
  rw [← hK] at HKR ⊢
  obtain ⟨n0, hn0⟩ : ∃ n, n = l.length := ⟨_, rfl⟩
  obtain ⟨m0, hm0⟩ : ∃ n, n = cl.length := ⟨_, rfl⟩
  obtain ⟨pr, hprv⟩ : ∃ n, n = provM d cl := ⟨_, rfl⟩
  obtain ⟨o1, ho1⟩ : ∃ n, n = ofM ent (byDay d) 120 l := ⟨_, rfl⟩
  obtain ⟨o2, ho2⟩ : ∃ n, n = ofM ent (byDay d) 119 l := ⟨_, rfl⟩
  obtain ⟨op, hopn⟩ : ∃ n, n = openC cl := ⟨_, rfl⟩
  obtain ⟨ld, hld⟩ : ∃ n, n = (lastP l).day := ⟨_, rfl⟩
  rw [← hn0] at hlen HCK HLD HO1 HO2 hb1 hb2 ⊢
  rw [← hm0] at hcl HCA HPV hop hpr hcapc ⊢
  rw [← hprv] at HPV hpr hb
  rw [← ho1] at HO1 hb1 hc
  rw [← ho2] at HO2 hb2 hb
  rw [← hopn] at hop hc
  rw [← hld] at HLD hday
  have HM0 := Lib.hid hm0
  have HOPN := Lib.hid hopn
  have hwc : IntKind.i64.wrap (op - o1) = c := by rw [hc]; exact IntWalk.i64_in _ (by omega)
  have hwn : IntKind.i64.wrap (-pr) = -pr := IntWalk.i64_in _ (by omega)
  have hwb : IntKind.i64.wrap (-pr - o2) = b := by rw [hb]; exact IntWalk.i64_in _ (by omega)
  have hdl : ¬ d < ld := by omega
  have hn4 : n0 ≤ 395 := by omega
  have hm6 : m0 ≤ 60 := hcl
  obtain ⟨q1, hq1⟩ : ∃ q, q = chgP 120 420 c := ⟨_, rfl⟩
  obtain ⟨q2, hq2⟩ : ∃ q, q = chgP 119 530 b := ⟨_, rfl⟩
  have HCH1 := Lib.hid (fun W => aachange_any 120 420 c (by omega) W)
  have HCH2 := Lib.hid (fun W => aachange_any 119 530 b (by omega) W)
  have HFIV : Hid (fiveP i u p c b = [⟨0, 0, 0, 520, 220, i, 0, 1000000⟩, ⟨0, 0, 0, 510, 210, u, 0, 1000000⟩, ⟨0, 0, 0, 130, 510, p, 0, 1000000⟩, q1, q2]) := Lib.hid (by rw [hq1, hq2]; rfl)
  rw [← hq1] at HCH1
  rw [← hq2] at HCH2
  obtain ⟨s0, s1, s2, s3, s4, s5, s6, s7⟩ := q1
  obtain ⟨r0, r1, r2, r3, r4, r5, r6, r7⟩ := q2
  simp only [pstC] at HCH1 HCH2
  obtain ⟨w0, hw0⟩ : ∃ W, W = (w.alloc (.cells #[.slice al n0 capl] 27)).alloc (.cells #[.int .i64 i, .int .i64 u, .int .i64 p, .slice ac m0 capc] 31) := ⟨_, rfl⟩
  obtain ⟨bX, hbX⟩ : ∃ q, q = w.heap.size := ⟨_, rfl⟩
  obtain ⟨bY, hbY⟩ : ∃ q, q = w.heap.size + 1 := ⟨_, rfl⟩
  have HB0 : Hid (Below w.heap.size w w0) := Lib.hid (by rw [hw0]; exact below2 w _ _)
  have HX0 : Hid (w0.heap[bX]? = some (.cells #[.slice al n0 capl] 27 (0, 0))) := Lib.hid (by rw [hw0, hbX]; exact alloc1_at w _ _)
  have HY0 : Hid (w0.heap[bY]? = some (.cells #[.int .i64 i, .int .i64 u, .int .i64 p, .slice ac m0 capc] 31 (0, 0))) := Lib.hid (by rw [hw0, hbY]; exact alloc2_at w _ _)
  have HW0 := Lib.hid hw0
  have HBX := Lib.hid hbX
  have HBY := Lib.hid hbY
  clear h hok hvl hvc hL hcs hK hn0 hm0 hprv ho1 ho2 hopn hld hc hb hq1 hq2 hw0 hbX hbY hi hu hp
  go_enter Tryz.func25, Tryz.ntmps25
  go_upto_region 1 with fail
  rw [← HW0.out, ← HBY.out, ← HBX.out]
  have hx := HX0.out
  have hy := HY0.out
  have a0 := obj_cell hx 0
  have y0 := obj_cell hy 0
  have y1 := obj_cell hy 1
  have y2 := obj_cell hy 2
  have y3 := obj_cell hy 3
  simp at a0 y0 y1 y2 y3
  clear hx hy
  go_wp2_with fail
  clear a0 y0 y1 y2 y3
  refine (HCK.out _ HB0.out).mono ?_
  rintro en w1 ⟨rfl, hb1⟩
  have HB1 := Lib.hid (HB0.out.trans (hb1.mono HB0.out.size))
  have HX1 := Lib.hid (obj_below HX0.out hb1)
  have HY1 := Lib.hid (obj_below HY0.out hb1)
  clear hb1
  have hx := HX1.out
  have hy := HY1.out
  have a0 := obj_cell hx 0
  have y0 := obj_cell hy 0
  have y1 := obj_cell hy 1
  have y2 := obj_cell hy 2
  have y3 := obj_cell hy 3
  simp at a0 y0 y1 y2 y3
  clear hx hy
  go_wp2_with fail
  clear a0 y0 y1 y2 y3
  refine (HCA.out _ HB1.out).mono ?_
  rintro en w2 ⟨rfl, hb2⟩
  have HB2 := Lib.hid (HB1.out.trans (hb2.mono HB1.out.size))
  have HX2 := Lib.hid (obj_below HX1.out hb2)
  have HY2 := Lib.hid (obj_below HY1.out hb2)
  clear hb2
  have hx := HX2.out
  have hy := HY2.out
  have a0 := obj_cell hx 0
  have y0 := obj_cell hy 0
  have y1 := obj_cell hy 1
  have y2 := obj_cell hy 2
  have y3 := obj_cell hy 3
  simp at a0 y0 y1 y2 y3
  clear hx hy
  go_wp2_with fail
  refine (aaisEntity_yes _ he.1 he.2).mono ?_
  rintro en w' ⟨rfl, rfl⟩
  obtain ⟨w2, hw2⟩ : ∃ x, x = w2 := ⟨_, rfl⟩
  rw [← hw2] at HB2 HX2 HY2 a0 y0 y1 y2 y3 ⊢
  clear hw2
  go_wp2_with fail
  clear a0 y0 y1 y2 y3
  refine (HLD.out _ HB2.out).mono ?_
  rintro en w3 ⟨rfl, hb3⟩
  have HB3 := Lib.hid (HB2.out.trans (hb3.mono HB2.out.size))
  have HX3 := Lib.hid (obj_below HX2.out hb3)
  have HY3 := Lib.hid (obj_below HY2.out hb3)
  clear hb3
  have hx := HX3.out
  have hy := HY3.out
  have a0 := obj_cell hx 0
  have y0 := obj_cell hy 0
  have y1 := obj_cell hy 1
  have y2 := obj_cell hy 2
  have y3 := obj_cell hy 3
  simp at a0 y0 y1 y2 y3
  clear hx hy
  go_wp2_with fail
  refine (aawithin_yes _ hd0 hd).mono ?_
  rintro en w' ⟨rfl, rfl⟩
  obtain ⟨w3, hw3⟩ : ∃ x, x = w3 := ⟨_, rfl⟩
  rw [← hw3] at HB3 HX3 HY3 a0 y0 y1 y2 y3 ⊢
  clear hw3
  go_wp2
  go_loopw [12, 48] (fun sv iv wr => ∃ (s : Int) (j : Nat), sv = .int .i64 s ∧ iv = .int .i64 j ∧ j ≤ m0 ∧ Hid (s = openC (cl.take j)) ∧ Hid (Below w3.heap.size w3 wr)) (fun _ iv _ => m0 - (RowKit.intOf iv).toNat)
  case atStart => exact ⟨0, 0, rfl, rfl, by omega, Lib.hid rfl, Lib.hid (Below.refl _ _)⟩
  case round =>
    clear a0 y0 y1 y2 y3
    obtain ⟨s, j, rfl, rfl, hjn, HS, HB⟩ := hrel
    have HBW := Lib.hid (HB3.out.trans (HB.out.mono HB3.out.size))
    by_cases hlt : j < m0
    · have hjl : j < cl.length := by rw [← HM0.out]; exact hlt
      obtain ⟨bC, oC, rfl, hbC, hcc⟩ := HCS.out (by omega)
      have hcell := fun q (hq : q < 6) => (HBW.out.cell (p := ⟨bC, oC + j * 6 + q, none⟩) hbC).trans (hcc j hjl q hq)
      obtain ⟨hst, hsb, hxo, hxa⟩ := hOPT.out j hjl
      have hlk : (cl.take j).length = j := by rw [List.length_take]; omega
      rw [hlk, ← HS.out] at hsb
      rw [← HS.out] at hst
      have HST := Lib.hid hst
      have hj0 : (0 : Int) ≤ (j : Int) := by omega
      have hj1 : (j : Int) < (m0 : Int) := by omega
      have hwj : IntKind.i64.wrap ((j : Int) + 1) = (j : Int) + 1 := IntWalk.i64_in _ (by omega)
      clear hst
      generalize cl[j] = x at *
      obtain ⟨c0, c1, c2, c3, c4, c5⟩ := x
      simp only at hxo hxa HST
      have z0 : wr.cell? ⟨bC, oC + j * 6, none⟩ = some (.int .i64 c0) := hcell 0 (by omega)
      have z1 : wr.cell? ⟨bC, oC + j * 6 + 1, none⟩ = some (.int .i64 c1) := hcell 1 (by omega)
      have z2 : wr.cell? ⟨bC, oC + j * 6 + 2, none⟩ = some (.int .i64 c2) := hcell 2 (by omega)
      have z3 : wr.cell? ⟨bC, oC + j * 6 + 3, none⟩ = some (.int .i64 c3) := hcell 3 (by omega)
      have z4 : wr.cell? ⟨bC, oC + j * 6 + 4, none⟩ = some (.int .i64 c4) := hcell 4 (by omega)
      have z5 : wr.cell? ⟨bC, oC + j * 6 + 5, none⟩ = some (.string c5) := hcell 5 (by omega)
      have hws : IntKind.i64.wrap (s + c3) = s + c3 := IntWalk.i64_in _ (by omega)
      obtain ⟨w8, hw8⟩ : ∃ W, W = wr.alloc (.cells #[.int .i64 c0, .int .i64 c1, .int .i64 c2, .int .i64 c3, .int .i64 c4, .string c5] 39) := ⟨_, rfl⟩
      obtain ⟨bZ, hbZ⟩ : ∃ q, q = wr.heap.size := ⟨_, rfl⟩
      have HZ8 : Hid (w8.heap[bZ]? = some (.cells #[.int .i64 c0, .int .i64 c1, .int .i64 c2, .int .i64 c3, .int .i64 c4, .string c5] 39 (0, 0))) := Lib.hid (by rw [hw8, hbZ]; exact heap_alloc_new _ _)
      have HB8 : Hid (Below w3.heap.size w3 w8) := Lib.hid (by rw [hw8]; exact HB.out.alloc HB.out.size _)
      have HW8 := Lib.hid hw8
      have HBZ := Lib.hid hbZ
      clear hw8 hbZ hcell hcc hsb hlk hxo hxa
      go_upto_region 15 with fail
      rw [← HW8.out, ← HBZ.out]
      clear z0 z1 z2 z3 z4 z5
      have hz := HZ8.out
      have z3 := obj_cell hz 3
      simp at z3
      clear hz
      go_wp2
      go_roundw
      case rel => exact ⟨s + c3, j + 1, rfl, by first | rfl | go_num, by omega, Lib.hid (by rw [HST.out]), HB8⟩
      case measure => simp [RowKit.intOf]; omega
    · obtain rfl : m0 = j := by omega
      obtain rfl : op = s := by rw [HS.out, HOPN.out, List.take_of_length_le (by rw [← HM0.out]; exact Nat.le_refl _)]
      have HX4 := Lib.hid (obj_below HX3.out HB.out)
      have HY4 := Lib.hid (obj_below HY3.out HB.out)
      have HB4 := HBW
      clear hOPT HCS HOPN HM0 HB HBW HB3 HX3 HY3 HS
      have hx := HX4.out
      have hy := HY4.out
      have a0 := obj_cell hx 0
      have y0 := obj_cell hy 0
      have y1 := obj_cell hy 1
      have y2 := obj_cell hy 2
      have y3 := obj_cell hy 3
      simp at a0 y0 y1 y2 y3
      clear hx hy
      go_wp2_with fail
      clear a0 y0 y1 y2 y3
      refine (HPV.out _ HB4.out).mono ?_
      rintro en w5 ⟨rfl, hb5⟩
      have HB5 := Lib.hid (HB4.out.trans (hb5.mono HB4.out.size))
      have HX5 := Lib.hid (obj_below HX4.out hb5)
      have HY5 := Lib.hid (obj_below HY4.out hb5)
      clear hb5
      have hx := HX5.out
      have hy := HY5.out
      have a0 := obj_cell hx 0
      have y0 := obj_cell hy 0
      have y1 := obj_cell hy 1
      have y2 := obj_cell hy 2
      have y3 := obj_cell hy 3
      simp at a0 y0 y1 y2 y3
      clear hx hy
      go_wp2_with fail
      clear a0 y0 y1 y2 y3
      refine (HO1.out _ HB5.out).mono ?_
      rintro en w6 ⟨rfl, hb6⟩
      have HB6 := Lib.hid (HB5.out.trans (hb6.mono HB5.out.size))
      have HX6 := Lib.hid (obj_below HX5.out hb6)
      have HY6 := Lib.hid (obj_below HY5.out hb6)
      clear hb6
      have hx := HX6.out
      have hy := HY6.out
      have a0 := obj_cell hx 0
      have y0 := obj_cell hy 0
      have y1 := obj_cell hy 1
      have y2 := obj_cell hy 2
      have y3 := obj_cell hy 3
      simp at a0 y0 y1 y2 y3
      clear hx hy
      go_wp2_with fail
      clear a0 y0 y1 y2 y3
      refine (HO2.out _ HB6.out).mono ?_
      rintro en w7 ⟨rfl, hb7⟩
      have HB7 := Lib.hid (HB6.out.trans (hb7.mono HB6.out.size))
      have HX7 := Lib.hid (obj_below HX6.out hb7)
      have HY7 := Lib.hid (obj_below HY6.out hb7)
      clear hb7
      have hx := HX7.out
      have hy := HY7.out
      have a0 := obj_cell hx 0
      have y0 := obj_cell hy 0
      have y1 := obj_cell hy 1
      have y2 := obj_cell hy 2
      have y3 := obj_cell hy 3
      simp at a0 y0 y1 y2 y3
      clear hx hy
      obtain ⟨w8, hw8⟩ : ∃ x, x = w7 := ⟨_, rfl⟩
      rw [← hw8] at HB7 HX7 HY7 a0 y0 y1 y2 y3 ⊢
      clear hw8 a0 y0 y1 y2 y3
      obtain ⟨J, hJ⟩ : ∃ J, J = fun W : World => Below w8.heap.size w8 W := ⟨_, rfl⟩
      have HJO : Hid (∀ W, J W → Below w8.heap.size w8 W) := Lib.hid fun W hW => by rw [hJ] at hW; exact hW
      have HJI : Hid (∀ W, Below w8.heap.size w8 W → J W) := Lib.hid fun W hW => by rw [hJ]; exact hW
      have HJD : Hid (∀ W, J W → J W.drew) := Lib.hid fun W hW => HJI.out _ ((HJO.out W hW).drew)
      have HJA : Hid (∀ W o, J W → J (W.alloc o)) := Lib.hid fun W o hW => HJI.out _ ((HJO.out W hW).alloc (HJO.out W hW).size o)
      have HJ0 : Hid (J w8) := Lib.hid (HJI.out _ (Below.refl _ _))
      have HMY : Hid (∀ W, J W → ∀ q, W.cell? ⟨bY, q, none⟩ = #[.int .i64 i, .int .i64 u, .int .i64 p, .slice ac m0 capc][q]?) := Lib.hid fun W hW q => obj_cell (obj_below HY7.out (HJO.out W hW)) q
      have HG1 : Hid (∀ W, J W → Calls Tryz.prog 47 #[.int .i64 120, .int .i64 420, .int .i64 c] W fun e w' => e = .returned (.agg #[.int .i64 s0, .int .i64 s1, .int .i64 s2, .int .i64 s3, .int .i64 s4, .int .i64 s5, .int .i64 s6, .int .i64 s7]) ∧ J w' ∧ Below W.heap.size W w') := Lib.hid fun W hW => (HCH1.out W).mono fun e w' g => ⟨g.1, HJI.out _ ((HJO.out W hW).trans (g.2.mono (HJO.out W hW).size)), g.2⟩
      have HG2 : Hid (∀ W, J W → Calls Tryz.prog 47 #[.int .i64 119, .int .i64 530, .int .i64 b] W fun e w' => e = .returned (.agg #[.int .i64 r0, .int .i64 r1, .int .i64 r2, .int .i64 r3, .int .i64 r4, .int .i64 r5, .int .i64 r6, .int .i64 r7]) ∧ J w' ∧ Below W.heap.size W w') := Lib.hid fun W hW => (HCH2.out W).mono fun e w' g => ⟨g.1, HJI.out _ ((HJO.out W hW).trans (g.2.mono (HJO.out W hW).size)), g.2⟩
      obtain ⟨nK, hnK⟩ : ∃ n, n = K.length := ⟨_, rfl⟩
      obtain ⟨CK, hCK⟩ : ∃ n, n = cellsL pstC K := ⟨_, rfl⟩
      have HDL : Hid (∀ W bq, J W → w8.heap.size ≤ bq → W.heap[bq]? = some (.cells #[.int .i64 0, .int .i64 0, .int .i64 0, .int .i64 520, .int .i64 220, .int .i64 i, .int .i64 0, .int .i64 1000000, .int .i64 0, .int .i64 0, .int .i64 0, .int .i64 510, .int .i64 210, .int .i64 u, .int .i64 0, .int .i64 1000000, .int .i64 0, .int .i64 0, .int .i64 0, .int .i64 130, .int .i64 510, .int .i64 p, .int .i64 0, .int .i64 1000000, .int .i64 s0, .int .i64 s1, .int .i64 s2, .int .i64 s3, .int .i64 s4, .int .i64 s5, .int .i64 s6, .int .i64 s7, .int .i64 r0, .int .i64 r1, .int .i64 r2, .int .i64 r3, .int .i64 r4, .int .i64 r5, .int .i64 r6, .int .i64 r7] 57 (0, 0)) → Calls Tryz.prog 46 #[.slice (some ⟨bq, 0, none⟩) 5 5, .func (.func 48) #[] #[]] W fun e w' => ∃ (aK : Option Addr) (cK : Nat), e = .returned (.slice aK nK cK) ∧ nK ≤ cK ∧ Hid (Below w8.heap.size w8 w') ∧ Hid (w'.ownsRow w8.heap.size 57 8 (.slice aK nK cK) nK CK)) := Lib.hid fun W bq hW hbl hbq => by
        have hrow := new_rowK (base := w8.heap.size) (fiveP i u p c b) #[.int .i64 0, .int .i64 0, .int .i64 0, .int .i64 520, .int .i64 220, .int .i64 i, .int .i64 0, .int .i64 1000000, .int .i64 0, .int .i64 0, .int .i64 0, .int .i64 510, .int .i64 210, .int .i64 u, .int .i64 0, .int .i64 1000000, .int .i64 0, .int .i64 0, .int .i64 0, .int .i64 130, .int .i64 510, .int .i64 p, .int .i64 0, .int .i64 1000000, .int .i64 s0, .int .i64 s1, .int .i64 s2, .int .i64 s3, .int .i64 s4, .int .i64 s5, .int .i64 s6, .int .i64 s7, .int .i64 r0, .int .i64 r1, .int .i64 r2, .int .i64 r3, .int .i64 r4, .int .i64 r5, .int .i64 r6, .int .i64 r7] (by rw [HFIV.out]; rfl) hbq hbl (by rw [HFIV.out]; simp)
        have hl5 : (fiveP i u p c b).length = 5 := rfl
        rw [hl5] at hrow
        refine (delfPst_any 48 #[] (enters_of Tryz.func48 (by kernel_rfl) rfl) (fun x => decide (x.amt = 0)) (fiveP i u p c b) w8.heap.size (.slice (some ⟨bq, 0, none⟩) 5 5) W hrow (by rw [hl5]; decide) (fun x hx W2 hW2 => by simpa using aaAdjustC_any x W2)).mono ?_
        rintro e w' ⟨v', rfl, h2, h3⟩
        rw [← HKF.out] at h2
        rw [hnK, hCK]
        obtain ⟨aK, cK, rfl, h4, -⟩ := owns_gen h2
        exact ⟨aK, cK, rfl, h4, Lib.hid ((HJO.out W hW).grown h3 (HJO.out W hW).size fun q e => by have e2 : some bq = some q := e; injection e2 with e2; omega), Lib.hid h2⟩
      have HNK := Lib.hid hnK
      have HCK2 := Lib.hid hCK
      have egC := enters_of Tryz.func47 (by kernel_rfl) rfl
      have egD := enters_of Tryz.func46 (by kernel_rfl) rfl
      have hnk5 : nK ≤ 5 := by rw [hnK]; exact HKL.out
      clear hJ hnK hCK
      go_upto_region 20 with fail
      obtain ⟨P, hP⟩ : ∃ P : Nat → Value → World → Prop, P = fun j v W => match j with | 0 => (v = .pointer (some ⟨bY, 0, none⟩)) | 1 => (v = .int .i64 i) | 2 => (v = .agg #[.int .i64 0, .int .i64 0, .int .i64 0, .int .i64 520, .int .i64 220, .int .i64 i, .int .i64 0, .int .i64 1000000]) | 3 => (v = .pointer (some ⟨bY, 1, none⟩)) | 4 => (v = .int .i64 u) | 5 => (v = .agg #[.int .i64 0, .int .i64 0, .int .i64 0, .int .i64 510, .int .i64 210, .int .i64 u, .int .i64 0, .int .i64 1000000]) | 6 => (v = .pointer (some ⟨bY, 2, none⟩)) | 7 => (v = .int .i64 p) | 8 => (v = .agg #[.int .i64 0, .int .i64 0, .int .i64 0, .int .i64 130, .int .i64 510, .int .i64 p, .int .i64 0, .int .i64 1000000]) | 9 => (v = .int .i64 c) | 10 => (v = .agg #[.int .i64 s0, .int .i64 s1, .int .i64 s2, .int .i64 s3, .int .i64 s4, .int .i64 s5, .int .i64 s6, .int .i64 s7]) | 11 => (v = .int .i64 b) | 12 => (v = .agg #[.int .i64 r0, .int .i64 r1, .int .i64 r2, .int .i64 r3, .int .i64 r4, .int .i64 r5, .int .i64 r6, .int .i64 r7]) | 13 => (∃ bq, v = .slice (some ⟨bq, 0, none⟩) 5 5 ∧ W.heap[bq]? = some (.cells #[.int .i64 0, .int .i64 0, .int .i64 0, .int .i64 520, .int .i64 220, .int .i64 i, .int .i64 0, .int .i64 1000000, .int .i64 0, .int .i64 0, .int .i64 0, .int .i64 510, .int .i64 210, .int .i64 u, .int .i64 0, .int .i64 1000000, .int .i64 0, .int .i64 0, .int .i64 0, .int .i64 130, .int .i64 510, .int .i64 p, .int .i64 0, .int .i64 1000000, .int .i64 s0, .int .i64 s1, .int .i64 s2, .int .i64 s3, .int .i64 s4, .int .i64 s5, .int .i64 s6, .int .i64 s7, .int .i64 r0, .int .i64 r1, .int .i64 r2, .int .i64 r3, .int .i64 r4, .int .i64 r5, .int .i64 r6, .int .i64 r7] 57 (0, 0)) ∧ w8.heap.size ≤ bq) | _ => True := ⟨_, rfl⟩
      have HPI0 : Hid (∀ v W, P 0 v W ↔ (v = .pointer (some ⟨bY, 0, none⟩))) := Lib.hid fun v W => by rw [hP] <;> exact Iff.rfl
      have HPI1 : Hid (∀ v W, P 1 v W ↔ (v = .int .i64 i)) := Lib.hid fun v W => by rw [hP] <;> exact Iff.rfl
      have HPI2 : Hid (∀ v W, P 2 v W ↔ (v = .agg #[.int .i64 0, .int .i64 0, .int .i64 0, .int .i64 520, .int .i64 220, .int .i64 i, .int .i64 0, .int .i64 1000000])) := Lib.hid fun v W => by rw [hP] <;> exact Iff.rfl
      have HPI3 : Hid (∀ v W, P 3 v W ↔ (v = .pointer (some ⟨bY, 1, none⟩))) := Lib.hid fun v W => by rw [hP] <;> exact Iff.rfl
      have HPI4 : Hid (∀ v W, P 4 v W ↔ (v = .int .i64 u)) := Lib.hid fun v W => by rw [hP] <;> exact Iff.rfl
      have HPI5 : Hid (∀ v W, P 5 v W ↔ (v = .agg #[.int .i64 0, .int .i64 0, .int .i64 0, .int .i64 510, .int .i64 210, .int .i64 u, .int .i64 0, .int .i64 1000000])) := Lib.hid fun v W => by rw [hP] <;> exact Iff.rfl
      have HPI6 : Hid (∀ v W, P 6 v W ↔ (v = .pointer (some ⟨bY, 2, none⟩))) := Lib.hid fun v W => by rw [hP] <;> exact Iff.rfl
      have HPI7 : Hid (∀ v W, P 7 v W ↔ (v = .int .i64 p)) := Lib.hid fun v W => by rw [hP] <;> exact Iff.rfl
      have HPI8 : Hid (∀ v W, P 8 v W ↔ (v = .agg #[.int .i64 0, .int .i64 0, .int .i64 0, .int .i64 130, .int .i64 510, .int .i64 p, .int .i64 0, .int .i64 1000000])) := Lib.hid fun v W => by rw [hP] <;> exact Iff.rfl
      have HPI9 : Hid (∀ v W, P 9 v W ↔ (v = .int .i64 c)) := Lib.hid fun v W => by rw [hP] <;> exact Iff.rfl
      have HPI10 : Hid (∀ v W, P 10 v W ↔ (v = .agg #[.int .i64 s0, .int .i64 s1, .int .i64 s2, .int .i64 s3, .int .i64 s4, .int .i64 s5, .int .i64 s6, .int .i64 s7])) := Lib.hid fun v W => by rw [hP] <;> exact Iff.rfl
      have HPI11 : Hid (∀ v W, P 11 v W ↔ (v = .int .i64 b)) := Lib.hid fun v W => by rw [hP] <;> exact Iff.rfl
      have HPI12 : Hid (∀ v W, P 12 v W ↔ (v = .agg #[.int .i64 r0, .int .i64 r1, .int .i64 r2, .int .i64 r3, .int .i64 r4, .int .i64 r5, .int .i64 r6, .int .i64 r7])) := Lib.hid fun v W => by rw [hP] <;> exact Iff.rfl
      have HPI13 : Hid (∀ v W, P 13 v W ↔ (∃ bq, v = .slice (some ⟨bq, 0, none⟩) 5 5 ∧ W.heap[bq]? = some (.cells #[.int .i64 0, .int .i64 0, .int .i64 0, .int .i64 520, .int .i64 220, .int .i64 i, .int .i64 0, .int .i64 1000000, .int .i64 0, .int .i64 0, .int .i64 0, .int .i64 510, .int .i64 210, .int .i64 u, .int .i64 0, .int .i64 1000000, .int .i64 0, .int .i64 0, .int .i64 0, .int .i64 130, .int .i64 510, .int .i64 p, .int .i64 0, .int .i64 1000000, .int .i64 s0, .int .i64 s1, .int .i64 s2, .int .i64 s3, .int .i64 s4, .int .i64 s5, .int .i64 s6, .int .i64 s7, .int .i64 r0, .int .i64 r1, .int .i64 r2, .int .i64 r3, .int .i64 r4, .int .i64 r5, .int .i64 r6, .int .i64 r7] 57 (0, 0)) ∧ w8.heap.size ≤ bq)) := Lib.hid fun v W => by rw [hP] <;> exact Iff.rfl
      have HKP : Hid (∀ (j : Nat) v W W', Below W.heap.size W W' → P j v W → P j v W') := Lib.hid (by
        rw [hP]
        intro j v W W' hb h
        match j, h with
        | 0, h => exact h
        | 1, h => exact h
        | 2, h => exact h
        | 3, h => exact h
        | 4, h => exact h
        | 5, h => exact h
        | 6, h => exact h
        | 7, h => exact h
        | 8, h => exact h
        | 9, h => exact h
        | 10, h => exact h
        | 11, h => exact h
        | 12, h => exact h
        | 13, ⟨bq, e, s0, s1⟩ => exact ⟨bq, e, obj_below s0 hb, s1⟩
        | j + 14, _ => trivial)
      clear hP
      go_cut [19] (fun qv wx => ∃ (aK : Option Addr) (cK : Nat), qv = .slice aK nK cK ∧ nK ≤ cK ∧ Hid (Below w8.heap.size w8 wx) ∧ Hid (wx.ownsRow w8.heap.size 57 8 (.slice aK nK cK) nK CK))
      case first =>
        refine wp_region_tail [77, 78, 79, 80, 81, 82, 83, 84, 85, 86, 87, 88, 89, 90, 91, 19] (slotS [77, 78, 79, 80, 81, 82, 83, 84, 85, 86, 87, 88, 89, 90]) (readsS [77, 78, 79, 80, 81, 82, 83, 84, 85, 86, 87, 88, 89, 90]) (RP [77, 78, 79, 80, 81, 82, 83, 84, 85, 86, 87, 88, 89, 90] P) J (fun k f W => match k with | 0 => (∃ bq, f 90 = .slice (some ⟨bq, 0, none⟩) 5 5 ∧ J W ∧ W.heap[bq]? = some (.cells #[.int .i64 0, .int .i64 0, .int .i64 0, .int .i64 520, .int .i64 220, .int .i64 i, .int .i64 0, .int .i64 1000000, .int .i64 0, .int .i64 0, .int .i64 0, .int .i64 510, .int .i64 210, .int .i64 u, .int .i64 0, .int .i64 1000000, .int .i64 0, .int .i64 0, .int .i64 0, .int .i64 130, .int .i64 510, .int .i64 p, .int .i64 0, .int .i64 1000000, .int .i64 s0, .int .i64 s1, .int .i64 s2, .int .i64 s3, .int .i64 s4, .int .i64 s5, .int .i64 s6, .int .i64 s7, .int .i64 r0, .int .i64 r1, .int .i64 r2, .int .i64 r3, .int .i64 r4, .int .i64 r5, .int .i64 r6, .int .i64 r7] 57 (0, 0)) ∧ w8.heap.size ≤ bq) | 1 => (∃ (aK : Option Addr) (cK : Nat), f 91 = .slice aK nK cK ∧ nK ≤ cK ∧ Hid (Below w8.heap.size w8 W) ∧ Hid (W.ownsRow w8.heap.size 57 8 (.slice aK nK cK) nK CK)) | _ => (∃ (aK : Option Addr) (cK : Nat), f 19 = .slice aK nK cK ∧ nK ≤ cK ∧ Hid (Below w8.heap.size w8 W) ∧ Hid (W.ownsRow w8.heap.size 57 8 (.slice aK nK cK) nK CK))) 14 8 (by decide) (by kernel_rfl) (by kernel_rfl) (by kernel_rfl) (by kernel_rfl) (HJD.out _ HJ0.out) (fun j f q v W hq h => RP.upd hq h) ?_ ?_ ?_ ?_
        case refine_1 =>
          intro iq hiq f W hIW hdep0
          have hdep : ∀ j, depB _ iq j = true → P j (f (slotS [77, 78, 79, 80, 81, 82, 83, 84, 85, 86, 87, 88, 89, 90] j)) W := hdep0
          clear hdep0
          generalize ha1 : putsL _ [77, 78, 79, 80, 81, 82, 83, 84, 85, 86, 87, 88, 89, 90, 91, 19] f = a1
          match iq, hiq, hdep with
          | 0, _, hdep0 =>
            have E7 : a1.tmps[7]?.getD undef = .pointer (some ⟨bY, 0, none⟩) := by rw [← ha1]; exact (putsL_out2 _ _ _ _ (by decide)).trans rfl
            exact wpOp_val rfl rfl (v := .pointer (some ⟨bY, 0, none⟩)) (w' := W) (by simp [execOp, go_sem, E7]) ⟨hIW, fun _ h => h, _, by decide, rfl, RP.set ((HPI0.out _ _).2 rfl)⟩
          | 1, _, hdep0 =>
            have hd0 := (HPI0.out _ _).1 (hdep0 0 (by kernel_rfl))
            have E77 : a1.tmps[77]?.getD undef = .pointer (some ⟨bY, 0, none⟩) := by rw [← ha1]; exact (putsL_in2 _ _ _ _ (by decide) (show 77 < 134 from by decide)).trans hd0
            have v0 : W.cell? ⟨bY, 0, none⟩ = some (.int .i64 i) := by simpa using HMY.out W hIW 0
            exact wpOp_val rfl rfl (v := .int .i64 i) (w' := W) (by simp [execOp, go_sem, E77, v0]) ⟨hIW, fun _ h => h, _, by decide, rfl, RP.set ((HPI1.out _ _).2 rfl)⟩
          | 2, _, hdep0 =>
            have hd1 := (HPI1.out _ _).1 (hdep0 1 (by kernel_rfl))
            have E78 : a1.tmps[78]?.getD undef = .int .i64 i := by rw [← ha1]; exact (putsL_in2 _ _ _ _ (by decide) (show 78 < 134 from by decide)).trans hd1
            exact wpOp_val rfl rfl (v := .agg #[.int .i64 0, .int .i64 0, .int .i64 0, .int .i64 520, .int .i64 220, .int .i64 i, .int .i64 0, .int .i64 1000000]) (w' := W) (by simp [execOp, go_sem, E78]) ⟨hIW, fun _ h => h, _, by decide, rfl, RP.set ((HPI2.out _ _).2 rfl)⟩
          | 3, _, hdep0 =>
            have E7 : a1.tmps[7]?.getD undef = .pointer (some ⟨bY, 0, none⟩) := by rw [← ha1]; exact (putsL_out2 _ _ _ _ (by decide)).trans rfl
            exact wpOp_val rfl rfl (v := .pointer (some ⟨bY, 1, none⟩)) (w' := W) (by simp [execOp, go_sem, E7]) ⟨hIW, fun _ h => h, _, by decide, rfl, RP.set ((HPI3.out _ _).2 rfl)⟩
          | 4, _, hdep0 =>
            have hd3 := (HPI3.out _ _).1 (hdep0 3 (by kernel_rfl))
            have E80 : a1.tmps[80]?.getD undef = .pointer (some ⟨bY, 1, none⟩) := by rw [← ha1]; exact (putsL_in2 _ _ _ _ (by decide) (show 80 < 134 from by decide)).trans hd3
            have v1 : W.cell? ⟨bY, 1, none⟩ = some (.int .i64 u) := by simpa using HMY.out W hIW 1
            exact wpOp_val rfl rfl (v := .int .i64 u) (w' := W) (by simp [execOp, go_sem, E80, v1]) ⟨hIW, fun _ h => h, _, by decide, rfl, RP.set ((HPI4.out _ _).2 rfl)⟩
          | 5, _, hdep0 =>
            have hd4 := (HPI4.out _ _).1 (hdep0 4 (by kernel_rfl))
            have E81 : a1.tmps[81]?.getD undef = .int .i64 u := by rw [← ha1]; exact (putsL_in2 _ _ _ _ (by decide) (show 81 < 134 from by decide)).trans hd4
            exact wpOp_val rfl rfl (v := .agg #[.int .i64 0, .int .i64 0, .int .i64 0, .int .i64 510, .int .i64 210, .int .i64 u, .int .i64 0, .int .i64 1000000]) (w' := W) (by simp [execOp, go_sem, E81]) ⟨hIW, fun _ h => h, _, by decide, rfl, RP.set ((HPI5.out _ _).2 rfl)⟩
          | 6, _, hdep0 =>
            have E7 : a1.tmps[7]?.getD undef = .pointer (some ⟨bY, 0, none⟩) := by rw [← ha1]; exact (putsL_out2 _ _ _ _ (by decide)).trans rfl
            exact wpOp_val rfl rfl (v := .pointer (some ⟨bY, 2, none⟩)) (w' := W) (by simp [execOp, go_sem, E7]) ⟨hIW, fun _ h => h, _, by decide, rfl, RP.set ((HPI6.out _ _).2 rfl)⟩
          | 7, _, hdep0 =>
            have hd6 := (HPI6.out _ _).1 (hdep0 6 (by kernel_rfl))
            have E83 : a1.tmps[83]?.getD undef = .pointer (some ⟨bY, 2, none⟩) := by rw [← ha1]; exact (putsL_in2 _ _ _ _ (by decide) (show 83 < 134 from by decide)).trans hd6
            have v2 : W.cell? ⟨bY, 2, none⟩ = some (.int .i64 p) := by simpa using HMY.out W hIW 2
            exact wpOp_val rfl rfl (v := .int .i64 p) (w' := W) (by simp [execOp, go_sem, E83, v2]) ⟨hIW, fun _ h => h, _, by decide, rfl, RP.set ((HPI7.out _ _).2 rfl)⟩
          | 8, _, hdep0 =>
            have hd7 := (HPI7.out _ _).1 (hdep0 7 (by kernel_rfl))
            have E84 : a1.tmps[84]?.getD undef = .int .i64 p := by rw [← ha1]; exact (putsL_in2 _ _ _ _ (by decide) (show 84 < 134 from by decide)).trans hd7
            exact wpOp_val rfl rfl (v := .agg #[.int .i64 0, .int .i64 0, .int .i64 0, .int .i64 130, .int .i64 510, .int .i64 p, .int .i64 0, .int .i64 1000000]) (w' := W) (by simp [execOp, go_sem, E84]) ⟨hIW, fun _ h => h, _, by decide, rfl, RP.set ((HPI8.out _ _).2 rfl)⟩
          | 9, _, hdep0 =>
            have E17 : a1.tmps[17]?.getD undef = .int .i64 c := by rw [← ha1]; exact (putsL_out2 _ _ _ _ (by decide)).trans rfl
            exact wpOp_val rfl rfl (v := .int .i64 c) (w' := W) (by simp [execOp, go_sem, E17]) ⟨hIW, fun _ h => h, _, by decide, rfl, RP.set ((HPI9.out _ _).2 rfl)⟩
          | 10, _, hdep0 =>
            have hd9 := (HPI9.out _ _).1 (hdep0 9 (by kernel_rfl))
            have E86 : a1.tmps[86]?.getD undef = .int .i64 c := by rw [← ha1]; exact (putsL_in2 _ _ _ _ (by decide) (show 86 < 134 from by decide)).trans hd9
            refine wpOp_call rfl rfl (n := 47) (vs := #[.int .i64 120, .int .i64 420, .int .i64 c]) (by have := egC #[.int .i64 120, .int .i64 420, .int .i64 c] W; simp [execOp, E86, resolve, invoke, go_sem] <;> exact this) ((HG1.out W hIW).mono fun e w' hh => (by obtain ⟨rfl, hJ', hb'⟩ := hh; exact ⟨_, rfl, (HPI10.out _ _).2 rfl, hJ', hb'⟩ : ∃ v, e = .returned v ∧ (P 10 v w' ∧ J w' ∧ Below W.heap.size W w'))) ?_
            rintro v w' ⟨hv, hI', hb'⟩
            exact ⟨hI', fun j h => HKP.out j _ _ _ hb' h, _, by decide, rfl, RP.set hv⟩
          | 11, _, hdep0 =>
            have E18 : a1.tmps[18]?.getD undef = .int .i64 b := by rw [← ha1]; exact (putsL_out2 _ _ _ _ (by decide)).trans rfl
            exact wpOp_val rfl rfl (v := .int .i64 b) (w' := W) (by simp [execOp, go_sem, E18]) ⟨hIW, fun _ h => h, _, by decide, rfl, RP.set ((HPI11.out _ _).2 rfl)⟩
          | 12, _, hdep0 =>
            have hd11 := (HPI11.out _ _).1 (hdep0 11 (by kernel_rfl))
            have E88 : a1.tmps[88]?.getD undef = .int .i64 b := by rw [← ha1]; exact (putsL_in2 _ _ _ _ (by decide) (show 88 < 134 from by decide)).trans hd11
            refine wpOp_call rfl rfl (n := 47) (vs := #[.int .i64 119, .int .i64 530, .int .i64 b]) (by have := egC #[.int .i64 119, .int .i64 530, .int .i64 b] W; simp [execOp, E88, resolve, invoke, go_sem] <;> exact this) ((HG2.out W hIW).mono fun e w' hh => (by obtain ⟨rfl, hJ', hb'⟩ := hh; exact ⟨_, rfl, (HPI12.out _ _).2 rfl, hJ', hb'⟩ : ∃ v, e = .returned v ∧ (P 12 v w' ∧ J w' ∧ Below W.heap.size W w'))) ?_
            rintro v w' ⟨hv, hI', hb'⟩
            exact ⟨hI', fun j h => HKP.out j _ _ _ hb' h, _, by decide, rfl, RP.set hv⟩
          | 13, _, hdep0 =>
            have hd2 := (HPI2.out _ _).1 (hdep0 2 (by kernel_rfl))
            have hd5 := (HPI5.out _ _).1 (hdep0 5 (by kernel_rfl))
            have hd8 := (HPI8.out _ _).1 (hdep0 8 (by kernel_rfl))
            have hd10 := (HPI10.out _ _).1 (hdep0 10 (by kernel_rfl))
            have hd12 := (HPI12.out _ _).1 (hdep0 12 (by kernel_rfl))
            have E79 : a1.tmps[79]?.getD undef = .agg #[.int .i64 0, .int .i64 0, .int .i64 0, .int .i64 520, .int .i64 220, .int .i64 i, .int .i64 0, .int .i64 1000000] := by rw [← ha1]; exact (putsL_in2 _ _ _ _ (by decide) (show 79 < 134 from by decide)).trans hd2
            have E82 : a1.tmps[82]?.getD undef = .agg #[.int .i64 0, .int .i64 0, .int .i64 0, .int .i64 510, .int .i64 210, .int .i64 u, .int .i64 0, .int .i64 1000000] := by rw [← ha1]; exact (putsL_in2 _ _ _ _ (by decide) (show 82 < 134 from by decide)).trans hd5
            have E85 : a1.tmps[85]?.getD undef = .agg #[.int .i64 0, .int .i64 0, .int .i64 0, .int .i64 130, .int .i64 510, .int .i64 p, .int .i64 0, .int .i64 1000000] := by rw [← ha1]; exact (putsL_in2 _ _ _ _ (by decide) (show 85 < 134 from by decide)).trans hd8
            have E87 : a1.tmps[87]?.getD undef = .agg #[.int .i64 s0, .int .i64 s1, .int .i64 s2, .int .i64 s3, .int .i64 s4, .int .i64 s5, .int .i64 s6, .int .i64 s7] := by rw [← ha1]; exact (putsL_in2 _ _ _ _ (by decide) (show 87 < 134 from by decide)).trans hd10
            have E89 : a1.tmps[89]?.getD undef = .agg #[.int .i64 r0, .int .i64 r1, .int .i64 r2, .int .i64 r3, .int .i64 r4, .int .i64 r5, .int .i64 r6, .int .i64 r7] := by rw [← ha1]; exact (putsL_in2 _ _ _ _ (by decide) (show 89 < 134 from by decide)).trans hd12
            exact wpOp_val rfl rfl (v := .slice (some ⟨W.heap.size, 0, none⟩) 5 5) (w' := W.alloc (.cells #[.int .i64 0, .int .i64 0, .int .i64 0, .int .i64 520, .int .i64 220, .int .i64 i, .int .i64 0, .int .i64 1000000, .int .i64 0, .int .i64 0, .int .i64 0, .int .i64 510, .int .i64 210, .int .i64 u, .int .i64 0, .int .i64 1000000, .int .i64 0, .int .i64 0, .int .i64 0, .int .i64 130, .int .i64 510, .int .i64 p, .int .i64 0, .int .i64 1000000, .int .i64 s0, .int .i64 s1, .int .i64 s2, .int .i64 s3, .int .i64 s4, .int .i64 s5, .int .i64 s6, .int .i64 s7, .int .i64 r0, .int .i64 r1, .int .i64 r2, .int .i64 r3, .int .i64 r4, .int .i64 r5, .int .i64 r6, .int .i64 r7] 57)) (by simp [execOp, go_sem, E79, E82, E85, E87, E89]) ⟨(HJA.out _ _ hIW), fun j h => HKP.out j _ _ _ (below_alloc _ _) h, _, by decide, rfl, RP.set ((HPI13.out _ _).2 ⟨_, rfl, heap_alloc_new _ _, (HJO.out W hIW).size⟩)⟩
          | iq + 14, h, _ => exact absurd h (by omega)
        case refine_2 =>
          intro f W hIW hR
          have h90 := (HPI13.out _ _).1 (hR 13 (by decide))
          obtain ⟨bq, h90, hbq, hbl⟩ := h90
          exact ⟨bq, h90, hIW, hbq, hbl⟩
        case refine_3 =>
          intro iq hsq hiq f W hIt0
          have hiq2 : iq < 16 := hiq
          have hIt := hIt0
          clear hIt0
          rcases (show iq = 14 ∨ iq = 15 by omega) with rfl | rfl
          · clear hsq hiq hiq2
            obtain ⟨bq, h90, hIW, hbq, hbl⟩ := hIt
            generalize ha1 : putsL _ [77, 78, 79, 80, 81, 82, 83, 84, 85, 86, 87, 88, 89, 90, 91, 19] f = a1
            have E90 : a1.tmps[90]?.getD undef = .slice (some ⟨bq, 0, none⟩) 5 5 := by rw [← ha1]; exact (putsL_in2 _ _ _ _ (by decide) (show 90 < 134 from by decide)).trans h90
            refine wpOp_call rfl rfl (n := 46) (vs := #[.slice (some ⟨bq, 0, none⟩) 5 5, .func (.func 48) #[] #[]]) (by have := egD #[.slice (some ⟨bq, 0, none⟩) 5 5, .func (.func 48) #[] #[]] W; simp [execOp, E90, resolve, invoke, go_sem] <;> exact this) (R := fun v w' => ∃ (aK : Option Addr) (cK : Nat), v = .slice aK nK cK ∧ nK ≤ cK ∧ Hid (Below w8.heap.size w8 w') ∧ Hid (w'.ownsRow w8.heap.size 57 8 (.slice aK nK cK) nK CK)) ((HDL.out W bq hIW hbl hbq).mono fun e w' hh => (by obtain ⟨aK, cK, h1, h2, h3, h4⟩ := hh; exact ⟨_, h1, aK, cK, rfl, h2, h3, h4⟩)) ?_
            rintro v w' ⟨aK, cK, rfl, hq⟩
            exact ⟨updF f 91 (.slice aK nK cK), by rw [← ha1]; exact putsL_put _ _ _ _ _ (by decide), aK, cK, updF_same _ _ _, hq⟩
          · clear hsq hiq hiq2
            obtain ⟨aK, cK, h91, hq⟩ := hIt
            generalize ha1 : putsL _ [77, 78, 79, 80, 81, 82, 83, 84, 85, 86, 87, 88, 89, 90, 91, 19] f = a1
            have E91 : a1.tmps[91]?.getD undef = .slice aK nK cK := by rw [← ha1]; exact (putsL_in2 _ _ _ _ (by decide) (show 91 < 134 from by decide)).trans h91
            exact wpOp_val rfl rfl (v := .slice aK nK cK) (w' := W) (by simp [execOp, go_sem, E91]) ⟨updF f 19 (.slice aK nK cK), by rw [← ha1]; exact putsL_put _ _ _ _ _ (by decide), aK, cK, updF_same _ _ _, hq⟩
        case refine_4 =>
          intro f W hIt
          simp only [putsL, List.foldl_cons, List.foldl_nil, Act.put, List.setIfInBounds_toArray, List.set_cons_zero, List.set_cons_succ]
          obtain ⟨aK, cK, h19, hq⟩ := hIt
          go_wp2
          go_meet
          exact ⟨aK, cK, (by first | exact h19 | rfl), hq⟩
      case rest =>
        obtain ⟨aK, cK, rfl, hncK, HBK, HOK⟩ := hcut
        have HB8 := Lib.hid (HB7.out.trans (HBK.out.mono HB7.out.size))
        have HX8 := Lib.hid (obj_below HX7.out HBK.out)
        have hO8 := ownsRow_mono HOK.out HB7.out.size
        rw [HCK2.out, ← mid_zero (n0 : Int) d ent K] at hO8
        have HO8 := Lib.hid hO8
        clear hO8
        clear HBK HOK HJO HJI HJD HJA HJ0 HMY HG1 HG2 HDL HB7 HX7 HY7 HCK2
        go_wp2
        go_loopw [94] (fun iv wr => ∃ (k : Nat), iv = .int .i64 k ∧ k ≤ nK ∧ Hid (Below w.heap.size w wr) ∧ Hid (wr.heap[bX]? = some (.cells #[.slice al n0 capl] 27 (0, 0))) ∧ Hid (wr.ownsRow w.heap.size 57 8 (.slice aK nK cK) nK (cellsL pstC (midP n0 d ent K k)))) (fun iv _ => nK - (RowKit.intOf iv).toNat)
        case atStart => exact ⟨0, rfl, by omega, HB8, HX8, HO8⟩
        case round =>
          clear HB8 HX8 HO8
          obtain ⟨k, rfl, hkn, HB, HX, HO⟩ := hrel
          by_cases hlt : k < nK
          · have hkl : k < K.length := by rw [← HNK.out]; exact hlt
            have hml : k < (midP n0 d ent K k).length := by rw [mid_len _ _ _ _ (Nat.le_of_lt hkl)]; exact hkl
            obtain ⟨g, cg, hsl, hgb, hgc⟩ := owns_shape HO.out (by omega)
            simp only [Value.slice.injEq, true_and] at hsl
            obtain ⟨rfl, rfl⟩ := hsl
            have hmk := mid_at n0 d ent K hkl hml
            have hR := row_three hml ((n0 : Int) + (k : Int) + 1) d ent HO.out
            have HAM : Hid (0 ≤ K[k].amt ∧ K[k].amt ≤ 1000000000000) := Lib.hid (by have := (HKR.out _ (List.getElem_mem hkl)).amt; omega)
            have hcells := fun q (hq : q < 8) => (HO.out.cellAt (k * 8 + q) (by omega)).trans (cellsL_get pstF (midP n0 d ent K k) k q hml hq)
            have hfz := fun q => HO.out.frozenAt (k * 8 + q)
            rw [hmk] at hcells hR
            rw [← mid_step _ _ _ _ hkl] at hR
            generalize K[k] = x at *
            obtain ⟨y0, y1, y2, y3, y4, y5, y6, y7⟩ := x
            have c0 : wr.cell? ⟨g, k * 8, none⟩ = some (.int .i64 y0) := hcells 0 (by omega)
            have c1 : wr.cell? ⟨g, k * 8 + 1, none⟩ = some (.int .i64 y1) := hcells 1 (by omega)
            have c2 : wr.cell? ⟨g, k * 8 + 2, none⟩ = some (.int .i64 y2) := hcells 2 (by omega)
            have c5 : wr.cell? ⟨g, k * 8 + 5, none⟩ = some (.int .i64 y5) := hcells 5 (by omega)
            have f0 : wr.frozen? ⟨g, k * 8, none⟩ = false := hfz 0
            have f1 : wr.frozen? ⟨g, k * 8 + 1, none⟩ = false := hfz 1
            have f2 : wr.frozen? ⟨g, k * 8 + 2, none⟩ = false := hfz 2
            have hne : bX ≠ g := own_ne HO.out HX.out (by decide)
            have hx := HX.out
            have a0 := obj_cell hx 0
            simp at a0
            have hk0 : (0 : Int) ≤ (k : Int) := by omega
            have hk1 : (k : Int) < (nK : Int) := by omega
            have hwk : IntKind.i64.wrap ((k : Int) + 1) = (k : Int) + 1 := IntWalk.i64_in _ (by omega)
            have hwnk : IntKind.i64.wrap ((n0 : Int) + (k : Int)) = (n0 : Int) + (k : Int) := IntWalk.i64_in _ (by omega)
            have hwnk1 : IntKind.i64.wrap ((n0 : Int) + (k : Int) + 1) = (n0 : Int) + (k : Int) + 1 := IntWalk.i64_in _ (by omega)
            have HR := Lib.hid hR
            clear hR hcells hfz hx hmk
            obtain ⟨w9, hw9⟩ : ∃ W, W = ((wr.setCell ⟨g, k * 8, none⟩ (.int .i64 ((n0 : Int) + (k : Int) + 1))).setCell ⟨g, k * 8 + 1, none⟩ (.int .i64 d)).setCell ⟨g, k * 8 + 2, none⟩ (.int .i64 ent) := ⟨_, rfl⟩
            have d5 : w9.cell? ⟨g, k * 8 + 5, none⟩ = some (.int .i64 y5) := by rw [hw9, World.cell?_setCell_other _ _ _ _ (by intro q; injection q with _ q; omega), World.cell?_setCell_other _ _ _ _ (by intro q; injection q with _ q; omega), World.cell?_setCell_other _ _ _ _ (by intro q; injection q with _ q; omega), c5]
            go_upto_region 25 with fail
            rw [← hw9]
            rw [← hw9] at HR
            have HO9 := Lib.hid HR.out.1
            have HB9 : Hid (Below w.heap.size w w9) := Lib.hid (HB.out.grown HR.out.2 HB.out.size fun q e => by have e2 : some g = some q := e; injection e2 with e2; omega)
            have HX9 : Hid (w9.heap[bX]? = some (.cells #[.slice al n0 capl] 27 (0, 0))) := Lib.hid ((HR.out.2.block bX (obj_lt HX.out) (by simp [hne])).trans HX.out)
            clear hw9 HR c0 c1 c2 c5 f0 f1 f2 a0 HB HX HO hne
            obtain ⟨gq, hgq⟩ : ∃ z, z = w9.heap.size := ⟨_, rfl⟩
            obtain ⟨w10, hw10⟩ : ∃ W, W = w9.alloc (.cells #[.int .i64 y5] 3) := ⟨_, rfl⟩
            have HB10 : Hid (Below w9.heap.size w9 w10) := Lib.hid (by rw [hw10]; exact below_alloc _ _)
            have HL10 : Hid (ListAt intC 1 w10 (.slice (some ⟨gq, 0, none⟩) 1 1) [y5]) := Lib.hid (by rw [hw10, hgq]; exact list_newI w9 [y5] 3)
            have HAMT := Lib.hid (aaamounts_yes [y5] (fun x hx => by simp only [List.mem_cons, List.mem_nil_iff, or_false] at hx; subst hx; exact HAM.out) (by simp) _ w10 HL10.out)
            have HW10 := Lib.hid hw10
            have HGQ := Lib.hid hgq
            clear hw10 hgq
            go_wp2_with fail
            rw [← HW10.out, ← HGQ.out]
            refine (HAMT.out).mono ?_
            rintro en w11 ⟨rfl, hb11⟩
            have HBN := Lib.hid (HB10.out.trans (hb11.mono HB10.out.size))
            have HB11 := Lib.hid (HB9.out.trans (HBN.out.mono HB9.out.size))
            have HX11 := Lib.hid (obj_below HX9.out HBN.out)
            have HO11 := Lib.hid (ownsRow_below HO9.out HBN.out)
            clear hb11 d5 HBN HB9 HX9 HO9 HB10 HL10 HAMT HW10 HGQ HAM
            go_wp2
            go_roundw
            case rel => exact ⟨k + 1, by first | rfl | go_num, by omega, HB11, HX11, HO11⟩
            case measure => simp [RowKit.intOf]; omega
          · obtain rfl : nK = k := by omega
            have hx := HX.out
            have a0 := obj_cell hx 0
            simp at a0
            clear hx
            have hwl : IntKind.i64.wrap ((n0 : Int) + (nK : Int)) = (n0 : Int) + (nK : Int) := IntWalk.i64_in _ (by omega)
            have hl4 : ¬ 400 < (n0 : Int) + (nK : Int) := by omega
            have hO := HO.out
            have hmf : midP (n0 : Int) d ent K nK = numP n0 d ent K := by rw [HNK.out]; exact mid_full _ _ _ _
            rw [hmf] at hO
            have HO2 := Lib.hid hO
            clear hO hmf HO
            go_wp2
            go_ret2
            exact ⟨_, rfl, by rw [← HNK.out]; exact HO2.out, HB.out⟩

end Go.Proofs.YtknmgkjfopoinaaGreatDoor
