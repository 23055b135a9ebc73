/- RestatementExplains: a restated result is that of the ledger and the effect of its year's corrections; its worth at the beginning is the former one with the former result. -/
import Derived.Test.YtoccnindkimjdaaMHsF
set_option linter.unusedSimpArgs false
set_option linter.unusedVariables false
set_option linter.unusedSimpArgs false
set_option linter.unusedVariables false
namespace Go.Proofs.Ytoccnindkimjdaa
open Go.RowKit Go.Lib Go.Proofs

set_option maxRecDepth 100000 in
set_option maxHeartbeats 16000000 in
theorem lawExplains44_any (v : Value) (n : Nat) (w : World) (hi : IntsAt w v n w.heap.size) (hn : n ≤ 9223372036854775807) :
    Calls Try.prog 4 #[v] w fun e w' => e = .returned (.bool true) ∧ Below w.heap.size w w' := by
  have HNEW := Lib.hid (sNew_any v n w hi hn)
  clear hi hn
  go_enter Try.func4, Try.ntmps4
  go_wp2_with fail
  refine (HNEW.out).mono ?_
  rintro e w1 ⟨rfl, t1, b1⟩
  obtain ⟨tb, htb⟩ : ∃ tb, tb = w.heap.size := ⟨_, rfl⟩
  rw [← htb] at t1 ⊢
  have HMD := Lib.hid (made44_any tb (most := 6) (by omega) w1 t1)
  have HTB := Lib.hid htb
  have HFIN : Hid (∀ W, SI w1 tb W → Below w.heap.size w W) := Lib.hid fun W hW => b1.grown hW.old b1.size (fun q e => by injection e with e; omega)
  clear t1 b1 HNEW htb
  go_wp2_with fail
  refine (HMD.out).mono ?_
  rintro e w2 ⟨h, ul, up, uc, rfl, hm, hat, hsi⟩
  obtain ⟨al, ap, ac, cl, cp, cc, rfl, rfl, rfl⟩ := hat.parts
  obtain ⟨nl, hnl⟩ : ∃ q, q = h.led.length := ⟨_, rfl⟩
  obtain ⟨np, hnp⟩ : ∃ q, q = h.pres.length := ⟨_, rfl⟩
  obtain ⟨nc, hnc⟩ : ∃ q, q = h.cors.length := ⟨_, rfl⟩
  rw [← hnl, ← hnp, ← hnc] at hat ⊢
  have HM := Lib.hid hm
  have HOK := Lib.hid hm.ok
  have HNL := Lib.hid hnl
  have HNP := Lib.hid hnp
  have HNC := Lib.hid hnc
  obtain ⟨w3, hw3⟩ : ∃ W, W = w2.alloc (.cells #[.slice al nl cl, .slice ap np cp, .slice ac nc cc] 31) := ⟨_, rfl⟩
  obtain ⟨bH, hbH⟩ : ∃ b, b = w2.heap.size := ⟨_, rfl⟩
  have XH_w3 : Hid (w3.heap[bH]? = some (.cells #[.slice al nl cl, .slice ap np cp, .slice ac nc cc] 31 (0, 0))) := Lib.hid (by rw [hw3, hbH]; exact heap_alloc_new _ _)
  have S_w3 : Hid (SI w1 tb w3) := Lib.hid (by rw [hw3]; exact hsi.alloc _)
  have A_w3 : Hid (HstAt w3 (.slice al nl cl) (.slice ap np cp) (.slice ac nc cc) h) := Lib.hid (by rw [hw3]; exact hat.below (below_alloc _ _))
  have HNT : Hid (bH ≠ tb) := Lib.hid (by have := hsi.src.lt; omega)
  have HW3 := Lib.hid hw3
  have HBH := Lib.hid hbH
  clear hw3 hbH hm hat hsi hnl hnp hnc HMD
  go_upto_region 3 with fail
  rw [← HW3.out, ← HBH.out]
  have B_w3 := Lib.hid (HFIN.out _ S_w3.out)
  clear S_w3 HFIN
  obtain ⟨RM, hRM⟩ : ∃ R : Int → Stm, R = fun y => restM y h := ⟨_, rfl⟩
  have HRH : Hid (∀ (y : Int) (W : World), (0 ≤ y ∧ y ≤ 99) → HstAt W (.slice al nl cl) (.slice ap np cp) (.slice ac nc cc) h → Calls Try.prog 15 #[.agg #[.slice al nl cl, .slice ap np cp, .slice ac nc cc], .int .i64 y] W fun e w' => e = .returned (.tuple #[.agg #[.int .i64 (RM y).ast, .int .i64 (RM y).lia, .int .i64 (RM y).wor, .int .i64 (RM y).rev, .int .i64 (RM y).exp], .int .i64 0]) ∧ Below W.heap.size W w') := Lib.hid fun y W hy q => by
    rw [hRM]
    exact rsRestated_ok HOK.out hy _ _ _ W q
  have HEX := Lib.hid (fun (y : Int) (W : World) (hy : 0 ≤ y ∧ y ≤ 99) (q : HstAt W (.slice al nl cl) (.slice ap np cp) (.slice ac nc cc) h) => rsExplained_ok HOK.out hy _ _ _ W q)
  have HWO : Hid (∀ y : Int, IntKind.i64.wrap ((RM (y - 1)).ast - (RM (y - 1)).lia) = (RM y).wor) := Lib.hid fun y => by
    rw [hRM]
    have h1 := rest_worth HOK.out y
    have h2 : StmIn 600000 (restM y h) := stM_in (HOK.out.allMem y) (by have := HOK.out.allLen y; omega)
    have h3 := h2.wor
    show IntKind.i64.wrap ((restM (y - 1) h).ast - (restM (y - 1) h).lia) = (restM y h).wor
    rw [← h1]
    exact IntWalk.i64_in _ (by omega)
  clear hRM
  go_wp2
  go_loopw [5] (fun yv wr => ∃ y : Int, yv = .int .i64 y ∧ 0 ≤ y ∧ y ≤ 4 ∧ Hid (Below w3.heap.size w3 wr)) (fun yv _ => (4 - RowKit.intOf yv).toNat)
  case atStart => exact ⟨0, rfl, by omega, by omega, Lib.hid (Below.refl _ _)⟩
  case round =>
  obtain ⟨y, rfl, hy0, hy1, L_wr⟩ := hrel
  have XH_wr := Lib.hid (obj_below XH_w3.out L_wr.out)
  have A_wr := Lib.hid (A_w3.out.below L_wr.out)
  have B_wr := Lib.hid (B_w3.out.trans (L_wr.out.mono B_w3.out.size))
  by_cases hlt : y ≤ 3
  · have HYY : Hid (0 ≤ y ∧ y ≤ 99) := Lib.hid (by omega)
    have hwy : IntKind.i64.wrap (y + 1) = y + 1 := IntWalk.i64_in _ (by omega)
    have hwz : IntKind.i64.wrap (y - 1) = y - 1 := IntWalk.i64_in _ (by omega)
    have hx := XH_wr.out
    have zXH0 := obj_cell hx 0
    have zXH1 := obj_cell hx 1
    have zXH2 := obj_cell hx 2
    clear hx
    simp at zXH0 zXH1 zXH2
    go_wp2_with fail
    clear zXH0 zXH1 zXH2
    refine (HEX.out y _ HYY.out A_wr.out).mono ?_
    rintro e wa ⟨rfl, hbn⟩
    have XH_wa := Lib.hid (obj_below XH_wr.out hbn)
    have A_wa := Lib.hid (A_wr.out.below hbn)
    have B_wa := Lib.hid (B_wr.out.trans (hbn.mono B_wr.out.size))
    have L_wa := Lib.hid (L_wr.out.trans (hbn.mono L_wr.out.size))
    clear XH_wr A_wr B_wr L_wr
    clear hbn
    by_cases hyz : y = 0
    · subst hyz
      go_wp2
      go_roundw
      case rel => exact ⟨1, by first | rfl | go_num, by omega, by omega, L_wa⟩
      case measure => simp [RowKit.intOf]
    · have HYM : Hid (0 ≤ y - 1 ∧ y - 1 ≤ 99) := Lib.hid (by omega)
      have hyb : (y == 0) = false := by rw [beq_eq_false_iff_ne]; exact hyz
      have hww := HWO.out y
      have hx := XH_wa.out
      have zXH0 := obj_cell hx 0
      have zXH1 := obj_cell hx 1
      have zXH2 := obj_cell hx 2
      clear hx
      simp at zXH0 zXH1 zXH2
      go_wp2_with fail
      clear zXH0 zXH1 zXH2
      refine (HRH.out (y - 1) _ HYM.out A_wa.out).mono ?_
      rintro e wb ⟨rfl, hbn⟩
      have XH_wb := Lib.hid (obj_below XH_wa.out hbn)
      have A_wb := Lib.hid (A_wa.out.below hbn)
      have B_wb := Lib.hid (B_wa.out.trans (hbn.mono B_wa.out.size))
      have L_wb := Lib.hid (L_wa.out.trans (hbn.mono L_wa.out.size))
      clear XH_wa A_wa B_wa L_wa
      clear hbn
      obtain ⟨wd, hwn⟩ : ∃ W, W = wb.alloc (.cells #[.int .i64 (RM (y - 1)).ast, .int .i64 (RM (y - 1)).lia, .int .i64 (RM (y - 1)).wor, .int .i64 (RM (y - 1)).rev, .int .i64 (RM (y - 1)).exp] 38) := ⟨_, rfl⟩
      obtain ⟨bA, hbb⟩ : ∃ b, b = wb.heap.size := ⟨_, rfl⟩
      have hbn : Below wb.heap.size wb wd := by rw [hwn]; exact below_alloc _ _
      have XA_wd : Hid (wd.heap[bA]? = some (.cells #[.int .i64 (RM (y - 1)).ast, .int .i64 (RM (y - 1)).lia, .int .i64 (RM (y - 1)).wor, .int .i64 (RM (y - 1)).rev, .int .i64 (RM (y - 1)).exp] 38 (0, 0))) := Lib.hid (by rw [hwn, hbb]; exact heap_alloc_new _ _)
      have XH_wd := Lib.hid (obj_below XH_wb.out hbn)
      have A_wd := Lib.hid (A_wb.out.below hbn)
      have B_wd := Lib.hid (B_wb.out.trans (hbn.mono B_wb.out.size))
      have L_wd := Lib.hid (L_wb.out.trans (hbn.mono L_wb.out.size))
      clear XH_wb A_wb B_wb L_wb
      have HW_wd := Lib.hid hwn
      have HP_bA := Lib.hid hbb
      clear hwn hbb hbn
      have hx := XH_wd.out
      have zXH0 := obj_cell hx 0
      have zXH1 := obj_cell hx 1
      have zXH2 := obj_cell hx 2
      clear hx
      simp at zXH0 zXH1 zXH2
      go_upto_region 10 with fail
      rw [← HW_wd.out, ← HP_bA.out]
      go_wp2_with fail
      clear zXH0 zXH1 zXH2
      refine (HRH.out y _ HYY.out A_wd.out).mono ?_
      rintro e we ⟨rfl, hbn⟩
      have XH_we := Lib.hid (obj_below XH_wd.out hbn)
      have A_we := Lib.hid (A_wd.out.below hbn)
      have B_we := Lib.hid (B_wd.out.trans (hbn.mono B_wd.out.size))
      have L_we := Lib.hid (L_wd.out.trans (hbn.mono L_wd.out.size))
      have XA_we := Lib.hid (obj_below XA_wd.out hbn)
      clear XH_wd A_wd B_wd L_wd XA_wd
      clear hbn
      obtain ⟨wf, hwn⟩ : ∃ W, W = we.alloc (.cells #[.int .i64 (RM y).ast, .int .i64 (RM y).lia, .int .i64 (RM y).wor, .int .i64 (RM y).rev, .int .i64 (RM y).exp] 38) := ⟨_, rfl⟩
      obtain ⟨bB, hbb⟩ : ∃ b, b = we.heap.size := ⟨_, rfl⟩
      have hbn : Below we.heap.size we wf := by rw [hwn]; exact below_alloc _ _
      have XB_wf : Hid (wf.heap[bB]? = some (.cells #[.int .i64 (RM y).ast, .int .i64 (RM y).lia, .int .i64 (RM y).wor, .int .i64 (RM y).rev, .int .i64 (RM y).exp] 38 (0, 0))) := Lib.hid (by rw [hwn, hbb]; exact heap_alloc_new _ _)
      have XH_wf := Lib.hid (obj_below XH_we.out hbn)
      have A_wf := Lib.hid (A_we.out.below hbn)
      have B_wf := Lib.hid (B_we.out.trans (hbn.mono B_we.out.size))
      have L_wf := Lib.hid (L_we.out.trans (hbn.mono L_we.out.size))
      have XA_wf := Lib.hid (obj_below XA_we.out hbn)
      clear XH_we A_we B_we L_we XA_we
      have HW_wf := Lib.hid hwn
      have HP_bB := Lib.hid hbb
      clear hwn hbb hbn
      have hx := XA_wf.out
      have zXA0 := obj_cell hx 0
      have zXA1 := obj_cell hx 1
      have zXA2 := obj_cell hx 2
      have zXA3 := obj_cell hx 3
      have zXA4 := obj_cell hx 4
      clear hx
      have hx := XB_wf.out
      have zXB0 := obj_cell hx 0
      have zXB1 := obj_cell hx 1
      have zXB2 := obj_cell hx 2
      have zXB3 := obj_cell hx 3
      have zXB4 := obj_cell hx 4
      clear hx
      simp at zXA0 zXA1 zXA2 zXA3 zXA4 zXB0 zXB1 zXB2 zXB3 zXB4
      go_upto_region 11 with fail
      rw [← HW_wf.out, ← HP_bB.out]
      go_wp2
      go_roundw
      case rel => exact ⟨y + 1, by first | rfl | go_num, by omega, by omega, L_wf⟩
      case measure => simp [RowKit.intOf]; omega
  · go_wp2_with fail
    refine (sane44_true _).mono ?_
    rintro e wf ⟨rfl, hbf⟩
    have HBF := Lib.hid (B_wr.out.trans (hbf.mono B_wr.out.size))
    clear hbf
    go_wp2
    go_ret
    exact ⟨rfl, HBF.out⟩

end Go.Proofs.Ytoccnindkimjdaa
