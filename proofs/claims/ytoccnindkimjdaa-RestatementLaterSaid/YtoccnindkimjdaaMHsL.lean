/- RestatementLater: corrections of a later year change nothing in an earlier one; without corrections the ledger's own statement stands. -/
import Derived.Test.YtoccnindkimjdaaMHsF
set_option linter.unusedSimpArgs false
set_option linter.unusedVariables false
set_option linter.unusedSimpArgs false
set_option linter.unusedVariables false
namespace Go.Proofs.Ytoccnindkimjdaa
open Go.RowKit Go.Lib Go.Proofs

set_option maxRecDepth 100000 in
set_option maxHeartbeats 16000000 in
theorem lawLater44_any (v : Value) (n : Nat) (w : World) (hi : IntsAt w v n w.heap.size) (hn : n ≤ 9223372036854775807) :
    Calls Try.prog 5 #[v] w fun e w' => e = .returned (.bool true) ∧ Below w.heap.size w w' := by
  have HNEW := Lib.hid (sNew_any v n w hi hn)
  clear hi hn
  go_enter Try.func5, Try.ntmps5
  go_wp2_with fail
  refine (HNEW.out).mono ?_
  rintro e w1 ⟨rfl, t1, b1⟩
  obtain ⟨tb, htb⟩ : ∃ tb, tb = w.heap.size := ⟨_, rfl⟩
  rw [← htb] at t1 ⊢
  have HMD := Lib.hid (made44_any tb (most := 5) (by omega) w1 t1)
  have HTB := Lib.hid htb
  have HFIN : Hid (∀ W, SI w1 tb W → Below w.heap.size w W) := Lib.hid fun W hW => b1.grown hW.old b1.size (fun q e => by injection e with e; omega)
  clear t1 b1 HNEW htb
  go_wp2_with fail
  refine (HMD.out).mono ?_
  rintro e w2 ⟨h, ul, up, uc, rfl, hm, hat, hsi⟩
  obtain ⟨al, ap, ac, cl, cp, cc, rfl, rfl, rfl⟩ := hat.parts
  obtain ⟨nl, hnl⟩ : ∃ q, q = h.led.length := ⟨_, rfl⟩
  obtain ⟨np, hnp⟩ : ∃ q, q = h.pres.length := ⟨_, rfl⟩
  obtain ⟨nc, hnc⟩ : ∃ q, q = h.cors.length := ⟨_, rfl⟩
  rw [← hnl, ← hnp, ← hnc] at hat ⊢
  have HM := Lib.hid hm
  have HOK := Lib.hid hm.ok
  have HNL := Lib.hid hnl
  have HNP := Lib.hid hnp
  have HNC := Lib.hid hnc
  obtain ⟨w3, hw3⟩ : ∃ W, W = w2.alloc (.cells #[.slice al nl cl, .slice ap np cp, .slice ac nc cc] 31) := ⟨_, rfl⟩
  obtain ⟨bH, hbH⟩ : ∃ b, b = w2.heap.size := ⟨_, rfl⟩
  have XH_w3 : Hid (w3.heap[bH]? = some (.cells #[.slice al nl cl, .slice ap np cp, .slice ac nc cc] 31 (0, 0))) := Lib.hid (by rw [hw3, hbH]; exact heap_alloc_new _ _)
  have S_w3 : Hid (SI w1 tb w3) := Lib.hid (by rw [hw3]; exact hsi.alloc _)
  have A_w3 : Hid (HstAt w3 (.slice al nl cl) (.slice ap np cp) (.slice ac nc cc) h) := Lib.hid (by rw [hw3]; exact hat.below (below_alloc _ _))
  have HNT : Hid (bH ≠ tb) := Lib.hid (by have := hsi.src.lt; omega)
  have HW3 := Lib.hid hw3
  have HBH := Lib.hid hbH
  clear hw3 hbH hm hat hsi hnl hnp hnc HMD
  go_upto_region 3 with fail
  rw [← HW3.out, ← HBH.out]
  go_wp2_with fail
  refine (correction44_any tb (fnd := 3000) (by omega) w3 S_w3.out.src).mono ?_
  rintro e w4 ⟨c, sx, rfl, hc, hc2, hp, hsi⟩
  have XH_w4 := Lib.hid (obj_turn XH_w3.out hsi.old HNT.out)
  have A_w4 := Lib.hid (A_w3.out.turn S_w3.out.src hsi.old)
  have B_w4 := Lib.hid (HFIN.out _ (S_w3.out.turn hsi.src hsi.old))
  obtain ⟨cy, cf, ps⟩ := c
  obtain ⟨sa, sn, sc⟩ := sx
  obtain ⟨sa', sc', e1, -, -⟩ := hp.shape pstF
  simp only [Sli.v] at e1 hp hc2 ⊢
  injection e1 with ea e2 ec
  subst e2
  clear ea ec
  have hlc : lastF h.cors ≤ cf := by have h1 := HM.out.last; have h2 := hc2.2; omega
  have hcy := hc.yr
  simp only at hcy
  obtain ⟨pn, hpn⟩ : ∃ q, q = ps.length := ⟨_, rfl⟩
  rw [← hpn] at hp ⊢
  have HPN := Lib.hid hpn
  have PS_w4 := Lib.hid hp
  have HC := Lib.hid hc
  have HLC := Lib.hid hlc
  have hcf : cf = 3000 := hc2.2
  have HCF := Lib.hid hcf
  have hcy2 : cy ≤ 2 := hc2.1
  clear hsi hp hc hlc hc2 hpn hcf XH_w3 A_w3 S_w3 HFIN
  obtain ⟨w5, hwn⟩ : ∃ W, W = w4.alloc (.cells #[.int .i64 cy, .int .i64 cf, .slice sa pn sc] 49) := ⟨_, rfl⟩
  obtain ⟨bC, hbb⟩ : ∃ b, b = w4.heap.size := ⟨_, rfl⟩
  have hbn : Below w4.heap.size w4 w5 := by rw [hwn]; exact below_alloc _ _
  have XC_w5 : Hid (w5.heap[bC]? = some (.cells #[.int .i64 cy, .int .i64 cf, .slice sa pn sc] 49 (0, 0))) := Lib.hid (by rw [hwn, hbb]; exact heap_alloc_new _ _)
  have XH_w5 := Lib.hid (obj_below XH_w4.out hbn)
  have A_w5 := Lib.hid (A_w4.out.below hbn)
  have B_w5 := Lib.hid (B_w4.out.trans (hbn.mono B_w4.out.size))
  have PS_w5 := Lib.hid (ListAt.below PS_w4.out hbn)
  clear XH_w4 A_w4 B_w4 PS_w4
  have HW_w5 := Lib.hid hwn
  have HP_bC := Lib.hid hbb
  clear hwn hbb hbn
  go_upto_region 4 with fail
  rw [← HW_w5.out, ← HP_bC.out]
  have HCO := Lib.hid (fun (W : World) (q : HstAt W (.slice al nl cl) (.slice ap np cp) (.slice ac nc cc) h) (hs : PstsAt W (Sli.v ⟨sa, pn, sc⟩) ps) => rsCorrect_ok HOK.out HC.out HLC.out (by have := HM.out.cnt; omega) (.slice al nl cl) (.slice ap np cp) (.slice ac nc cc) ⟨sa, pn, sc⟩ W q hs)
  have HXO := Lib.hid (HOK.out.addC HC.out HLC.out (by have := HM.out.cnt; omega))
  obtain ⟨RM, hRM⟩ : ∃ R : Int → Stm, R = fun y => restM y h := ⟨_, rfl⟩
  have HRH : Hid (∀ (y : Int) (W : World), (0 ≤ y ∧ y ≤ 99) → HstAt W (.slice al nl cl) (.slice ap np cp) (.slice ac nc cc) h → Calls Try.prog 15 #[.agg #[.slice al nl cl, .slice ap np cp, .slice ac nc cc], .int .i64 y] W fun e w' => e = .returned (.tuple #[.agg #[.int .i64 (RM y).ast, .int .i64 (RM y).lia, .int .i64 (RM y).wor, .int .i64 (RM y).rev, .int .i64 (RM y).exp], .int .i64 0]) ∧ Below W.heap.size W w') := Lib.hid fun y W hy q => by
    rw [hRM]
    exact rsRestated_ok HOK.out hy _ _ _ W q
  have HRX : Hid (∀ (ul up uc : Value) (y : Int) (W : World), (0 ≤ y ∧ y ≤ 99) → y < cy → HstAt W ul up uc ⟨h.led, h.pres, h.cors ++ [⟨cy, cf, ps⟩]⟩ → Calls Try.prog 15 #[.agg #[ul, up, uc], .int .i64 y] W fun e w' => e = .returned (.tuple #[.agg #[.int .i64 (RM y).ast, .int .i64 (RM y).lia, .int .i64 (RM y).wor, .int .i64 (RM y).rev, .int .i64 (RM y).exp], .int .i64 0]) ∧ Below W.heap.size W w') := Lib.hid fun ul up uc y W hy hl q => by
    have h1 := rsRestated_ok HXO.out hy ul up uc W q
    rw [hRM]
    have h2 : restM y ⟨h.led, h.pres, h.cors ++ [⟨cy, cf, ps⟩]⟩ = restM y h := by
      show stM y (h.led ++ corPs y (h.cors ++ [⟨cy, cf, ps⟩])) = stM y (h.led ++ corPs y h.cors)
      rw [corPs_later hl]
    rw [h2] at h1
    exact h1
  have HPO : Hid (HstOk ⟨h.led, [], []⟩) := Lib.hid (hstOk_new HOK.out.led HOK.out.ln HOK.out.sm)
  obtain ⟨SM, hSM⟩ : ∃ R : Int → Stm, R = fun y => stM y h.led := ⟨_, rfl⟩
  have HRP : Hid (∀ (y : Int) (W : World), (0 ≤ y ∧ y ≤ 99) → PstsAt W (.slice al nl cl) h.led → Calls Try.prog 15 #[.agg #[.slice al nl cl, .slice none 0 0, .slice none 0 0], .int .i64 y] W fun e w' => e = .returned (.tuple #[.agg #[.int .i64 (SM y).ast, .int .i64 (SM y).lia, .int .i64 (SM y).wor, .int .i64 (SM y).rev, .int .i64 (SM y).exp], .int .i64 0]) ∧ Below W.heap.size W w') := Lib.hid fun y W hy q => by
    have h1 := rsRestated_ok HPO.out hy _ _ _ W (hst_new q)
    have h2 : restM y ⟨h.led, [], []⟩ = stM y h.led := by
      show stM y (h.led ++ []) = _
      rw [List.append_nil]
    rw [h2] at h1
    rw [hSM]
    exact h1
  have HST : Hid (∀ (y : Int) (W : World), (0 ≤ y ∧ y ≤ 99) → PstsAt W (.slice al nl cl) h.led → Calls Try.prog 18 #[.agg #[.slice al nl cl], .int .i64 0, .int .i64 (360 * y), .int .i64 (360 * y + 359)] W fun e w' => e = .returned (.tuple #[.agg #[.int .i64 (SM y).ast, .int .i64 (SM y).lia, .int .i64 (SM y).wor, .int .i64 (SM y).rev, .int .i64 (SM y).exp], .int .i64 0]) ∧ Below W.heap.size W w') := Lib.hid fun y W hy q => by
    have h1 := rgStatement_ok HOK.out.led HOK.out.sm (by have := HOK.out.ln; omega) hy _ W q
    rw [hSM]
    exact h1
  clear hRM hSM
  have hx := XH_w5.out
  have zXH0 := obj_cell hx 0
  have zXH1 := obj_cell hx 1
  have zXH2 := obj_cell hx 2
  clear hx
  have hx := XC_w5.out
  have zXC0 := obj_cell hx 0
  have zXC1 := obj_cell hx 1
  have zXC2 := obj_cell hx 2
  clear hx
  simp at zXH0 zXH1 zXH2 zXC0 zXC1 zXC2
  go_wp2_with fail
  clear zXH0 zXH1 zXH2 zXC0 zXC1 zXC2
  refine (HCO.out _ A_w5.out PS_w5.out).mono ?_
  rintro e w6 ⟨ul, up, uc, rfl, hxa, hbn⟩
  have XH_w6 := Lib.hid (obj_below XH_w5.out hbn)
  have A_w6 := Lib.hid (A_w5.out.below hbn)
  have B_w6 := Lib.hid (B_w5.out.trans (hbn.mono B_w5.out.size))
  have PS_w6 := Lib.hid (ListAt.below PS_w5.out hbn)
  have XC_w6 := Lib.hid (obj_below XC_w5.out hbn)
  clear XH_w5 A_w5 B_w5 PS_w5 XC_w5
  clear hbn
  obtain ⟨xal, xap, xac, xcl, xcp, xcc, rfl, rfl, rfl⟩ := hxa.parts
  have AX_w6 := Lib.hid hxa
  obtain ⟨xnl, hxnl⟩ : ∃ q, q = h.led.length := ⟨_, rfl⟩
  obtain ⟨xnp, hxnp⟩ : ∃ q, q = h.pres.length := ⟨_, rfl⟩
  obtain ⟨xnc, hxnc⟩ : ∃ q, q = (h.cors ++ [(⟨cy, cf, ps⟩ : Cor)]).length := ⟨_, rfl⟩
  simp only at AX_w6 ⊢
  rw [← hxnl, ← hxnp, ← hxnc] at AX_w6 ⊢
  clear hxnl hxnp hxnc hxa HCO HXO HPO
  obtain ⟨w7, hwn⟩ : ∃ W, W = w6.alloc (.cells #[.slice xal xnl xcl, .slice xap xnp xcp, .slice xac xnc xcc] 31) := ⟨_, rfl⟩
  obtain ⟨bX, hbb⟩ : ∃ b, b = w6.heap.size := ⟨_, rfl⟩
  have hbn : Below w6.heap.size w6 w7 := by rw [hwn]; exact below_alloc _ _
  have XX_w7 : Hid (w7.heap[bX]? = some (.cells #[.slice xal xnl xcl, .slice xap xnp xcp, .slice xac xnc xcc] 31 (0, 0))) := Lib.hid (by rw [hwn, hbb]; exact heap_alloc_new _ _)
  have XH_w7 := Lib.hid (obj_below XH_w6.out hbn)
  have A_w7 := Lib.hid (A_w6.out.below hbn)
  have B_w7 := Lib.hid (B_w6.out.trans (hbn.mono B_w6.out.size))
  have PS_w7 := Lib.hid (ListAt.below PS_w6.out hbn)
  have XC_w7 := Lib.hid (obj_below XC_w6.out hbn)
  have AX_w7 := Lib.hid (AX_w6.out.below hbn)
  clear XH_w6 A_w6 B_w6 PS_w6 XC_w6 AX_w6
  have HW_w7 := Lib.hid hwn
  have HP_bX := Lib.hid hbb
  clear hwn hbb hbn
  have hx := XC_w7.out
  have zXC0 := obj_cell hx 0
  have zXC1 := obj_cell hx 1
  have zXC2 := obj_cell hx 2
  clear hx
  simp at zXC0 zXC1 zXC2
  go_upto_region 5 with fail
  rw [← HW_w7.out, ← HP_bX.out]
  go_wp2
  go_loopw [8] (fun yv wr => ∃ y : Int, yv = .int .i64 y ∧ 0 ≤ y ∧ y ≤ cy ∧ Hid (Below w7.heap.size w7 wr)) (fun yv _ => (cy - RowKit.intOf yv).toNat)
  case atStart => exact ⟨0, rfl, by omega, by omega, Lib.hid (Below.refl _ _)⟩
  case round =>
  clear zXC0 zXC1 zXC2
  obtain ⟨y, rfl, hy0, hy1, L_wr⟩ := hrel
  have XH_wr := Lib.hid (obj_below XH_w7.out L_wr.out)
  have A_wr := Lib.hid (A_w7.out.below L_wr.out)
  have B_wr := Lib.hid (B_w7.out.trans (L_wr.out.mono B_w7.out.size))
  have PS_wr := Lib.hid (ListAt.below PS_w7.out L_wr.out)
  have XC_wr := Lib.hid (obj_below XC_w7.out L_wr.out)
  have AX_wr := Lib.hid (AX_w7.out.below L_wr.out)
  have XX_wr := Lib.hid (obj_below XX_w7.out L_wr.out)
  have HYY : Hid (0 ≤ y ∧ y ≤ 99) := Lib.hid (by omega)
  by_cases hlt : y < cy
  · have HLT := Lib.hid hlt
    have hwy : IntKind.i64.wrap (y + 1) = y + 1 := IntWalk.i64_in _ (by omega)
    have hx := XH_wr.out
    have zXH0 := obj_cell hx 0
    have zXH1 := obj_cell hx 1
    have zXH2 := obj_cell hx 2
    clear hx
    have hx := XC_wr.out
    have zXC0 := obj_cell hx 0
    have zXC1 := obj_cell hx 1
    have zXC2 := obj_cell hx 2
    clear hx
    simp at zXH0 zXH1 zXH2 zXC0 zXC1 zXC2
    go_wp2_with fail
    clear zXH0 zXH1 zXH2 zXC0 zXC1 zXC2
    refine (HRH.out y _ HYY.out A_wr.out).mono ?_
    rintro e wa ⟨rfl, hbn⟩
    have XH_wa := Lib.hid (obj_below XH_wr.out hbn)
    have A_wa := Lib.hid (A_wr.out.below hbn)
    have B_wa := Lib.hid (B_wr.out.trans (hbn.mono B_wr.out.size))
    have PS_wa := Lib.hid (ListAt.below PS_wr.out hbn)
    have XC_wa := Lib.hid (obj_below XC_wr.out hbn)
    have AX_wa := Lib.hid (AX_wr.out.below hbn)
    have XX_wa := Lib.hid (obj_below XX_wr.out hbn)
    have L_wa := Lib.hid (L_wr.out.trans (hbn.mono L_wr.out.size))
    clear XH_wr A_wr B_wr PS_wr XC_wr AX_wr XX_wr L_wr
    clear hbn
    obtain ⟨wb, hwn⟩ : ∃ W, W = wa.alloc (.cells #[.int .i64 (RM y).ast, .int .i64 (RM y).lia, .int .i64 (RM y).wor, .int .i64 (RM y).rev, .int .i64 (RM y).exp] 38) := ⟨_, rfl⟩
    obtain ⟨bA, hbb⟩ : ∃ b, b = wa.heap.size := ⟨_, rfl⟩
    have hbn : Below wa.heap.size wa wb := by rw [hwn]; exact below_alloc _ _
    have XA_wb : Hid (wb.heap[bA]? = some (.cells #[.int .i64 (RM y).ast, .int .i64 (RM y).lia, .int .i64 (RM y).wor, .int .i64 (RM y).rev, .int .i64 (RM y).exp] 38 (0, 0))) := Lib.hid (by rw [hwn, hbb]; exact heap_alloc_new _ _)
    have XH_wb := Lib.hid (obj_below XH_wa.out hbn)
    have A_wb := Lib.hid (A_wa.out.below hbn)
    have B_wb := Lib.hid (B_wa.out.trans (hbn.mono B_wa.out.size))
    have PS_wb := Lib.hid (ListAt.below PS_wa.out hbn)
    have XC_wb := Lib.hid (obj_below XC_wa.out hbn)
    have AX_wb := Lib.hid (AX_wa.out.below hbn)
    have XX_wb := Lib.hid (obj_below XX_wa.out hbn)
    have L_wb := Lib.hid (L_wa.out.trans (hbn.mono L_wa.out.size))
    clear XH_wa A_wa B_wa PS_wa XC_wa AX_wa XX_wa L_wa
    have HW_wb := Lib.hid hwn
    have HP_bA := Lib.hid hbb
    clear hwn hbb hbn
    have hx := XX_wb.out
    have zXX0 := obj_cell hx 0
    have zXX1 := obj_cell hx 1
    have zXX2 := obj_cell hx 2
    clear hx
    simp at zXX0 zXX1 zXX2
    go_upto_region 11 with fail
    rw [← HW_wb.out, ← HP_bA.out]
    go_wp2_with fail
    clear zXX0 zXX1 zXX2
    refine (HRX.out _ _ _ y _ HYY.out HLT.out AX_wb.out).mono ?_
    rintro e wc' ⟨rfl, hbn⟩
    have XH_wc' := Lib.hid (obj_below XH_wb.out hbn)
    have A_wc' := Lib.hid (A_wb.out.below hbn)
    have B_wc' := Lib.hid (B_wb.out.trans (hbn.mono B_wb.out.size))
    have PS_wc' := Lib.hid (ListAt.below PS_wb.out hbn)
    have XC_wc' := Lib.hid (obj_below XC_wb.out hbn)
    have AX_wc' := Lib.hid (AX_wb.out.below hbn)
    have XX_wc' := Lib.hid (obj_below XX_wb.out hbn)
    have L_wc' := Lib.hid (L_wb.out.trans (hbn.mono L_wb.out.size))
    have XA_wc' := Lib.hid (obj_below XA_wb.out hbn)
    clear XH_wb A_wb B_wb PS_wb XC_wb AX_wb XX_wb L_wb XA_wb
    clear hbn
    obtain ⟨wd, hwn⟩ : ∃ W, W = wc'.alloc (.cells #[.int .i64 (RM y).ast, .int .i64 (RM y).lia, .int .i64 (RM y).wor, .int .i64 (RM y).rev, .int .i64 (RM y).exp] 38) := ⟨_, rfl⟩
    obtain ⟨bB, hbb⟩ : ∃ b, b = wc'.heap.size := ⟨_, rfl⟩
    have hbn : Below wc'.heap.size wc' wd := by rw [hwn]; exact below_alloc _ _
    have XB_wd : Hid (wd.heap[bB]? = some (.cells #[.int .i64 (RM y).ast, .int .i64 (RM y).lia, .int .i64 (RM y).wor, .int .i64 (RM y).rev, .int .i64 (RM y).exp] 38 (0, 0))) := Lib.hid (by rw [hwn, hbb]; exact heap_alloc_new _ _)
    have XH_wd := Lib.hid (obj_below XH_wc'.out hbn)
    have A_wd := Lib.hid (A_wc'.out.below hbn)
    have B_wd := Lib.hid (B_wc'.out.trans (hbn.mono B_wc'.out.size))
    have PS_wd := Lib.hid (ListAt.below PS_wc'.out hbn)
    have XC_wd := Lib.hid (obj_below XC_wc'.out hbn)
    have AX_wd := Lib.hid (AX_wc'.out.below hbn)
    have XX_wd := Lib.hid (obj_below XX_wc'.out hbn)
    have L_wd := Lib.hid (L_wc'.out.trans (hbn.mono L_wc'.out.size))
    have XA_wd := Lib.hid (obj_below XA_wc'.out hbn)
    clear XH_wc' A_wc' B_wc' PS_wc' XC_wc' AX_wc' XX_wc' L_wc' XA_wc'
    have HW_wd := Lib.hid hwn
    have HP_bB := Lib.hid hbb
    clear hwn hbb hbn
    have hx := XA_wd.out
    have zXA0 := obj_cell hx 0
    have zXA1 := obj_cell hx 1
    have zXA2 := obj_cell hx 2
    have zXA3 := obj_cell hx 3
    have zXA4 := obj_cell hx 4
    clear hx
    have hx := XB_wd.out
    have zXB0 := obj_cell hx 0
    have zXB1 := obj_cell hx 1
    have zXB2 := obj_cell hx 2
    have zXB3 := obj_cell hx 3
    have zXB4 := obj_cell hx 4
    clear hx
    simp at zXA0 zXA1 zXA2 zXA3 zXA4 zXB0 zXB1 zXB2 zXB3 zXB4
    go_upto_region 12 with fail
    rw [← HW_wd.out, ← HP_bB.out]
    go_wp2
    go_roundw
    case rel => exact ⟨y + 1, by first | rfl | go_num, by omega, by omega, L_wd⟩
    case measure => simp [RowKit.intOf]; omega
  · have hyc : y = cy := by omega
    have hx := XH_wr.out
    have zXH0 := obj_cell hx 0
    have zXH1 := obj_cell hx 1
    have zXH2 := obj_cell hx 2
    clear hx
    have hx := XC_wr.out
    have zXC0 := obj_cell hx 0
    have zXC1 := obj_cell hx 1
    have zXC2 := obj_cell hx 2
    clear hx
    simp at zXH0 zXH1 zXH2 zXC0 zXC1 zXC2
    subst hyc
    clear HRX HRH
    have wq_ := 0
    clear wq_
    go_upto_region 14 with fail
    obtain ⟨we, hwn⟩ : ∃ W, W = wr.alloc (.cells #[.slice al nl cl, .slice none 0 0, .slice none 0 0] 31) := ⟨_, rfl⟩
    obtain ⟨bQ, hbb⟩ : ∃ b, b = wr.heap.size := ⟨_, rfl⟩
    have hbn : Below wr.heap.size wr we := by rw [hwn]; exact below_alloc _ _
    have XQ_we : Hid (we.heap[bQ]? = some (.cells #[.slice al nl cl, .slice none 0 0, .slice none 0 0] 31 (0, 0))) := Lib.hid (by rw [hwn, hbb]; exact heap_alloc_new _ _)
    have XH_we := Lib.hid (obj_below XH_wr.out hbn)
    have A_we := Lib.hid (A_wr.out.below hbn)
    have B_we := Lib.hid (B_wr.out.trans (hbn.mono B_wr.out.size))
    have PS_we := Lib.hid (ListAt.below PS_wr.out hbn)
    have XC_we := Lib.hid (obj_below XC_wr.out hbn)
    clear XH_wr A_wr B_wr PS_wr XC_wr
    have HW_we := Lib.hid hwn
    have HP_bQ := Lib.hid hbb
    clear hwn hbb hbn
    go_upto_region 15 with fail
    rw [← HW_we.out, ← HP_bQ.out]
    go_wp2
    go_loopw [14] (fun yv wr => ∃ y : Int, yv = .int .i64 y ∧ 0 ≤ y ∧ y ≤ 4 ∧ Hid (Below we.heap.size we wr)) (fun yv _ => (4 - RowKit.intOf yv).toNat)
    case atStart => exact ⟨0, rfl, by omega, by omega, Lib.hid (Below.refl _ _)⟩
    case round =>
    clear zXH0 zXH1 zXH2 zXC0 zXC1 zXC2
    obtain ⟨z, rfl, hz0, hz1, L_wr⟩ := hrel
    have XH_wr := Lib.hid (obj_below XH_we.out L_wr.out)
    have A_wr := Lib.hid (A_we.out.below L_wr.out)
    have B_wr := Lib.hid (B_we.out.trans (L_wr.out.mono B_we.out.size))
    have PS_wr := Lib.hid (ListAt.below PS_we.out L_wr.out)
    have XC_wr := Lib.hid (obj_below XC_we.out L_wr.out)
    have XQ_wr := Lib.hid (obj_below XQ_we.out L_wr.out)
    have HZZ : Hid (0 ≤ z ∧ z ≤ 99) := Lib.hid (by omega)
    by_cases hlt : z ≤ 3
    · have hwz : IntKind.i64.wrap (z + 1) = z + 1 := IntWalk.i64_in _ (by omega)
      have hw36 : IntKind.i64.wrap (360 * z) = 360 * z := IntWalk.i64_in _ (by omega)
      have hw37 : IntKind.i64.wrap (360 * z + 359) = 360 * z + 359 := IntWalk.i64_in _ (by omega)
      have hw38 : wrap64 (360 * z) = 360 * z := IntWalk.wrap64_in _ (by omega)
      have hx := XQ_wr.out
      have zXQ0 := obj_cell hx 0
      have zXQ1 := obj_cell hx 1
      have zXQ2 := obj_cell hx 2
      clear hx
      simp at zXQ0 zXQ1 zXQ2
      go_wp2_with fail
      clear zXQ0 zXQ1 zXQ2
      refine (HRP.out z _ HZZ.out A_wr.out.led).mono ?_
      rintro e wa ⟨rfl, hbn⟩
      have XH_wa := Lib.hid (obj_below XH_wr.out hbn)
      have A_wa := Lib.hid (A_wr.out.below hbn)
      have B_wa := Lib.hid (B_wr.out.trans (hbn.mono B_wr.out.size))
      have PS_wa := Lib.hid (ListAt.below PS_wr.out hbn)
      have XC_wa := Lib.hid (obj_below XC_wr.out hbn)
      have XQ_wa := Lib.hid (obj_below XQ_wr.out hbn)
      have L_wa := Lib.hid (L_wr.out.trans (hbn.mono L_wr.out.size))
      clear XH_wr A_wr B_wr PS_wr XC_wr XQ_wr L_wr
      clear hbn
      obtain ⟨wb, hwn⟩ : ∃ W, W = wa.alloc (.cells #[.int .i64 (SM z).ast, .int .i64 (SM z).lia, .int .i64 (SM z).wor, .int .i64 (SM z).rev, .int .i64 (SM z).exp] 38) := ⟨_, rfl⟩
      obtain ⟨bA, hbb⟩ : ∃ b, b = wa.heap.size := ⟨_, rfl⟩
      have hbn : Below wa.heap.size wa wb := by rw [hwn]; exact below_alloc _ _
      have XA_wb : Hid (wb.heap[bA]? = some (.cells #[.int .i64 (SM z).ast, .int .i64 (SM z).lia, .int .i64 (SM z).wor, .int .i64 (SM z).rev, .int .i64 (SM z).exp] 38 (0, 0))) := Lib.hid (by rw [hwn, hbb]; exact heap_alloc_new _ _)
      have XH_wb := Lib.hid (obj_below XH_wa.out hbn)
      have A_wb := Lib.hid (A_wa.out.below hbn)
      have B_wb := Lib.hid (B_wa.out.trans (hbn.mono B_wa.out.size))
      have PS_wb := Lib.hid (ListAt.below PS_wa.out hbn)
      have XC_wb := Lib.hid (obj_below XC_wa.out hbn)
      have XQ_wb := Lib.hid (obj_below XQ_wa.out hbn)
      have L_wb := Lib.hid (L_wa.out.trans (hbn.mono L_wa.out.size))
      clear XH_wa A_wa B_wa PS_wa XC_wa XQ_wa L_wa
      have HW_wb := Lib.hid hwn
      have HP_bA := Lib.hid hbb
      clear hwn hbb hbn
      have hx := XH_wb.out
      have zXH0 := obj_cell hx 0
      have zXH1 := obj_cell hx 1
      have zXH2 := obj_cell hx 2
      clear hx
      simp at zXH0 zXH1 zXH2
      go_upto_region 19 with fail
      rw [← HW_wb.out, ← HP_bA.out]
      go_wp2_with fail
      clear zXH0 zXH1 zXH2
      refine (HST.out z _ HZZ.out A_wb.out.led).mono ?_
      rintro e wc' ⟨rfl, hbn⟩
      have XH_wc' := Lib.hid (obj_below XH_wb.out hbn)
      have A_wc' := Lib.hid (A_wb.out.below hbn)
      have B_wc' := Lib.hid (B_wb.out.trans (hbn.mono B_wb.out.size))
      have PS_wc' := Lib.hid (ListAt.below PS_wb.out hbn)
      have XC_wc' := Lib.hid (obj_below XC_wb.out hbn)
      have XQ_wc' := Lib.hid (obj_below XQ_wb.out hbn)
      have L_wc' := Lib.hid (L_wb.out.trans (hbn.mono L_wb.out.size))
      have XA_wc' := Lib.hid (obj_below XA_wb.out hbn)
      clear XH_wb A_wb B_wb PS_wb XC_wb XQ_wb L_wb XA_wb
      clear hbn
      obtain ⟨wd, hwn⟩ : ∃ W, W = wc'.alloc (.cells #[.int .i64 (SM z).ast, .int .i64 (SM z).lia, .int .i64 (SM z).wor, .int .i64 (SM z).rev, .int .i64 (SM z).exp] 38) := ⟨_, rfl⟩
      obtain ⟨bB, hbb⟩ : ∃ b, b = wc'.heap.size := ⟨_, rfl⟩
      have hbn : Below wc'.heap.size wc' wd := by rw [hwn]; exact below_alloc _ _
      have XB_wd : Hid (wd.heap[bB]? = some (.cells #[.int .i64 (SM z).ast, .int .i64 (SM z).lia, .int .i64 (SM z).wor, .int .i64 (SM z).rev, .int .i64 (SM z).exp] 38 (0, 0))) := Lib.hid (by rw [hwn, hbb]; exact heap_alloc_new _ _)
      have XH_wd := Lib.hid (obj_below XH_wc'.out hbn)
      have A_wd := Lib.hid (A_wc'.out.below hbn)
      have B_wd := Lib.hid (B_wc'.out.trans (hbn.mono B_wc'.out.size))
      have PS_wd := Lib.hid (ListAt.below PS_wc'.out hbn)
      have XC_wd := Lib.hid (obj_below XC_wc'.out hbn)
      have XQ_wd := Lib.hid (obj_below XQ_wc'.out hbn)
      have L_wd := Lib.hid (L_wc'.out.trans (hbn.mono L_wc'.out.size))
      have XA_wd := Lib.hid (obj_below XA_wc'.out hbn)
      clear XH_wc' A_wc' B_wc' PS_wc' XC_wc' XQ_wc' L_wc' XA_wc'
      have HW_wd := Lib.hid hwn
      have HP_bB := Lib.hid hbb
      clear hwn hbb hbn
      have hx := XA_wd.out
      have zXA0 := obj_cell hx 0
      have zXA1 := obj_cell hx 1
      have zXA2 := obj_cell hx 2
      have zXA3 := obj_cell hx 3
      have zXA4 := obj_cell hx 4
      clear hx
      have hx := XB_wd.out
      have zXB0 := obj_cell hx 0
      have zXB1 := obj_cell hx 1
      have zXB2 := obj_cell hx 2
      have zXB3 := obj_cell hx 3
      have zXB4 := obj_cell hx 4
      clear hx
      simp at zXA0 zXA1 zXA2 zXA3 zXA4 zXB0 zXB1 zXB2 zXB3 zXB4
      go_upto_region 20 with fail
      rw [← HW_wd.out, ← HP_bB.out]
      go_wp2
      go_roundw
      case rel => exact ⟨z + 1, by first | rfl | go_num, by omega, by omega, L_wd⟩
      case measure => simp [RowKit.intOf]; omega
    · go_wp2_with fail
      refine (sane44_true _).mono ?_
      rintro e wf ⟨rfl, hbf⟩
      have HBF := Lib.hid (B_wr.out.trans (hbf.mono B_wr.out.size))
      clear hbf
      go_wp2
      go_ret
      exact ⟨rfl, HBF.out⟩

end Go.Proofs.Ytoccnindkimjdaa
