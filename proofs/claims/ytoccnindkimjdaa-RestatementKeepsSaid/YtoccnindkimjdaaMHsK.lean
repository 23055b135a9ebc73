/- RestatementKeeps: whatever is corrected and presented later, what was presented once is shown as it was. -/
import Derived.Test.YtoccnindkimjdaaMHsF
set_option linter.unusedSimpArgs false
set_option linter.unusedVariables false
set_option linter.unusedSimpArgs false
set_option linter.unusedVariables false
namespace Go.Proofs.Ytoccnindkimjdaa
open Go.RowKit Go.Lib Go.Proofs

set_option maxRecDepth 100000 in
set_option maxHeartbeats 16000000 in
theorem lawKeeps44_any (v : Value) (n : Nat) (w : World) (hi : IntsAt w v n w.heap.size) (hn : n ≤ 9223372036854775807) :
    Calls Try.prog 3 #[v] w fun e w' => e = .returned (.bool true) ∧ Below w.heap.size w w' := by
  have HNEW := Lib.hid (sNew_any v n w hi hn)
  clear hi hn
  go_enter Try.func3, Try.ntmps3
  go_wp2_with fail
  refine (HNEW.out).mono ?_
  rintro e w1 ⟨rfl, t1, b1⟩
  obtain ⟨tb, htb⟩ : ∃ tb, tb = w.heap.size := ⟨_, rfl⟩
  rw [← htb] at t1 ⊢
  have HMD := Lib.hid (made44_any tb (most := 3) (by omega) w1 t1)
  have HTB := Lib.hid htb
  have HFIN : Hid (∀ W, SI w1 tb W → Below w.heap.size w W) := Lib.hid fun W hW => b1.grown hW.old b1.size (fun q e => by injection e with e; omega)
  clear t1 b1 HNEW htb
  go_wp2_with fail
  refine (HMD.out).mono ?_
  rintro e w2 ⟨h, ul, up, uc, rfl, hm, hat, hsi⟩
  obtain ⟨al, ap, ac, cl, cp, cc, rfl, rfl, rfl⟩ := hat.parts
  obtain ⟨nl, hnl⟩ : ∃ q, q = h.led.length := ⟨_, rfl⟩
  obtain ⟨np, hnp⟩ : ∃ q, q = h.pres.length := ⟨_, rfl⟩
  obtain ⟨nc, hnc⟩ : ∃ q, q = h.cors.length := ⟨_, rfl⟩
  rw [← hnl, ← hnp, ← hnc] at hat ⊢
  have HM := Lib.hid hm
  have HOK := Lib.hid hm.ok
  have HNL := Lib.hid hnl
  have HNP := Lib.hid hnp
  have HNC := Lib.hid hnc
  obtain ⟨w3, hw3⟩ : ∃ W, W = w2.alloc (.cells #[.slice al nl cl, .slice ap np cp, .slice ac nc cc] 31) := ⟨_, rfl⟩
  obtain ⟨bH, hbH⟩ : ∃ b, b = w2.heap.size := ⟨_, rfl⟩
  have XH_w3 : Hid (w3.heap[bH]? = some (.cells #[.slice al nl cl, .slice ap np cp, .slice ac nc cc] 31 (0, 0))) := Lib.hid (by rw [hw3, hbH]; exact heap_alloc_new _ _)
  have S_w3 : Hid (SI w1 tb w3) := Lib.hid (by rw [hw3]; exact hsi.alloc _)
  have A_w3 : Hid (HstAt w3 (.slice al nl cl) (.slice ap np cp) (.slice ac nc cc) h) := Lib.hid (by rw [hw3]; exact hat.below (below_alloc _ _))
  have HNT : Hid (bH ≠ tb) := Lib.hid (by have := hsi.src.lt; omega)
  have HW3 := Lib.hid hw3
  have HBH := Lib.hid hbH
  have HLB : Hid (w1.heap.size ≤ bH) := Lib.hid (by rw [hbH]; exact hsi.old.size)
  clear hw3 hbH hm hat hsi hnl hnp hnc HMD
  go_upto_region 3 with fail
  rw [← HW3.out, ← HBH.out]
  have HM0 : Hid (MadeH h 3 2000) := Lib.hid ⟨HM.out.ok, HM.out.cnt, by have := HM.out.last; omega⟩
  clear HM HOK HNL HNP HNC
  go_wp2
  go_loopw [5, 6] (fun fv kv wr => ∃ (h : Hst) (fn kk : Int) (al ap ac : Option Addr) (nl cl np cp nc cc : Nat), fv = .int .i64 fn ∧ kv = .int .i64 kk ∧ 0 ≤ kk ∧ kk ≤ 6 ∧ 2000 ≤ fn ∧ fn ≤ 2000 + 29 * kk ∧ Hid (MadeH h (3 + kk) fn) ∧ Hid (HstAt wr (.slice al nl cl) (.slice ap np cp) (.slice ac nc cc) h) ∧ Hid (wr.heap[bH]? = some (.cells #[.slice al nl cl, .slice ap np cp, .slice ac nc cc] 31 (0, 0))) ∧ Hid (SI w1 tb wr)) (fun _ kv _ => (6 - RowKit.intOf kv).toNat)
  case atStart => exact ⟨h, 2000, 0, al, ap, ac, nl, cl, np, cp, nc, cc, rfl, rfl, by omega, by omega, by omega, by omega, HM0, A_w3, XH_w3, S_w3⟩
  case round =>
  clear HM0 A_w3 XH_w3 S_w3
  obtain ⟨h, fn, kk, al, ap, ac, nl, cl, np, cp, nc, cc, rfl, rfl, hk0, hk1, hf0, hf1, HM, A_wr, XH_wr, S_wr⟩ := hrel
  by_cases hlt : kk < 6
  · have hwk : IntKind.i64.wrap (kk + 1) = kk + 1 := IntWalk.i64_in _ (by omega)
    have hcnt := HM.out.cnt
    have HP20 := Lib.hid HM.out.ok.np
    have HSE := Lib.hid (step44_any tb HM.out.ok (by omega) (by omega) (fnd := fn) (by omega) HM.out.last (.slice al nl cl) (.slice ap np cp) (.slice ac nc cc) wr A_wr.out S_wr.out.src)
    clear hcnt
    have hx := XH_wr.out
    have zXH0 := obj_cell hx 0
    have zXH1 := obj_cell hx 1
    have zXH2 := obj_cell hx 2
    clear hx
    simp at zXH0 zXH1 zXH2
    go_wp2_with fail
    clear zXH0 zXH1 zXH2
    refine (HSE.out).mono ?_
    rintro e w4 ⟨h', f', ul, up, uc, rfl, hst, hat, hsi⟩
    obtain ⟨xal, xap, xac, xcl, xcp, xcc, rfl, rfl, rfl⟩ := hat.parts
    obtain ⟨xnl, hxnl⟩ : ∃ q, q = h'.led.length := ⟨_, rfl⟩
    obtain ⟨xnp, hxnp⟩ : ∃ q, q = h'.pres.length := ⟨_, rfl⟩
    obtain ⟨xnc, hxnc⟩ : ∃ q, q = h'.cors.length := ⟨_, rfl⟩
    rw [← hxnl, ← hxnp, ← hxnc] at hat ⊢
    have XH_w4 := Lib.hid (obj_turn XH_wr.out hsi.old HNT.out)
    have A_w4 := Lib.hid (A_wr.out.turn S_wr.out.src hsi.old)
    have S_w4 := Lib.hid (S_wr.out.turn hsi.src hsi.old)
    have AX_w4 := Lib.hid hat
    have HM' := Lib.hid (HM.out.step hst)
    have hfd := hst.fnd
    have HSH : Hid (∀ (i : Nat) (hi : i < h.pres.length) (W : World), HstAt W (.slice xal xnl xcl) (.slice xap xnp xcp) (.slice xac xnc xcc) h' → Calls Try.prog 12 #[.agg #[.slice xal xnl xcl, .slice xap xnp xcp, .slice xac xnc xcc], .int .i64 (h.pres[i]).yr, .int .i64 (h.pres[i]).ver] W fun e w' => e = .returned (.tuple #[.agg (stmA (h.pres[i]).st), .bool true]) ∧ Below W.heap.size W w') := Lib.hid fun i hi W q => by
      have h1 := rsShown_ok hst.ok (h.pres[i]).yr (h.pres[i]).ver _ _ _ W q
      obtain ⟨m, hm⟩ := hst.pre
      have hi2 : i < h'.pres.length := by rw [hm, List.length_append]; omega
      have h2 := shown_at hst.ok.vers i hi2
      have h3 : h'.pres[i]'hi2 = h.pres[i] := by
        simp only [hm]
        rw [List.getElem_append_left hi]
      rw [h3] at h2
      rw [h2] at h1
      exact h1
    clear hxnl hxnp hxnc hat hsi hst HSE XH_wr A_wr S_wr HM
    obtain ⟨w5, hwn⟩ : ∃ W, W = w4.alloc (.cells #[.slice xal xnl xcl, .slice xap xnp xcp, .slice xac xnc xcc] 31) := ⟨_, rfl⟩
    obtain ⟨bX, hbb⟩ : ∃ b, b = w4.heap.size := ⟨_, rfl⟩
    have hbn : Below w4.heap.size w4 w5 := by rw [hwn]; exact below_alloc _ _
    have XX_w5 : Hid (w5.heap[bX]? = some (.cells #[.slice xal xnl xcl, .slice xap xnp xcp, .slice xac xnc xcc] 31 (0, 0))) := Lib.hid (by rw [hwn, hbb]; exact heap_alloc_new _ _)
    have XH_w5 := Lib.hid (obj_below XH_w4.out hbn)
    have A_w5 := Lib.hid (A_w4.out.below hbn)
    have S_w5 := Lib.hid (S_w4.out.below hbn)
    have AX_w5 := Lib.hid (AX_w4.out.below hbn)
    clear XH_w4 A_w4 S_w4 AX_w4
    have HW_w5 := Lib.hid hwn
    have HP_bX := Lib.hid hbb
    clear hwn hbb hbn
    have hx := XX_w5.out
    have zXX0 := obj_cell hx 0
    have zXX1 := obj_cell hx 1
    have zXX2 := obj_cell hx 2
    clear hx
    simp at zXX0 zXX1 zXX2
    go_upto_region 8 with fail
    rw [← HW_w5.out, ← HP_bX.out]
    go_wp2_with fail
    clear zXX0 zXX1 zXX2
    refine (rsCheck_right HM'.out.ok _ _ _ _ AX_w5.out).mono ?_
    rintro e w6 ⟨rfl, hbn⟩
    have XH_w6 := Lib.hid (obj_below XH_w5.out hbn)
    have A_w6 := Lib.hid (A_w5.out.below hbn)
    have S_w6 := Lib.hid (S_w5.out.below hbn)
    have AX_w6 := Lib.hid (AX_w5.out.below hbn)
    have XX_w6 := Lib.hid (obj_below XX_w5.out hbn)
    clear XH_w5 A_w5 S_w5 AX_w5 XX_w5
    clear hbn
    obtain ⟨ap', cp', e1, hcp, hcs⟩ := A_w6.out.pres.shape prsF
    injection e1 with ea e2 ec
    have HNP := Lib.hid e2
    subst ea
    subst ec
    clear hcp e2
    have HCS := Lib.hid hcs
    clear hcs
    have hx := XH_w6.out
    have zXH0 := obj_cell hx 0
    have zXH1 := obj_cell hx 1
    have zXH2 := obj_cell hx 2
    clear hx
    simp at zXH0 zXH1 zXH2
    go_wp2
    go_loopw [34] (fun iv wr => ∃ i : Nat, iv = .int .i64 i ∧ i ≤ np ∧ Hid (Below w6.heap.size w6 wr)) (fun iv _ => np - (RowKit.intOf iv).toNat)
    case atStart => exact ⟨0, rfl, by omega, Lib.hid (Below.refl _ _)⟩
    case round =>
    clear zXH0 zXH1 zXH2
    obtain ⟨i, rfl, hin, L_wr⟩ := hrel
    have XH_wr := Lib.hid (obj_below XH_w6.out L_wr.out)
    have S_wr := Lib.hid (S_w6.out.below L_wr.out)
    have AX_wr := Lib.hid (AX_w6.out.below L_wr.out)
    have XX_wr := Lib.hid (obj_below XX_w6.out L_wr.out)
    by_cases hli : i < np
    · have hip : i < h.pres.length := by rw [← HNP.out]; exact hli
      obtain ⟨b, o, rfl, hb, hcc⟩ := HCS.out (by omega)
      have hcell := fun j (hj : j < 7) => (L_wr.out.cell (p := ⟨b, o + i * 7 + j, none⟩) hb).trans (hcc i hip j hj)
      have hsh := HSH.out i hip
      generalize h.pres[i] = x at *
      obtain ⟨x0, x1, x2, x3, x4, x5, x6⟩ := x
      simp only [stmA] at hsh
      have HSX := Lib.hid hsh
      have c0 := hcell 0 (by omega)
      have c1 := hcell 1 (by omega)
      have c2 := hcell 2 (by omega)
      have c3 := hcell 3 (by omega)
      have c4 := hcell 4 (by omega)
      have c5 := hcell 5 (by omega)
      have c6 := hcell 6 (by omega)
      simp [prsC] at c0 c1 c2 c3 c4 c5 c6
      have hwi : IntKind.i64.wrap ((i : Int) + 1) = (i : Int) + 1 := IntWalk.i64_in _ (by have := HP20.out; have := HNP.out; omega)
      have hi0 : (0 : Int) ≤ (i : Int) := by omega
      have hi1 : (i : Int) < (np : Int) := by omega
      clear hcell hcc hsh
      obtain ⟨w8, hwn⟩ : ∃ W, W = wr.alloc (.cells #[.int .i64 x0, .int .i64 x1, .int .i64 x2, .int .i64 x3, .int .i64 x4, .int .i64 x5, .int .i64 x6] 40) := ⟨_, rfl⟩
      obtain ⟨bP, hbb⟩ : ∃ b, b = wr.heap.size := ⟨_, rfl⟩
      have hbn : Below wr.heap.size wr w8 := by rw [hwn]; exact below_alloc _ _
      have XP_w8 : Hid (w8.heap[bP]? = some (.cells #[.int .i64 x0, .int .i64 x1, .int .i64 x2, .int .i64 x3, .int .i64 x4, .int .i64 x5, .int .i64 x6] 40 (0, 0))) := Lib.hid (by rw [hwn, hbb]; exact heap_alloc_new _ _)
      have XH_w8 := Lib.hid (obj_below XH_wr.out hbn)
      have S_w8 := Lib.hid (S_wr.out.below hbn)
      have AX_w8 := Lib.hid (AX_wr.out.below hbn)
      have XX_w8 := Lib.hid (obj_below XX_wr.out hbn)
      have L_w8 := Lib.hid (L_wr.out.trans (hbn.mono L_wr.out.size))
      clear XH_wr S_wr AX_wr XX_wr L_wr
      have HW_w8 := Lib.hid hwn
      have HP_bP := Lib.hid hbb
      clear hwn hbb hbn
      have hx := XX_w8.out
      have zXX0 := obj_cell hx 0
      have zXX1 := obj_cell hx 1
      have zXX2 := obj_cell hx 2
      clear hx
      have hx := XP_w8.out
      have zXP0 := obj_cell hx 0
      have zXP1 := obj_cell hx 1
      have zXP2 := obj_cell hx 2
      have zXP3 := obj_cell hx 3
      have zXP4 := obj_cell hx 4
      have zXP5 := obj_cell hx 5
      have zXP6 := obj_cell hx 6
      clear hx
      simp at zXX0 zXX1 zXX2 zXP0 zXP1 zXP2 zXP3 zXP4 zXP5 zXP6
      go_upto_region 13 with fail
      rw [← HW_w8.out, ← HP_bP.out]
      clear c0 c1 c2 c3 c4 c5 c6
      go_wp2_with fail
      clear zXX0 zXX1 zXX2 zXP0 zXP1 zXP2 zXP3 zXP4 zXP5 zXP6
      refine (HSX.out _ AX_w8.out).mono ?_
      rintro e w9 ⟨rfl, hbn⟩
      have XH_w9 := Lib.hid (obj_below XH_w8.out hbn)
      have S_w9 := Lib.hid (S_w8.out.below hbn)
      have AX_w9 := Lib.hid (AX_w8.out.below hbn)
      have XX_w9 := Lib.hid (obj_below XX_w8.out hbn)
      have L_w9 := Lib.hid (L_w8.out.trans (hbn.mono L_w8.out.size))
      have XP_w9 := Lib.hid (obj_below XP_w8.out hbn)
      clear XH_w8 S_w8 AX_w8 XX_w8 L_w8 XP_w8
      clear hbn
      obtain ⟨w10, hwn⟩ : ∃ W, W = w9.alloc (.cells #[.int .i64 x2, .int .i64 x3, .int .i64 x4, .int .i64 x5, .int .i64 x6] 38) := ⟨_, rfl⟩
      obtain ⟨bY, hbb⟩ : ∃ b, b = w9.heap.size := ⟨_, rfl⟩
      have hbn : Below w9.heap.size w9 w10 := by rw [hwn]; exact below_alloc _ _
      have XY_w10 : Hid (w10.heap[bY]? = some (.cells #[.int .i64 x2, .int .i64 x3, .int .i64 x4, .int .i64 x5, .int .i64 x6] 38 (0, 0))) := Lib.hid (by rw [hwn, hbb]; exact heap_alloc_new _ _)
      have XH_w10 := Lib.hid (obj_below XH_w9.out hbn)
      have S_w10 := Lib.hid (S_w9.out.below hbn)
      have AX_w10 := Lib.hid (AX_w9.out.below hbn)
      have XX_w10 := Lib.hid (obj_below XX_w9.out hbn)
      have L_w10 := Lib.hid (L_w9.out.trans (hbn.mono L_w9.out.size))
      have XP_w10 := Lib.hid (obj_below XP_w9.out hbn)
      clear XH_w9 S_w9 AX_w9 XX_w9 L_w9 XP_w9
      have HW_w10 := Lib.hid hwn
      have HP_bY := Lib.hid hbb
      clear hwn hbb hbn
      have hx := XP_w10.out
      have zXP0 := obj_cell hx 0
      have zXP1 := obj_cell hx 1
      have zXP2 := obj_cell hx 2
      have zXP3 := obj_cell hx 3
      have zXP4 := obj_cell hx 4
      have zXP5 := obj_cell hx 5
      have zXP6 := obj_cell hx 6
      clear hx
      have hx := XY_w10.out
      have zXY0 := obj_cell hx 0
      have zXY1 := obj_cell hx 1
      have zXY2 := obj_cell hx 2
      have zXY3 := obj_cell hx 3
      have zXY4 := obj_cell hx 4
      clear hx
      simp at zXP0 zXP1 zXP2 zXP3 zXP4 zXP5 zXP6 zXY0 zXY1 zXY2 zXY3 zXY4
      go_upto_region 14 with fail
      rw [← HW_w10.out, ← HP_bY.out]
      go_wp2
      go_roundw
      case rel => exact ⟨i + 1, by first | rfl | go_num, by omega, L_w10⟩
      case measure => simp [RowKit.intOf]; omega
    · have hg7 : wr.grownBy (put3 wr bH (.slice xal xnl xcl) (.slice xap xnp xcp) (.slice xac xnc xcc)) (some bH) := put3_grown2 _ _ _ _ _
      have XH9 : Hid ((put3 wr bH (.slice xal xnl xcl) (.slice xap xnp xcp) (.slice xac xnc xcc)).heap[bH]? = some (.cells #[.slice xal xnl xcl, .slice xap xnp xcp, .slice xac xnc xcc] 31 (0, 0))) := Lib.hid (put3_at XH_wr.out rfl _ _ _)
      have A9 := Lib.hid (AX_wr.out.keep (lone_hst XH_wr.out) hg7)
      have S9 : Hid (SI w1 tb (put3 wr bH (.slice xal xnl xcl) (.slice xap xnp xcp) (.slice xac xnc xcc))) := Lib.hid (S_wr.out.grown hg7 fun r e => by injection e with e; have := HLB.out; omega)
      have HM9 : Hid (MadeH h' (3 + (kk + 1)) f') := Lib.hid ⟨HM'.out.ok, by have := HM'.out.cnt; omega, HM'.out.last⟩
      clear hg7
      have hx := XH_wr.out
      have zXH0 := obj_cell hx 0
      have zXH1 := obj_cell hx 1
      have zXH2 := obj_cell hx 2
      clear hx
      have hx := XX_wr.out
      have zXX0 := obj_cell hx 0
      have zXX1 := obj_cell hx 1
      have zXX2 := obj_cell hx 2
      clear hx
      simp at zXH0 zXH1 zXH2 zXX0 zXX1 zXX2
      have uf0 := obj_free XH_wr.out 0
      have uf1 := obj_free XH_wr.out 1
      have uf2 := obj_free XH_wr.out 2
      go_wp2
      go_roundw
      case rel => exact ⟨h', f', kk + 1, xal, xap, xac, xnl, xcl, xnp, xcp, xnc, xcc, rfl, rfl, by omega, by omega, by omega, by omega, HM9, A9, XH9, S9⟩
      case measure => simp [RowKit.intOf]; omega
  · have HBZ := Lib.hid (HFIN.out _ S_wr.out)
    go_wp2_with fail
    refine (sane44_true _).mono ?_
    rintro e wf ⟨rfl, hbf⟩
    have HBF := Lib.hid (HBZ.out.trans (hbf.mono HBZ.out.size))
    clear hbf
    go_wp2
    go_ret
    exact ⟨rfl, HBF.out⟩

end Go.Proofs.Ytoccnindkimjdaa
