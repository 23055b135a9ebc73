/- The package's copyOf: a history in memory of the call's own. -/
import Derived.Test.YtoccnindkimjdaaMG4
set_option linter.unusedSimpArgs false
set_option linter.unusedVariables false
set_option linter.unusedSimpArgs false
set_option linter.unusedVariables false
namespace Go.Proofs.Ytoccnindkimjdaa
open Go.RowKit Go.Lib Go.Proofs

set_option maxRecDepth 100000 in
set_option maxHeartbeats 16000000 in
theorem rscopyOf_ok {h : Hst} (hh : HstOk h) (vl vp vc : Value) (w : World) (ha : HstAt w vl vp vc h) :
    Calls Try.prog 38 #[.agg #[vl, vp, vc]] w fun e w' => ∃ xl yl xp yp au cu rs, e = .returned (.agg #[.slice xl h.led.length yl, .slice xp h.pres.length yp, .slice au h.cors.length cu]) ∧ CpK w (.slice xl h.led.length yl) (.slice xp h.pres.length yp) h.led h.pres rs h.cors w' ∧ w'.ownsRow w.heap.size 49 3 (.slice au h.cors.length cu) h.cors.length (cellsL crrC rs) := by
  obtain ⟨i0, hi0, hz0, hz1, hz2⟩ := info_parts Try.infoRsCor
  have HCL0 := Lib.hid (fun W (hW : Below w.heap.size w W) => clonePst_any pstC pstF h.led vl W (ListAt.below ha.led hW) (by have := hh.ln; omega))
  have HCP0 := Lib.hid (fun W (hW : Below w.heap.size w W) => clonePrs_any prsC prsF h.pres vp W (ha.pres.below hW) (by have := hh.np; omega))
  have hnc := hh.nc
  have HPL := Lib.hid (fun c (hc : c ∈ h.cors) => (hh.cor c hc).len)
  obtain ⟨rs0, hac, hcr⟩ := ha.cors
  obtain ⟨al, ap, -, cl, cp, -, rfl, rfl, -⟩ := ha.parts
  obtain ⟨ac, cc, rfl, hcc', hcs⟩ := hac.shape crrF
  have hrl := hcr.len
  have HCS := Lib.hid hcs
  have HCR := Lib.hid (fun W (hW : Below w.heap.size w W) => hcr.imp fun v l (q : PstsAt w v l) => (ListAt.below q hW : PstsAt W v l))
  rw [hrl] at hcc' ⊢
  obtain ⟨L, PS, C⟩ := h
  simp only at HCL0 HCP0 hnc HPL HCR hrl hcc' ⊢
  obtain ⟨nl, hnl⟩ : ∃ q, q = L.length := ⟨_, rfl⟩
  obtain ⟨np, hnp⟩ : ∃ q, q = PS.length := ⟨_, rfl⟩
  have HNL := Lib.hid hnl
  have HNP := Lib.hid hnp
  obtain ⟨LC, hLC⟩ : ∃ q, q = cellsL pstC L := ⟨_, rfl⟩
  obtain ⟨PC, hPC⟩ : ∃ q, q = cellsL prsC PS := ⟨_, rfl⟩
  have HLC := Lib.hid hLC
  have HPC := Lib.hid hPC
  rw [← hnl, ← hLC] at HCL0
  rw [← hnp, ← hPC] at HCP0
  rw [← hnl, ← hnp]
  have HRL := Lib.hid hrl
  obtain ⟨n, hn⟩ : ∃ n, n = C.length := ⟨_, rfl⟩
  have HN := Lib.hid hn
  rw [← hn] at hcc' hnc ⊢
  clear hn hrl hcs hac hcr hnl hnp hLC hPC ha hh
  obtain ⟨w0, hw0⟩ : ∃ w1, w1 = (w.alloc (.cells #[.slice al nl cl, .slice ap np cp, .slice ac n cc] 31)).alloc (.cells #[.slice none 0 0, .slice none 0 0, .slice none 0 0] 31) := ⟨_, rfl⟩
  obtain ⟨bH, hbH⟩ : ∃ b, b = w.heap.size := ⟨_, rfl⟩
  obtain ⟨bR, hbR⟩ : ∃ b, b = w.heap.size + 1 := ⟨_, rfl⟩
  have HH0 : Hid (w0.heap[bH]? = some (.cells #[.slice al nl cl, .slice ap np cp, .slice ac n cc] 31 (0, 0))) := Lib.hid (by rw [hw0, hbH]; exact alloc1_at w _ _)
  have HR0 : Hid (w0.heap[bR]? = some (.cells #[.slice none 0 0, .slice none 0 0, .slice none 0 0] 31 (0, 0))) := Lib.hid (by rw [hw0, hbR]; exact alloc2_at w _ _)
  have HB0 : Hid (Below w.heap.size w w0) := Lib.hid (by rw [hw0]; exact below2 w _ _)
  have HLR : Hid (w.heap.size ≤ bR ∧ bR < w0.heap.size) := Lib.hid ⟨by omega, obj_lt HR0.out⟩
  have HW0 := Lib.hid hw0
  have HBH := Lib.hid hbH
  have HBR := Lib.hid hbR
  obtain ⟨J, hJ⟩ : ∃ J, J = fun W : World => Below w0.heap.size w0 W := ⟨_, rfl⟩
  have HJO : Hid (∀ W, J W → Below w0.heap.size w0 W) := Lib.hid fun W hW => by rw [hJ] at hW; exact hW
  have HJI : Hid (∀ W, Below w0.heap.size w0 W → J W) := Lib.hid fun W hW => by rw [hJ]; exact hW
  have HJD : Hid (∀ W, J W → J W.drew) := Lib.hid fun W hW => HJI.out _ ((HJO.out W hW).drew)
  have HJA : Hid (∀ W o, J W → J (W.alloc o)) := Lib.hid fun W o hW => HJI.out _ ((HJO.out W hW).alloc (HJO.out W hW).size o)
  have HJ0 : Hid (J w0) := Lib.hid (HJI.out _ (Below.refl _ _))
  have HMH : Hid (∀ W, J W → ∀ j, W.cell? ⟨bH, j, none⟩ = #[.slice al nl cl, .slice ap np cp, .slice ac n cc][j]?) := Lib.hid fun W hW j => obj_cell (obj_below HH0.out (HJO.out W hW)) j
  have HCL : Hid (∀ W, J W → Calls Try.prog 57 #[.slice al nl cl] W fun e w' => ∃ xl yl, e = .returned (.slice xl nl yl) ∧ w'.ownsRow w0.heap.size 55 8 (.slice xl nl yl) nl LC ∧ J w' ∧ Below W.heap.size W w') := Lib.hid fun W hW => (HCL0.out W (HB0.out.trans ((HJO.out W hW).mono HB0.out.size))).mono fun e w' ⟨u, h1, h2, h3⟩ => by
    obtain ⟨xl, yl, rfl, -, -⟩ := owns_gen h2
    exact ⟨xl, yl, h1, ownsRow_mono h2 (HJO.out W hW).size, HJI.out _ ((HJO.out W hW).trans (h3.mono (HJO.out W hW).size)), h3⟩
  have HCP : Hid (∀ W, J W → Calls Try.prog 62 #[.slice ap np cp] W fun e w' => ∃ xp yp, e = .returned (.slice xp np yp) ∧ w'.ownsRow w0.heap.size 40 7 (.slice xp np yp) np PC ∧ J w' ∧ Below W.heap.size W w') := Lib.hid fun W hW => (HCP0.out W (HB0.out.trans ((HJO.out W hW).mono HB0.out.size))).mono fun e w' ⟨u, h1, h2, h3⟩ => by
    obtain ⟨xp, yp, rfl, -, -⟩ := owns_gen h2
    exact ⟨xp, yp, h1, ownsRow_mono h2 (HJO.out W hW).size, HJI.out _ ((HJO.out W hW).trans (h3.mono (HJO.out W hW).size)), h3⟩
  obtain ⟨KK, hKK⟩ : ∃ K, K = fun (ul up : Value) (W : World) => CpK w0 ul up L PS [] [] W := ⟨_, rfl⟩
  have HKK : Hid (∀ bN ul up W, Below w0.heap.size w0 W → w0.heap.size ≤ bN → W.heap[bN]? = some (.cells #[.slice none 0 0, .slice none 0 0, .slice none 0 0] 31 (0, 0)) → W.ownsRow w0.heap.size 55 8 ul nl LC → W.ownsRow w0.heap.size 40 7 up np PC → KK ul up (put3 W bN ul up (.slice none 0 0)) ∧ (put3 W bN ul up (.slice none 0 0)).heap[bN]? = some (.cells #[ul, up, .slice none 0 0] 31 (0, 0))) := Lib.hid fun bN ul up W h1 h2 h3 h4 h5 => by
    rw [hKK]
    rw [HNL.out, HLC.out] at h4
    rw [HNP.out, HPC.out] at h5
    exact cp_first h1 h2 h3 h4 h5
  have HKO : Hid (∀ ul up W, KK ul up W → CpK w0 ul up L PS [] [] W) := Lib.hid fun ul up W h => by rw [hKK] at h; exact h
  have egL := enters_of Try.func57 (by kernel_rfl) rfl
  have egP := enters_of Try.func62 (by kernel_rfl) rfl
  clear hw0 hbH hbR hJ hKK HCL0 HCP0
  go_enter Try.func38, Try.ntmps38
  go_upto_region 1 with fail
  rw [← HW0.out, ← HBR.out, ← HBH.out]
  obtain ⟨P, hP⟩ : ∃ P : Nat → Value → World → Prop, P = fun j v W => match j with | 0 => (v = .pointer (some ⟨bH, 0, none⟩)) | 1 => (v = .pointer (some ⟨bH, 0, none⟩)) | 2 => (v = .slice al nl cl) | 3 => (∃ xl yl, v = .slice xl nl yl ∧ W.ownsRow w0.heap.size 55 8 (.slice xl nl yl) nl LC) | 4 => (∃ xl yl, v = .agg #[.slice xl nl yl] ∧ W.ownsRow w0.heap.size 55 8 (.slice xl nl yl) nl LC) | 5 => (v = .pointer (some ⟨bH, 1, none⟩)) | 6 => (v = .slice ap np cp) | 7 => (∃ xp yp, v = .slice xp np yp ∧ W.ownsRow w0.heap.size 40 7 (.slice xp np yp) np PC) | 8 => (∃ xl yl xp yp, v = .agg #[.slice xl nl yl, .slice xp np yp, .slice none 0 0] ∧ W.ownsRow w0.heap.size 55 8 (.slice xl nl yl) nl LC ∧ W.ownsRow w0.heap.size 40 7 (.slice xp np yp) np PC) | 9 => (∃ bN, v = .pointer (some ⟨bN, 0, none⟩) ∧ (w0.heap.size ≤ bN ∧ W.heap[bN]? = some (.cells #[.slice none 0 0, .slice none 0 0, .slice none 0 0] 31 (0, 0)))) | _ => True := ⟨_, rfl⟩
  have HPI0 : Hid (∀ v W, P 0 v W ↔ (v = .pointer (some ⟨bH, 0, none⟩))) := Lib.hid fun v W => by rw [hP] <;> exact Iff.rfl
  have HPI1 : Hid (∀ v W, P 1 v W ↔ (v = .pointer (some ⟨bH, 0, none⟩))) := Lib.hid fun v W => by rw [hP] <;> exact Iff.rfl
  have HPI2 : Hid (∀ v W, P 2 v W ↔ (v = .slice al nl cl)) := Lib.hid fun v W => by rw [hP] <;> exact Iff.rfl
  have HPI3 : Hid (∀ v W, P 3 v W ↔ (∃ xl yl, v = .slice xl nl yl ∧ W.ownsRow w0.heap.size 55 8 (.slice xl nl yl) nl LC)) := Lib.hid fun v W => by rw [hP] <;> exact Iff.rfl
  have HPI4 : Hid (∀ v W, P 4 v W ↔ (∃ xl yl, v = .agg #[.slice xl nl yl] ∧ W.ownsRow w0.heap.size 55 8 (.slice xl nl yl) nl LC)) := Lib.hid fun v W => by rw [hP] <;> exact Iff.rfl
  have HPI5 : Hid (∀ v W, P 5 v W ↔ (v = .pointer (some ⟨bH, 1, none⟩))) := Lib.hid fun v W => by rw [hP] <;> exact Iff.rfl
  have HPI6 : Hid (∀ v W, P 6 v W ↔ (v = .slice ap np cp)) := Lib.hid fun v W => by rw [hP] <;> exact Iff.rfl
  have HPI7 : Hid (∀ v W, P 7 v W ↔ (∃ xp yp, v = .slice xp np yp ∧ W.ownsRow w0.heap.size 40 7 (.slice xp np yp) np PC)) := Lib.hid fun v W => by rw [hP] <;> exact Iff.rfl
  have HPI8 : Hid (∀ v W, P 8 v W ↔ (∃ xl yl xp yp, v = .agg #[.slice xl nl yl, .slice xp np yp, .slice none 0 0] ∧ W.ownsRow w0.heap.size 55 8 (.slice xl nl yl) nl LC ∧ W.ownsRow w0.heap.size 40 7 (.slice xp np yp) np PC)) := Lib.hid fun v W => by rw [hP] <;> exact Iff.rfl
  have HPI9 : Hid (∀ v W, P 9 v W ↔ (∃ bN, v = .pointer (some ⟨bN, 0, none⟩) ∧ (w0.heap.size ≤ bN ∧ W.heap[bN]? = some (.cells #[.slice none 0 0, .slice none 0 0, .slice none 0 0] 31 (0, 0))))) := Lib.hid fun v W => by rw [hP] <;> exact Iff.rfl
  have HKP : Hid (∀ (j : Nat) v W W', Below W.heap.size W W' → P j v W → P j v W') := Lib.hid (by
    rw [hP]
    intro j v W W' hb h
    match j, h with
    | 0, h => exact h
    | 1, h => exact h
    | 2, h => exact h
    | 3, ⟨xl, yl, e, s0⟩ => exact ⟨xl, yl, e, ownsRow_below s0 hb⟩
    | 4, ⟨xl, yl, e, s0⟩ => exact ⟨xl, yl, e, ownsRow_below s0 hb⟩
    | 5, h => exact h
    | 6, h => exact h
    | 7, ⟨xp, yp, e, s0⟩ => exact ⟨xp, yp, e, ownsRow_below s0 hb⟩
    | 8, ⟨xl, yl, xp, yp, e, s0, s1⟩ => exact ⟨xl, yl, xp, yp, e, ownsRow_below s0 hb, ownsRow_below s1 hb⟩
    | 9, ⟨bN, e, s0⟩ => exact ⟨bN, e, ⟨s0.1, obj_below s0.2 hb⟩⟩
    | j + 10, _ => trivial)
  clear hP
  go_cut [3] (fun pv wx => ∃ bN xl yl xp yp, pv = .pointer (some ⟨bN, 0, none⟩) ∧ w0.heap.size ≤ bN ∧ Hid (KK (.slice xl nl yl) (.slice xp np yp) wx) ∧ Hid (wx.heap[bN]? = some (.cells #[.slice xl nl yl, .slice xp np yp, .slice none 0 0] 31 (0, 0))))
  case first =>
    refine wp_region_last [6, 7, 8, 9, 10, 11, 12, 13, 14, 3] (slotS [6, 7, 8, 9, 10, 11, 12, 13, 14, 3]) (readsS [6, 7, 8, 9, 10, 11, 12, 13, 14, 3]) (RP [6, 7, 8, 9, 10, 11, 12, 13, 14, 3] P) J (fun f W => ∃ bN xl yl xp yp, f 3 = .pointer (some ⟨bN, 0, none⟩) ∧ w0.heap.size ≤ bN ∧ KK (.slice xl nl yl) (.slice xp np yp) W ∧ W.heap[bN]? = some (.cells #[.slice xl nl yl, .slice xp np yp, .slice none 0 0] 31 (0, 0))) 10 8 rfl (by kernel_rfl) (by kernel_rfl) (by kernel_rfl) (by kernel_rfl) (HJD.out _ HJ0.out) (fun j f q v W hq h => RP.upd hq h) ?_ ?_ ?_
    case refine_1 =>
      intro iq hiq f W hIW hdep0
      have hiq' : iq < 10 := hiq
      have hdep : ∀ j, j < 10 → depB _ iq j = true → P j (f (slotS [6, 7, 8, 9, 10, 11, 12, 13, 14, 3] j)) W := hdep0
      clear hdep0
      generalize ha1 : putsL _ [6, 7, 8, 9, 10, 11, 12, 13, 14, 3] f = a1
      match iq, hiq', hdep with
      | 0, _, hdep0 =>
        have E1 : a1.tmps[1]?.getD undef = .pointer (some ⟨bH, 0, none⟩) := by rw [← ha1]; exact (putsL_out2 _ _ _ _ (by decide)).trans rfl
        exact wpOp_val rfl rfl (v := .pointer (some ⟨bH, 0, none⟩)) (w' := W) (by simp [execOp, go_sem, E1]) ⟨hIW, fun _ h => h, _, by decide, rfl, RP.set ((HPI0.out _ _).2 rfl)⟩
      | 1, _, hdep0 =>
        have hd0 := (HPI0.out _ _).1 (hdep0 0 (by decide) (by kernel_rfl))
        have E6 : a1.tmps[6]?.getD undef = .pointer (some ⟨bH, 0, none⟩) := by rw [← ha1]; exact (putsL_in2 _ _ _ _ (by decide) (show 6 < 31 from by decide)).trans hd0
        exact wpOp_val rfl rfl (v := .pointer (some ⟨bH, 0, none⟩)) (w' := W) (by simp [execOp, go_sem, E6]) ⟨hIW, fun _ h => h, _, by decide, rfl, RP.set ((HPI1.out _ _).2 rfl)⟩
      | 2, _, hdep0 =>
        have hd1 := (HPI1.out _ _).1 (hdep0 1 (by decide) (by kernel_rfl))
        have E7 : a1.tmps[7]?.getD undef = .pointer (some ⟨bH, 0, none⟩) := by rw [← ha1]; exact (putsL_in2 _ _ _ _ (by decide) (show 7 < 31 from by decide)).trans hd1
        have v0 : W.cell? ⟨bH, 0, none⟩ = some (.slice al nl cl) := by simpa using HMH.out W hIW 0
        exact wpOp_val rfl rfl (v := .slice al nl cl) (w' := W) (by simp [execOp, go_sem, E7, v0]) ⟨hIW, fun _ h => h, _, by decide, rfl, RP.set ((HPI2.out _ _).2 rfl)⟩
      | 3, _, hdep0 =>
        have hd2 := (HPI2.out _ _).1 (hdep0 2 (by decide) (by kernel_rfl))
        have E8 : a1.tmps[8]?.getD undef = .slice al nl cl := by rw [← ha1]; exact (putsL_in2 _ _ _ _ (by decide) (show 8 < 31 from by decide)).trans hd2
        refine wpOp_call rfl rfl (n := 57) (vs := #[.slice al nl cl]) (by have := egL #[.slice al nl cl] W; simp [execOp, E8, resolve, invoke, go_sem] <;> exact this) ((HCL.out W hIW).mono fun e w' hh => (by obtain ⟨xl, yl, rfl, p0, hJ', hb'⟩ := hh; exact ⟨_, rfl, (HPI3.out _ _).2 ⟨_, _, rfl, p0⟩, hJ', hb'⟩ : ∃ v, e = .returned v ∧ (P 3 v w' ∧ J w' ∧ Below W.heap.size W w'))) ?_
        rintro v w' ⟨hv, hI', hb'⟩
        exact ⟨hI', fun j h => HKP.out j _ _ _ hb' h, _, by decide, rfl, RP.set hv⟩
      | 4, _, hdep0 =>
        have hd3 := (HPI3.out _ _).1 (hdep0 3 (by decide) (by kernel_rfl))
        obtain ⟨xl, yl, q3, r3_0⟩ := hd3
        have E9 : a1.tmps[9]?.getD undef = .slice xl nl yl := by rw [← ha1]; exact (putsL_in2 _ _ _ _ (by decide) (show 9 < 31 from by decide)).trans q3
        exact wpOp_val rfl rfl (v := .agg #[.slice xl nl yl]) (w' := W) (by simp [execOp, go_sem, E9]) ⟨hIW, fun _ h => h, _, by decide, rfl, RP.set ((HPI4.out _ _).2 ⟨_, _, rfl, r3_0⟩)⟩
      | 5, _, hdep0 =>
        have E1 : a1.tmps[1]?.getD undef = .pointer (some ⟨bH, 0, none⟩) := by rw [← ha1]; exact (putsL_out2 _ _ _ _ (by decide)).trans rfl
        exact wpOp_val rfl rfl (v := .pointer (some ⟨bH, 1, none⟩)) (w' := W) (by simp [execOp, go_sem, E1]) ⟨hIW, fun _ h => h, _, by decide, rfl, RP.set ((HPI5.out _ _).2 rfl)⟩
      | 6, _, hdep0 =>
        have hd5 := (HPI5.out _ _).1 (hdep0 5 (by decide) (by kernel_rfl))
        have E11 : a1.tmps[11]?.getD undef = .pointer (some ⟨bH, 1, none⟩) := by rw [← ha1]; exact (putsL_in2 _ _ _ _ (by decide) (show 11 < 31 from by decide)).trans hd5
        have v1 : W.cell? ⟨bH, 1, none⟩ = some (.slice ap np cp) := by simpa using HMH.out W hIW 1
        exact wpOp_val rfl rfl (v := .slice ap np cp) (w' := W) (by simp [execOp, go_sem, E11, v1]) ⟨hIW, fun _ h => h, _, by decide, rfl, RP.set ((HPI6.out _ _).2 rfl)⟩
      | 7, _, hdep0 =>
        have hd6 := (HPI6.out _ _).1 (hdep0 6 (by decide) (by kernel_rfl))
        have E12 : a1.tmps[12]?.getD undef = .slice ap np cp := by rw [← ha1]; exact (putsL_in2 _ _ _ _ (by decide) (show 12 < 31 from by decide)).trans hd6
        refine wpOp_call rfl rfl (n := 62) (vs := #[.slice ap np cp]) (by have := egP #[.slice ap np cp] W; simp [execOp, E12, resolve, invoke, go_sem] <;> exact this) ((HCP.out W hIW).mono fun e w' hh => (by obtain ⟨xp, yp, rfl, p0, hJ', hb'⟩ := hh; exact ⟨_, rfl, (HPI7.out _ _).2 ⟨_, _, rfl, p0⟩, hJ', hb'⟩ : ∃ v, e = .returned v ∧ (P 7 v w' ∧ J w' ∧ Below W.heap.size W w'))) ?_
        rintro v w' ⟨hv, hI', hb'⟩
        exact ⟨hI', fun j h => HKP.out j _ _ _ hb' h, _, by decide, rfl, RP.set hv⟩
      | 8, _, hdep0 =>
        have hd4 := (HPI4.out _ _).1 (hdep0 4 (by decide) (by kernel_rfl))
        have hd7 := (HPI7.out _ _).1 (hdep0 7 (by decide) (by kernel_rfl))
        obtain ⟨xl, yl, q4, r4_0⟩ := hd4
        have E10 : a1.tmps[10]?.getD undef = .agg #[.slice xl nl yl] := by rw [← ha1]; exact (putsL_in2 _ _ _ _ (by decide) (show 10 < 31 from by decide)).trans q4
        obtain ⟨xp, yp, q7, r7_0⟩ := hd7
        have E13 : a1.tmps[13]?.getD undef = .slice xp np yp := by rw [← ha1]; exact (putsL_in2 _ _ _ _ (by decide) (show 13 < 31 from by decide)).trans q7
        exact wpOp_val rfl rfl (v := .agg #[.slice xl nl yl, .slice xp np yp, .slice none 0 0]) (w' := W) (by simp [execOp, go_sem, E10, E13]) ⟨hIW, fun _ h => h, _, by decide, rfl, RP.set ((HPI8.out _ _).2 ⟨_, _, _, _, rfl, r4_0, r7_0⟩)⟩
      | 9, _, hdep0 =>
        exact wpOp_val rfl rfl (v := .pointer (some ⟨W.heap.size, 0, none⟩)) (w' := W.alloc (.cells #[.slice none 0 0, .slice none 0 0, .slice none 0 0] 31)) (by simp [execOp, go_sem]) ⟨(HJA.out _ _ hIW), fun j h => HKP.out j _ _ _ (below_alloc _ _) h, _, by decide, rfl, RP.set ((HPI9.out _ _).2 ⟨_, rfl, (HJO.out _ hIW).size, heap_alloc_new _ _⟩)⟩
      | iq + 10, h, _ => exact absurd h (by omega)
    case refine_2 =>
      intro f W hIW hdep0
      have hdep : ∀ j, j < 10 → P j (f (slotS [6, 7, 8, 9, 10, 11, 12, 13, 14, 3] j)) W := hdep0
      clear hdep0
      generalize ha1 : putsL _ [6, 7, 8, 9, 10, 11, 12, 13, 14, 3] f = a1
      obtain ⟨bN, q9, r9_0⟩ := ((HPI9.out _ _).1 (hdep 9 (by decide)))
      have E3 : a1.tmps[3]?.getD undef = .pointer (some ⟨bN, 0, none⟩) := by rw [← ha1]; exact (putsL_in2 _ _ _ _ (by decide) (show 3 < 31 from by decide)).trans q9
      obtain ⟨xl, yl, xp, yp, q8, r8_0, r8_1⟩ := ((HPI8.out _ _).1 (hdep 8 (by decide)))
      have E14 : a1.tmps[14]?.getD undef = .agg #[.slice xl nl yl, .slice xp np yp, .slice none 0 0] := by rw [← ha1]; exact (putsL_in2 _ _ _ _ (by decide) (show 14 < 31 from by decide)).trans q8
      have p0 := obj_cell r9_0.2 0
      have p1 := obj_cell r9_0.2 1
      have p2 := obj_cell r9_0.2 2
      have f0 := obj_free r9_0.2 0
      have f1 := obj_free r9_0.2 1
      have f2 := obj_free r9_0.2 2
      simp at p0 p1 p2
      have hk := HKK.out _ _ _ _ (HJO.out W hIW) r9_0.1 r9_0.2 r8_0 r8_1
      exact wpOp_skip rfl rfl (w' := put3 W bN (.slice xl nl yl) (.slice xp np yp) (.slice none 0 0)) (by unfold put3; simp [execOp, go_sem, E3, E14, p0, p1, p2, f0, f1, f2]) ⟨rfl, bN, xl, yl, xp, yp, q9, r9_0.1, hk.1, hk.2⟩
    case refine_3 =>
      intro f W hIW
      simp only [putsL, List.foldl_cons, List.foldl_nil, Act.put, List.setIfInBounds_toArray, List.set_cons_zero, List.set_cons_succ]
      obtain ⟨bN, xl, yl, xp, yp, h3, hn, hk, hN⟩ := hIW
      go_wp2
      go_meet
      exact ⟨bN, xl, yl, xp, yp, (by first | exact h3 | rfl), hn, Lib.hid hk, Lib.hid hN⟩
  case rest =>
  obtain ⟨bN, xl, yl, xp, yp, rfl, hnN, HK1, HN1⟩ := hcut
  have hk1 := HKO.out _ _ _ HK1.out
  have HKS := Lib.hid hk1
  have hbx := obj_below HH0.out hk1.bel
  have ub0 := obj_cell hbx 0
  have ub1 := obj_cell hbx 1
  have ub2 := obj_cell hbx 2
  simp at ub0 ub1 ub2
  have HLN := Lib.hid hnN
  clear hk1 hbx HK1 HKO HKK HCL HCP HMH HJ0 HJA HJD HJI HJO hnN KK
  go_wp2
  go_loopw [18] (fun iv wr => ∃ (k : Nat) (rs : List Crr) (au : Option Addr) (cu : Nat), iv = .int .i64 k ∧ k ≤ n ∧ Hid (CpK w0 (.slice xl nl yl) (.slice xp np yp) L PS rs (C.take k) wr) ∧ Hid (wr.ownsRow w0.heap.size 49 3 (.slice au k cu) k (cellsL crrC rs)) ∧ Hid (wr.heap[bN]? = some (.cells #[.slice xl nl yl, .slice xp np yp, .slice au k cu] 31 (0, 0)))) (fun iv _ => n - (RowKit.intOf iv).toNat)
  case atStart => exact ⟨0, [], none, 0, rfl, by omega, HKS, Lib.hid (World.ownsRow_nil _ _ _ _), HN1⟩
  case round =>
    clear ub0 ub1 ub2 HKS HN1
    obtain ⟨k, rs, au, cu, rfl, hkn, HK, HO, HB⟩ := hrel
    by_cases hlt : k < n
    · have hkC : k < C.length := by rw [← HN.out]; exact hlt
      have hkR : k < rs0.length := by rw [HRL.out]; exact hkC
      obtain ⟨b, o, rfl, hb, hcc⟩ := HCS.out (by omega)
      have HWB := Lib.hid (HB0.out.trans (HK.out.bel.mono HB0.out.size))
      have hcell := fun j (hj : j < 3) => (HWB.out.cell (p := ⟨b, o + k * 3 + j, none⟩) hb).trans (hcc k hkR j hj)
      have hg := (HCR.out wr HWB.out).get k hkR hkC
      have hpl := HPL.out _ (List.getElem_mem hkC)
      have HTK := Lib.hid (List.take_succ_eq_append_getElem hkC)
      generalize rs0[k] = x at *
      generalize C[k] = cx0 at *
      obtain ⟨x0, x1, xa, xn, xc⟩ := x
      obtain ⟨cy, cf, ps⟩ := cx0
      obtain ⟨g1, g2, g3⟩ := hg
      simp only [Sli.v] at g1 g2 g3 hpl
      subst g1
      subst g2
      obtain ⟨xa', xc', e1, -, -⟩ := g3.shape pstF
      injection e1 with ea e2 ec
      subst ea
      subst ec
      subst e2
      have c0 := hcell 0 (by omega)
      have c1 := hcell 1 (by omega)
      have c2 := hcell 2 (by omega)
      simp [crrC] at c0 c1 c2
      have hwk : IntKind.i64.wrap ((k : Int) + 1) = (k : Int) + 1 := IntWalk.i64_in _ (by omega)
      have hk0 : (0 : Int) ≤ (k : Int) := by omega
      have hk1 : (k : Int) < (n : Int) := by omega
      have HCC0 := Lib.hid (fun W (hW : Below wr.heap.size wr W) => rscopyOfCorrection_ok (by omega : ps.length ≤ 1000) x0 x1 _ W (ListAt.below g3 hW))
      obtain ⟨pn, hpn⟩ : ∃ q, q = ps.length := ⟨_, rfl⟩
      obtain ⟨PSC, hPSC⟩ : ∃ q, q = cellsL pstC ps := ⟨_, rfl⟩
      obtain ⟨w8, hw8⟩ : ∃ W, W = wr.alloc (.cells #[.int .i64 x0, .int .i64 x1, .slice xa pn xc] 49) := ⟨_, rfl⟩
      obtain ⟨bX, hbX⟩ : ∃ q, q = wr.heap.size := ⟨_, rfl⟩
      have HX8 : Hid (w8.heap[bX]? = some (.cells #[.int .i64 x0, .int .i64 x1, .slice xa pn xc] 49 (0, 0))) := Lib.hid (by rw [hw8, hbX]; exact heap_alloc_new _ _)
      have hb8 : Below wr.heap.size wr w8 := by rw [hw8]; exact below_alloc _ _
      have HBR8 := Lib.hid hb8
      have HK8 := Lib.hid (HK.out.below hb8)
      have HO8 := Lib.hid (ownsRow_below HO.out hb8)
      have HN8 := Lib.hid (obj_below HB.out hb8)
      rw [← hpn] at c2 HCC0
      rw [← hPSC] at HCC0
      have HPN := Lib.hid hpn
      have HPSC := Lib.hid hPSC
      have HW8 := Lib.hid hw8
      have HBX := Lib.hid hbX
      obtain ⟨J, hJ⟩ : ∃ J, J = fun W : World => Below w8.heap.size w8 W := ⟨_, rfl⟩
      have HJO : Hid (∀ W, J W → Below w8.heap.size w8 W) := Lib.hid fun W hW => by rw [hJ] at hW; exact hW
      have HJI : Hid (∀ W, Below w8.heap.size w8 W → J W) := Lib.hid fun W hW => by rw [hJ]; exact hW
      have HJD : Hid (∀ W, J W → J W.drew) := Lib.hid fun W hW => HJI.out _ ((HJO.out W hW).drew)
      have HJA : Hid (∀ W o, J W → J (W.alloc o)) := Lib.hid fun W o hW => HJI.out _ ((HJO.out W hW).alloc (HJO.out W hW).size o)
      have HJ0 : Hid (J w8) := Lib.hid (HJI.out _ (Below.refl _ _))
      have HJW : Hid (∀ W, J W → w0.heap.size ≤ W.heap.size) := Lib.hid fun W hW => Nat.le_trans HK8.out.bel.size (HJO.out W hW).size
      have HCX : Hid (∀ W, J W → ∀ i, W.cell? ⟨bX, i, none⟩ = #[.int .i64 x0, .int .i64 x1, .slice xa pn xc][i]?) := Lib.hid fun W hW i => obj_cell (obj_below HX8.out (HJO.out W hW)) i
      have HMN : Hid (∀ W, J W → ∀ i, W.cell? ⟨bN, i, none⟩ = #[.slice xl nl yl, .slice xp np yp, .slice au k cu][i]?) := Lib.hid fun W hW i => obj_cell (obj_below HN8.out (HJO.out W hW)) i
      have HOW : Hid (∀ W, J W → W.ownsRow w0.heap.size 49 3 (.slice au k cu) k (cellsL crrC rs)) := Lib.hid fun W hW => ownsRow_below HO8.out (HJO.out W hW)
      have HCC : Hid (∀ W, J W → Calls Try.prog 39 #[.agg #[.int .i64 x0, .int .i64 x1, .slice xa pn xc]] W fun e w' => ∃ ax cx, e = .returned (.agg #[.int .i64 x0, .int .i64 x1, .slice ax pn cx]) ∧ w'.ownsRow w0.heap.size 55 8 (.slice ax pn cx) pn PSC ∧ J w' ∧ Below W.heap.size W w') := Lib.hid fun W hW => (HCC0.out W (HBR8.out.trans ((HJO.out W hW).mono HBR8.out.size))).mono fun e w' ⟨ax, cx, h1, h2, h3⟩ => ⟨ax, cx, h1, ownsRow_mono h2 (HJW.out W hW), HJI.out _ ((HJO.out W hW).trans (h3.mono (HJO.out W hW).size)), h3⟩
      have HONE : Hid (∀ (ax : Option Addr) (cx : Nat), ∀ u ∈ ([.int .i64 x0, .int .i64 x1, .slice ax pn cx] : List Value), u.oneCell' = true) := Lib.hid fun ax cx u hu => by
        simp only [List.mem_cons, List.mem_nil_iff, or_false] at hu
        rcases hu with rfl | rfl | rfl <;> rfl
      have HSN : Hid (∀ (ax : Option Addr) (cx : Nat), cellsL crrC rs ++ [.int .i64 x0, .int .i64 x1, .slice ax pn cx] = cellsL crrC (rs ++ [⟨x0, x1, ⟨ax, pn, cx⟩⟩])) := Lib.hid fun ax cx => cellsL_snoc crrC rs ⟨x0, x1, ⟨ax, pn, cx⟩⟩
      obtain ⟨KN, hKN⟩ : ∃ K, K = fun (RS : List Crr) (W : World) => CpK w0 (.slice xl nl yl) (.slice xp np yp) L PS RS (C.take (k + 1)) W := ⟨_, rfl⟩
      have HKN : Hid (∀ W w' (ax : Option Addr) (cx : Nat), J W → W.ownsRow w0.heap.size 55 8 (.slice ax pn cx) pn PSC → W.grownBy w' (Value.ownBlock (.slice au k cu)) → KN (rs ++ [⟨x0, x1, ⟨ax, pn, cx⟩⟩]) w' ∧ w'.heap[bN]? = some (.cells #[.slice xl nl yl, .slice xp np yp, .slice au k cu] 31 (0, 0))) := Lib.hid fun W w' ax cx hJW hox hg => by
        rw [hKN, HTK.out]
        rw [HPN.out, HPSC.out] at hox
        have hk := (HK8.out.below (HJO.out W hJW)).snoc (r := ⟨x0, x1, ⟨ax, pn, cx⟩⟩) (c := ⟨x0, x1, ps⟩) rfl rfl (by rw [HPN.out]; exact hox)
        exact cp_append (uq' := .slice au k cu) hk (HOW.out W hJW) (obj_below HN8.out (HJO.out W hJW)) hg
      have HKN2 : Hid (∀ RS W, KN RS W → CpK w0 (.slice xl nl yl) (.slice xp np yp) L PS RS (C.take (k + 1)) W) := Lib.hid fun RS W h => by rw [hKN] at h; exact h
      have HST : Hid (∀ RS W uq xs, KN RS W → W.ownsRow w0.heap.size 49 3 uq (k + 1) xs → W.heap[bN]? = some (.cells #[.slice xl nl yl, .slice xp np yp, .slice au k cu] 31 (0, 0)) → KN RS (W.setCell ⟨bN, 2, none⟩ uq) ∧ (W.setCell ⟨bN, 2, none⟩ uq).ownsRow w0.heap.size 49 3 uq (k + 1) xs ∧ (W.setCell ⟨bN, 2, none⟩ uq).heap[bN]? = some (.cells #[.slice xl nl yl, .slice xp np yp, uq] 31 (0, 0))) := Lib.hid fun RS W uq xs h1 h2 h3 => by
        rw [hKN] at h1 ⊢
        exact cp_store h1 h2 h3 HLN.out
      have egC := enters_of Try.func39 (by kernel_rfl) rfl
      have hk20 : k ≤ 20 := by omega
      clear hcell hcc hw8 hbX hb8 g3 hpn hpl hPSC hJ hKN HTK HCC0
      go_upto_region 5 with fail
      rw [← HW8.out, ← HBX.out]
      clear c0 c1 c2
      obtain ⟨P, hP⟩ : ∃ P : Nat → Value → World → Prop, P = fun j v W => match j with | 0 => (v = .pointer (some ⟨bN, 2, none⟩)) | 1 => (v = .slice au k cu) | 2 => (v = .agg #[.int .i64 x0, .int .i64 x1, .slice xa pn xc]) | 3 => (∃ ax cx, v = .agg #[.int .i64 x0, .int .i64 x1, .slice ax pn cx] ∧ W.ownsRow w0.heap.size 55 8 (.slice ax pn cx) pn PSC) | 4 => (∃ bq ax cx, v = .slice (some ⟨bq, 0, none⟩) 1 1 ∧ W.heap[bq]? = some (.cells #[.int .i64 x0, .int .i64 x1, .slice ax pn cx] 49 (0, 0)) ∧ W.ownsRow w0.heap.size 55 8 (.slice ax pn cx) pn PSC) | _ => True := ⟨_, rfl⟩
      have HPI0 : Hid (∀ v W, P 0 v W ↔ (v = .pointer (some ⟨bN, 2, none⟩))) := Lib.hid fun v W => by rw [hP] <;> exact Iff.rfl
      have HPI1 : Hid (∀ v W, P 1 v W ↔ (v = .slice au k cu)) := Lib.hid fun v W => by rw [hP] <;> exact Iff.rfl
      have HPI2 : Hid (∀ v W, P 2 v W ↔ (v = .agg #[.int .i64 x0, .int .i64 x1, .slice xa pn xc])) := Lib.hid fun v W => by rw [hP] <;> exact Iff.rfl
      have HPI3 : Hid (∀ v W, P 3 v W ↔ (∃ ax cx, v = .agg #[.int .i64 x0, .int .i64 x1, .slice ax pn cx] ∧ W.ownsRow w0.heap.size 55 8 (.slice ax pn cx) pn PSC)) := Lib.hid fun v W => by rw [hP] <;> exact Iff.rfl
      have HPI4 : Hid (∀ v W, P 4 v W ↔ (∃ bq ax cx, v = .slice (some ⟨bq, 0, none⟩) 1 1 ∧ W.heap[bq]? = some (.cells #[.int .i64 x0, .int .i64 x1, .slice ax pn cx] 49 (0, 0)) ∧ W.ownsRow w0.heap.size 55 8 (.slice ax pn cx) pn PSC)) := Lib.hid fun v W => by rw [hP] <;> exact Iff.rfl
      have HKP : Hid (∀ (j : Nat) v W W', Below W.heap.size W W' → P j v W → P j v W') := Lib.hid (by
        rw [hP]
        intro j v W W' hb h
        match j, h with
        | 0, h => exact h
        | 1, h => exact h
        | 2, h => exact h
        | 3, ⟨ax, cx, e, s0⟩ => exact ⟨ax, cx, e, ownsRow_below s0 hb⟩
        | 4, ⟨bq, ax, cx, e, s0, s1⟩ => exact ⟨bq, ax, cx, e, obj_below s0 hb, ownsRow_below s1 hb⟩
        | j + 5, _ => trivial)
      clear hP
      refine wp_region_tail [22, 23, 24, 25, 26, 27, 28] (slotS [22, 23, 24, 25, 26]) (readsS [22, 23, 24, 25, 26]) (RP [22, 23, 24, 25, 26] P) J (fun j f W => match j with | 0 => (∃ bq ax cx, f 23 = .slice au k cu ∧ f 26 = .slice (some ⟨bq, 0, none⟩) 1 1 ∧ J W ∧ W.heap[bq]? = some (.cells #[.int .i64 x0, .int .i64 x1, .slice ax pn cx] 49 (0, 0)) ∧ W.ownsRow w0.heap.size 55 8 (.slice ax pn cx) pn PSC) | 1 => (∃ uq ax cx, f 27 = uq ∧ KN (rs ++ [⟨x0, x1, ⟨ax, pn, cx⟩⟩]) W ∧ W.ownsRow w0.heap.size 49 3 (uq) (k + 1) (cellsL crrC (rs ++ [⟨x0, x1, ⟨ax, pn, cx⟩⟩])) ∧ W.heap[bN]? = some (.cells #[.slice xl nl yl, .slice xp np yp, .slice au k cu] 31 (0, 0))) | 2 => (∃ uq ax cx, f 27 = uq ∧ f 28 = .pointer (some ⟨bN, 2, none⟩) ∧ KN (rs ++ [⟨x0, x1, ⟨ax, pn, cx⟩⟩]) W ∧ W.ownsRow w0.heap.size 49 3 (uq) (k + 1) (cellsL crrC (rs ++ [⟨x0, x1, ⟨ax, pn, cx⟩⟩])) ∧ W.heap[bN]? = some (.cells #[.slice xl nl yl, .slice xp np yp, .slice au k cu] 31 (0, 0))) | _ => (∃ uq ax cx, KN (rs ++ [⟨x0, x1, ⟨ax, pn, cx⟩⟩]) W ∧ W.ownsRow w0.heap.size 49 3 (uq) (k + 1) (cellsL crrC (rs ++ [⟨x0, x1, ⟨ax, pn, cx⟩⟩])) ∧ W.heap[bN]? = some (.cells #[.slice xl nl yl, .slice xp np yp, uq] 31 (0, 0)))) 5 8 (by decide) (by kernel_rfl) (by kernel_rfl) (by kernel_rfl) (by kernel_rfl) (HJD.out _ HJ0.out) (fun j f q v W hq h => RP.upd hq h) ?_ ?_ ?_ ?_
      case refine_1 =>
        intro iq hiq f W hIW hdep0
        have hdep : ∀ j, depB _ iq j = true → P j (f (slotS [22, 23, 24, 25, 26] j)) W := hdep0
        clear hdep0
        generalize ha1 : putsL _ [22, 23, 24, 25, 26, 27, 28] f = a1
        match iq, hiq, hdep with
        | 0, _, hdep0 =>
          have E3 : a1.tmps[3]?.getD undef = .pointer (some ⟨bN, 0, none⟩) := by rw [← ha1]; exact (putsL_out2 _ _ _ _ (by decide)).trans rfl
          exact wpOp_val rfl rfl (v := .pointer (some ⟨bN, 2, none⟩)) (w' := W) (by simp [execOp, go_sem, E3]) ⟨hIW, fun _ h => h, _, by decide, rfl, RP.set ((HPI0.out _ _).2 rfl)⟩
        | 1, _, hdep0 =>
          have hd0 := (HPI0.out _ _).1 (hdep0 0 (by kernel_rfl))
          have E22 : a1.tmps[22]?.getD undef = .pointer (some ⟨bN, 2, none⟩) := by rw [← ha1]; exact (putsL_in2 _ _ _ _ (by decide) (show 22 < 31 from by decide)).trans hd0
          have v2 : W.cell? ⟨bN, 2, none⟩ = some (.slice au k cu) := by simpa using HMN.out W hIW 2
          exact wpOp_val rfl rfl (v := .slice au k cu) (w' := W) (by simp [execOp, go_sem, E22, v2]) ⟨hIW, fun _ h => h, _, by decide, rfl, RP.set ((HPI1.out _ _).2 rfl)⟩
        | 2, _, hdep0 =>
          have E5 : a1.tmps[5]?.getD undef = .pointer (some ⟨bX, 0, none⟩) := by rw [← ha1]; exact (putsL_out2 _ _ _ _ (by decide)).trans rfl
          have v0 : W.cell? ⟨bX, 0, none⟩ = some (.int .i64 x0) := by simpa using HCX.out W hIW 0
          have v1 : W.cell? ⟨bX, 1, none⟩ = some (.int .i64 x1) := by simpa using HCX.out W hIW 1
          have v2 : W.cell? ⟨bX, 2, none⟩ = some (.slice xa pn xc) := by simpa using HCX.out W hIW 2
          exact wpOp_val rfl rfl (v := .agg #[.int .i64 x0, .int .i64 x1, .slice xa pn xc]) (w' := W) (by simp [execOp, go_sem, E5, v0, v1, v2]) ⟨hIW, fun _ h => h, _, by decide, rfl, RP.set ((HPI2.out _ _).2 rfl)⟩
        | 3, _, hdep0 =>
          have hd2 := (HPI2.out _ _).1 (hdep0 2 (by kernel_rfl))
          have E24 : a1.tmps[24]?.getD undef = .agg #[.int .i64 x0, .int .i64 x1, .slice xa pn xc] := by rw [← ha1]; exact (putsL_in2 _ _ _ _ (by decide) (show 24 < 31 from by decide)).trans hd2
          refine wpOp_call rfl rfl (n := 39) (vs := #[.agg #[.int .i64 x0, .int .i64 x1, .slice xa pn xc]]) (by have := egC #[.agg #[.int .i64 x0, .int .i64 x1, .slice xa pn xc]] W; simp [execOp, E24, resolve, invoke, go_sem] <;> exact this) ((HCC.out W hIW).mono fun e w' hh => (by obtain ⟨ax, cx, rfl, p0, hJ', hb'⟩ := hh; exact ⟨_, rfl, (HPI3.out _ _).2 ⟨_, _, rfl, p0⟩, hJ', hb'⟩ : ∃ v, e = .returned v ∧ (P 3 v w' ∧ J w' ∧ Below W.heap.size W w'))) ?_
          rintro v w' ⟨hv, hI', hb'⟩
          exact ⟨hI', fun j h => HKP.out j _ _ _ hb' h, _, by decide, rfl, RP.set hv⟩
        | 4, _, hdep0 =>
          have hd3 := (HPI3.out _ _).1 (hdep0 3 (by kernel_rfl))
          obtain ⟨ax, cx, q3, r3_0⟩ := hd3
          have E25 : a1.tmps[25]?.getD undef = .agg #[.int .i64 x0, .int .i64 x1, .slice ax pn cx] := by rw [← ha1]; exact (putsL_in2 _ _ _ _ (by decide) (show 25 < 31 from by decide)).trans q3
          exact wpOp_val rfl rfl (v := .slice (some ⟨W.heap.size, 0, none⟩) 1 1) (w' := W.alloc (.cells #[.int .i64 x0, .int .i64 x1, .slice ax pn cx] 49)) (by simp [execOp, go_sem, E25]) ⟨(HJA.out _ _ hIW), fun j h => HKP.out j _ _ _ (below_alloc _ _) h, _, by decide, rfl, RP.set ((HPI4.out _ _).2 ⟨_, _, _, rfl, heap_alloc_new _ _, r3_0.alloc _⟩)⟩
        | iq + 5, h, _ => exact absurd h (by omega)
      case refine_2 =>
        intro f W hIW hR
        have h23 := (HPI1.out _ _).1 (hR 1 (by decide))
        have h26 := (HPI4.out _ _).1 (hR 4 (by decide))
        obtain ⟨bq, ax, cx, h26, hbq, hox⟩ := h26
        exact ⟨bq, ax, cx, h23, h26, hIW, hbq, hox⟩
      case refine_3 =>
        intro iq hsq hiq f W hIt0
        have hiq2 : iq < 8 := hiq
        have hIt := hIt0
        clear hIt0
        rcases (show iq = 5 ∨ iq = 6 ∨ iq = 7 by omega) with rfl | rfl | rfl
        · clear hsq hiq hiq2
          obtain ⟨bq, ax, cx, h23, h26, hIW, hbq, hox⟩ := hIt
          refine wpOp_append rfl rfl (.tmp 23) (.tmp 26) 29 rfl w0.heap.size 49 i0 (.agg #[.int .i64 0, .int .i64 0, .slice none 0 0]) 3 40 Try.underlying29 hi0 hz0 hz1 hz2 rfl (by decide) (.slice au k cu) k (cellsL crrC rs) ?_ (HOW.out W hIW) ⟨bq, 0, none⟩ 1 1 [.int .i64 x0, .int .i64 x1, .slice ax pn cx] ?_ rfl (obj_new_cells hbq) (HONE.out _ _) (by unfold maxLen; omega) (by omega) (HJW.out W hIW) ?_
          · exact (putsL_in _ _ _ _ (by decide) (show 23 < 31 from by decide)).trans h23
          · exact (putsL_in _ _ _ _ (by decide) (show 26 < 31 from by decide)).trans h26
          · intro v' w' h2 h3
            rw [HSN.out] at h2
            have hkk := HKN.out W w' _ _ hIW hox h3
            exact ⟨updF f 27 v', putsL_put _ _ _ _ _ (by decide), (⟨v', ax, cx, updF_same _ _ _, hkk.1, h2, hkk.2⟩ : ∃ uq ax cx, updF f 27 v' 27 = uq ∧ KN (rs ++ [⟨x0, x1, ⟨ax, pn, cx⟩⟩]) w' ∧ w'.ownsRow w0.heap.size 49 3 (uq) (k + 1) (cellsL crrC (rs ++ [⟨x0, x1, ⟨ax, pn, cx⟩⟩])) ∧ w'.heap[bN]? = some (.cells #[.slice xl nl yl, .slice xp np yp, .slice au k cu] 31 (0, 0)))⟩
        · clear hsq hiq hiq2
          obtain ⟨uq, ax, cx, h27, hkn, hrw, hbn⟩ := hIt
          generalize ha1 : putsL _ [22, 23, 24, 25, 26, 27, 28] f = a1
          have EH : a1.tmps[3]?.getD undef = .pointer (some ⟨bN, 0, none⟩) := by rw [← ha1]; exact (putsL_out2 _ _ _ _ (by decide)).trans rfl
          exact wpOp_val rfl rfl (v := .pointer (some ⟨bN, 2, none⟩)) (w' := W) (by simp [execOp, go_sem, EH]) ⟨updF f 28 (.pointer (some ⟨bN, 2, none⟩)), by rw [← ha1]; exact putsL_put _ _ _ _ _ (by decide), (⟨uq, ax, cx, (updF_other _ _ (by decide)).trans h27, updF_same _ _ _, hkn, hrw, hbn⟩ : ∃ uq ax cx, updF f 28 (.pointer (some ⟨bN, 2, none⟩)) 27 = uq ∧ updF f 28 (.pointer (some ⟨bN, 2, none⟩)) 28 = .pointer (some ⟨bN, 2, none⟩) ∧ KN (rs ++ [⟨x0, x1, ⟨ax, pn, cx⟩⟩]) W ∧ W.ownsRow w0.heap.size 49 3 (uq) (k + 1) (cellsL crrC (rs ++ [⟨x0, x1, ⟨ax, pn, cx⟩⟩])) ∧ W.heap[bN]? = some (.cells #[.slice xl nl yl, .slice xp np yp, .slice au k cu] 31 (0, 0)))⟩
        · clear hsq hiq hiq2
          obtain ⟨uq, ax, cx, h27, h28, hkn, hrw, hbn⟩ := hIt
          obtain ⟨au', cu', rfl, -, -⟩ := owns_gen hrw
          generalize ha1 : putsL _ [22, 23, 24, 25, 26, 27, 28] f = a1
          have E27 : a1.tmps[27]?.getD undef = .slice au' (k + 1) cu' := by rw [← ha1]; exact (putsL_in2 _ _ _ _ (by decide) (show 27 < 31 from by decide)).trans h27
          have E28 : a1.tmps[28]?.getD undef = .pointer (some ⟨bN, 2, none⟩) := by rw [← ha1]; exact (putsL_in2 _ _ _ _ (by decide) (show 28 < 31 from by decide)).trans h28
          have p0 := obj_cell hbn 2
          have f0 := obj_free hbn 2
          simp at p0
          have hst := HST.out _ _ _ _ hkn hrw hbn
          exact wpOp_skip rfl rfl (w' := W.setCell ⟨bN, 2, none⟩ (.slice au' (k + 1) cu')) (by simp [execOp, go_sem, E27, E28, p0, f0]) ⟨f, ha1.symm, (⟨_, ax, cx, hst.1, hst.2.1, hst.2.2⟩ : ∃ uq ax cx, KN (rs ++ [⟨x0, x1, ⟨ax, pn, cx⟩⟩]) (W.setCell ⟨bN, 2, none⟩ (.slice au' (k + 1) cu')) ∧ (W.setCell ⟨bN, 2, none⟩ (.slice au' (k + 1) cu')).ownsRow w0.heap.size 49 3 (uq) (k + 1) (cellsL crrC (rs ++ [⟨x0, x1, ⟨ax, pn, cx⟩⟩])) ∧ (W.setCell ⟨bN, 2, none⟩ (.slice au' (k + 1) cu')).heap[bN]? = some (.cells #[.slice xl nl yl, .slice xp np yp, uq] 31 (0, 0)))⟩
      case refine_4 =>
        intro f W hIt
        simp only [putsL, List.foldl_cons, List.foldl_nil, Act.put, List.setIfInBounds_toArray, List.set_cons_zero, List.set_cons_succ]
        obtain ⟨uq, ax, cx, hkn, hrw, hbn⟩ := hIt
        obtain ⟨au', cu', rfl, -, -⟩ := owns_gen hrw
        have hkn2 := HKN2.out _ _ hkn
        have HB9 := Lib.hid hkn2
        have HO9 := Lib.hid hrw
        have HN9 := Lib.hid hbn
        clear hkn hrw hbn hkn2 HST HKN HKN2 HOW HMN HCX HCC HSN HJ0 HJD HJO HJI HJA HJW
        go_wp2
        go_roundw
        case rel => exact ⟨k + 1, _, _, _, by first | rfl | go_num, by omega, HB9, HO9, HN9⟩
        case measure => simp [RowKit.intOf]; omega
    · obtain hkk : k = n := by omega
      subst hkk
      have hk := HK.out
      have htk : C.take k = C := by rw [HN.out]; exact List.take_length
      rw [htk] at hk
      have hn3 := HB.out
      have hr3 := obj_below HR0.out hk.bel
      have HRF := Lib.hid hr3
      have HKF := Lib.hid hk
      have nn0 := obj_cell hn3 0
      have nn1 := obj_cell hn3 1
      have nn2 := obj_cell hn3 2
      simp at nn0 nn1 nn2
      have r0 := obj_cell hr3 0
      have r1 := obj_cell hr3 1
      have r2 := obj_cell hr3 2
      simp at r0 r1 r2
      have fr0 := obj_free hr3 0
      have fr1 := obj_free hr3 1
      have fr2 := obj_free hr3 2
      clear hk hn3 hr3
      go_wp2
      refine ret3 HRF.out rfl _ _ _ (v := .agg #[.slice xl nl yl, .slice xp np yp, .slice au k cu]) (fun F hF => ?_) rfl ⟨xl, yl, xp, yp, au, cu, rs, rfl, ?_, ?_⟩
      · have q0 := obj_cell hF 0
        have q1 := obj_cell hF 1
        have q2 := obj_cell hF 2
        simp at q0 q1 q2
        simp [results, Try.results38, go_sem, q0, q1, q2]
      · have hg := put3_grown2 wr bR (.slice xl nl yl) (.slice xp np yp) (.slice au k cu)
        have hkk := HKF.out
        exact ⟨put3_below (HB0.out.trans (hkk.bel.mono HB0.out.size)) HLR.out.1 _ _ _, ownsRow_mono (owns_keep hkk.led hg (notOf_box HRF.out (by decide))) HB0.out.size, ownsRow_mono (owns_keep hkk.prs hg (notOf_box HRF.out (by decide))) HB0.out.size, (hkk.cor.keep hg (notOf_box HRF.out (by decide))).mono HB0.out.size⟩
      · exact ownsRow_mono (owns_keep HO.out (put3_grown2 _ _ _ _ _) (notOf_box HRF.out (by decide))) HB0.out.size

end Go.Proofs.Ytoccnindkimjdaa
