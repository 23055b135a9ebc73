/- The reference of histories: Correct of right ones. -/
import Derived.Test.YtoccnindkimjdaaMRsG
set_option linter.unusedSimpArgs false
set_option linter.unusedVariables false
set_option linter.unusedSimpArgs false
set_option linter.unusedVariables false
namespace Go.Proofs.Ytoccnindkimjdaa
open Go.RowKit Go.Lib Go.Proofs

theorem put3_grown2 (W : World) (b : Nat) (v0 v1 v2 : Value) : W.grownBy (put3 W b v0 v1 v2) (some b) := by
  unfold put3
  exact grown_step (grown_step (setCell_grown _ _) (setCell_grown _ _)) (setCell_grown _ _)
theorem Try.infoRsCor : (Try.prog.info? 49).map (fun i => (i.zero, i.size, i.bytes)) = some (some (.agg #[.int .i64 0, .int .i64 0, .slice none 0 0]), 3, 40) := by kernel_rfl

set_option maxRecDepth 100000 in
set_option maxHeartbeats 16000000 in
theorem rfCorrect_ok {h : Hst} (hh : HstOk h) {c : Cor} (hc : CorOk c) (hfl : lastF h.cors ≤ c.fnd) (hcn : h.cors.length < 20) (vl vp vc : Value) (sx : Sli) (w : World) (ha : HstAt w vl vp vc h) (hs : PstsAt w sx.v c.ps) :
    Calls Try.prog 25 #[.agg #[vl, vp, vc], .agg #[.int .i64 c.yr, .int .i64 c.fnd, sx.v]] w fun e w' => ∃ u, e = .returned (.tuple #[.agg #[vl, vp, u], .int .i64 0]) ∧ CorsAt w' u (h.cors ++ [c]) ∧ Below w.heap.size w w' := by
  obtain ⟨i0, hi0, hz0, hz1, hz2⟩ := info_parts Try.infoRsCor
  have HCK := Lib.hid (fun W (hW : Below w.heap.size w W) => rfCheck_right hh vl vp vc W (ha.below hW))
  have HCO := Lib.hid (fun W (hW : Below w.heap.size w W) => rfcorrection_ok hc sx.v W (ListAt.below hs hW))
  obtain ⟨al, ap, -, cl, cp, -, rfl, rfl, -⟩ := ha.parts
  obtain ⟨nl, hnl⟩ : ∃ q, q = h.led.length := ⟨_, rfl⟩
  obtain ⟨np, hnp⟩ : ∃ q, q = h.pres.length := ⟨_, rfl⟩
  rw [← hnl, ← hnp] at HCK ⊢
  obtain ⟨rs, hac, hcr⟩ := ha.cors
  obtain ⟨cy, cf, ps⟩ := c
  simp only at hfl HCO
  have HFN : Hid (∀ W, Below w.heap.size w W → CorsR W (rs ++ [⟨cy, cf, sx⟩]) (h.cors ++ [⟨cy, cf, ps⟩])) := Lib.hid fun W hW =>
    CorsR.snoc rfl rfl (ListAt.below hs hW) (hcr.imp fun v l (q : PstsAt w v l) => (ListAt.below q hW : PstsAt W v l))
  have hrl := hcr.len
  have HRN := Lib.hid (fun W (hW : Below w.heap.size w W) => hac.below hW)
  obtain ⟨ac, cc, rfl, hcc', hcs⟩ := hac.shape crrF
  have hlast : ∀ j, h.cors.length = j + 1 → ∃ b o pf, ac = some ⟨b, o, none⟩ ∧ (∀ W, Below w.heap.size w W → W.cell? ⟨b, o + j * 3 + 1, none⟩ = some (.int .i64 pf)) ∧ ¬ cf < pf := fun j hj => by
    obtain ⟨b, o, e, hb, hcc⟩ := hcs (by omega)
    have h4 := hcr.get j (by omega) (by omega)
    refine ⟨b, o, (rs[j]'(by omega)).fnd, e, fun W hW => ?_, ?_⟩
    · rw [(hW.cell (p := ⟨b, o + j * 3 + 1, none⟩) hb), hcc j (by omega) 1 (by omega)]
      rfl
    · rw [h4.2.1, ← lastF_at hj]; omega
  have HLS := Lib.hid hlast
  have HNW0 : Hid (∀ W, Below w.heap.size w W → rs.length = 0 ∨ ∃ ad : Addr, ac = some ad ∧ ∀ j u, (cellsL crrC rs)[j]? = some u → W.cell? (ad.add j) = some u) := Lib.hid fun W hW => newsOf crrF (hac.below hW)
  have HCLN0 := Lib.hid (cellsL_len crrF rs)
  have HONE0 := Lib.hid (cellsL_one crrF rs)
  have HSN := Lib.hid (cellsL_snoc crrC rs ⟨cy, cf, sx⟩)
  have HLEN : Hid ((rs ++ [(⟨cy, cf, sx⟩ : Crr)]).length = rs.length + 1) := Lib.hid (by simp)
  obtain ⟨RS, hRS⟩ : ∃ RS : List Crr, RS = rs ++ [⟨cy, cf, sx⟩] := ⟨_, rfl⟩
  rw [← hRS] at HFN HSN HLEN
  obtain ⟨CL, hCL⟩ : ∃ CL, CL = cellsL crrC rs := ⟨_, rfl⟩
  rw [← hCL] at HNW0 HCLN0 HONE0 HSN
  rw [hrl] at hcc' HCK HNW0 HCLN0 HLEN ⊢
  obtain ⟨n, hn⟩ : ∃ n, n = h.cors.length := ⟨_, rfl⟩
  rw [← hn] at hcc' HCK HNW0 HCLN0 HLEN hcn HLS ⊢
  have hone := HONE0.out
  have HONE := HONE0
  have HCLN := HCLN0
  obtain ⟨asl, nsl, csl⟩ := sx
  simp only [Sli.v] at HCO HFN HSN ⊢
  obtain ⟨sc, hsc⟩ : ∃ sc : Value, sc = .slice asl nsl csl := ⟨_, rfl⟩
  have hsone : sc.oneCell' = true := by rw [hsc]; rfl
  simp only [crrC] at HSN
  rw [← hsc] at HCO HSN ⊢
  have HSO := Lib.hid hsone
  clear hnl hnp hn hrl hcs hlast hac hcr ha hs hCL hRS hcc' hc hh hfl hone hsone hsc HCLN0 HONE0
  obtain ⟨w0, hw0⟩ : ∃ w0, w0 = ((w.alloc (.cells #[.slice al nl cl, .slice ap np cp, .slice ac n cc] 31)).alloc (.cells #[.int .i64 cy, .int .i64 cf, sc] 49)).alloc (.cells #[.slice none 0 0, .slice none 0 0, .slice none 0 0] 31) := ⟨_, rfl⟩
  obtain ⟨bH, hbH⟩ : ∃ b, b = w.heap.size := ⟨_, rfl⟩
  obtain ⟨bC, hbC⟩ : ∃ b, b = w.heap.size + 1 := ⟨_, rfl⟩
  obtain ⟨bR, hbR⟩ : ∃ b, b = w.heap.size + 2 := ⟨_, rfl⟩
  have HH0 : Hid (w0.heap[bH]? = some (.cells #[.slice al nl cl, .slice ap np cp, .slice ac n cc] 31 (0, 0))) := Lib.hid (by rw [hw0, hbH]; exact obj_below (alloc1_at w _ _) (below_alloc _ _))
  have HC0 : Hid (w0.heap[bC]? = some (.cells #[.int .i64 cy, .int .i64 cf, sc] 49 (0, 0))) := Lib.hid (by rw [hw0, hbC]; exact obj_below (alloc2_at w _ _) (below_alloc _ _))
  have HR0 : Hid (w0.heap[bR]? = some (.cells #[.slice none 0 0, .slice none 0 0, .slice none 0 0] 31 (0, 0))) := Lib.hid (by
    rw [hw0, hbR]
    have := heap_alloc_new ((w.alloc (.cells #[.slice al nl cl, .slice ap np cp, .slice ac n cc] 31)).alloc (.cells #[.int .i64 cy, .int .i64 cf, sc] 49)) (.cells #[.slice none 0 0, .slice none 0 0, .slice none 0 0] 31)
    rw [show ((w.alloc (.cells #[.slice al nl cl, .slice ap np cp, .slice ac n cc] 31)).alloc (.cells #[.int .i64 cy, .int .i64 cf, sc] 49)).heap.size = w.heap.size + 2 by simp] at this
    exact this)
  have HB0 : Hid (Below w.heap.size w w0) := Lib.hid (by rw [hw0]; exact (below2 w _ _).trans ((below_alloc _ _).mono (below2 w _ _).size))
  have HBHL : Hid (w.heap.size ≤ bH ∧ w.heap.size ≤ bR ∧ bH ≠ bR) := Lib.hid (by omega)
  have HBRL0 : Hid (bR < w0.heap.size) := Lib.hid (obj_lt HR0.out)
  have HW0 := Lib.hid hw0
  have HBH := Lib.hid hbH
  have HBC := Lib.hid hbC
  have HBR := Lib.hid hbR
  have hbx := HH0.out
  have ub0 := obj_cell hbx 0
  have ub1 := obj_cell hbx 1
  have ub2 := obj_cell hbx 2
  simp at ub0 ub1 ub2
  clear hw0 hbH hbC hbR hbx
  go_enter Try.func25, Try.ntmps25
  go_upto_region 1 with fail
  rw [← HW0.out, ← HBR.out, ← HBC.out, ← HBH.out]
  go_wp2_with fail
  refine (HCK.out _ HB0.out).mono ?_
  rintro e w2 ⟨rfl, hb2⟩
  have HH2 := Lib.hid (obj_below HH0.out hb2)
  have HC2 := Lib.hid (obj_below HC0.out hb2)
  have HR2 := Lib.hid (obj_below HR0.out hb2)
  have HB2 := Lib.hid (HB0.out.trans (hb2.mono HB0.out.size))
  have hbx := HH2.out
  clear ub0 ub1 ub2 hb2
  have ub0 := obj_cell hbx 0
  have ub1 := obj_cell hbx 1
  have ub2 := obj_cell hbx 2
  simp at ub0 ub1 ub2
  clear hbx HCK HH0 HC0 HR0 HB0
  have HBRL : Hid (bR < w2.heap.size) := Lib.hid (obj_lt HR2.out)
  have hrb : bH < w2.heap.size := obj_lt HH2.out
  obtain ⟨J, hJ⟩ : ∃ J, J = fun W : World => Below w2.heap.size w2 W := ⟨_, rfl⟩
  have HJO : Hid (∀ W, J W → Below w2.heap.size w2 W) := Lib.hid fun W hW => by rw [hJ] at hW; exact hW
  have HJI : Hid (∀ W, Below w2.heap.size w2 W → J W) := Lib.hid fun W hW => by rw [hJ]; exact hW
  have HJD : Hid (∀ W, J W → J W.drew) := Lib.hid fun W hW => HJI.out _ ((HJO.out W hW).drew)
  have HJA : Hid (∀ W o, J W → J (W.alloc o)) := Lib.hid fun W o hW => HJI.out _ ((HJO.out W hW).alloc (HJO.out W hW).size o)
  have HJ0 : Hid (J w2) := Lib.hid (HJI.out _ (Below.refl _ _))
  have HJW : Hid (∀ W, J W → Below w.heap.size w W) := Lib.hid fun W hW => HB2.out.trans ((HJO.out W hW).mono HB2.out.size)
  have HMH : Hid (∀ W, J W → ∀ j, W.cell? ⟨bH, j, none⟩ = #[.slice al nl cl, .slice ap np cp, .slice ac n cc][j]?) := Lib.hid fun W hW j => obj_cell (obj_below HH2.out (HJO.out W hW)) j
  have HME : Hid (∀ W, J W → ∀ j, W.cell? ⟨bC, j, none⟩ = #[.int .i64 cy, .int .i64 cf, sc][j]?) := Lib.hid fun W hW j => obj_cell (obj_below HC2.out (HJO.out W hW)) j
  have HMR : Hid (∀ W, J W → W.heap[bH]? = some (.cells #[.slice al nl cl, .slice ap np cp, .slice ac n cc] 31 (0, 0))) := Lib.hid fun W hW => obj_below HH2.out (HJO.out W hW)
  have HNW : Hid (∀ W, J W → n = 0 ∨ ∃ ad : Addr, ac = some ad ∧ ∀ j u, CL[j]? = some u → W.cell? (ad.add j) = some u) := Lib.hid fun W hW => HNW0.out W (HJW.out W hW)
  have HCC : Hid (∀ W, J W → Calls Try.prog 48 #[.agg #[.int .i64 cy, .int .i64 cf, sc]] W fun e w' => e = .returned (.bool true) ∧ J w') := Lib.hid fun W hW => (HCO.out W (HJW.out W hW)).mono fun e w' ⟨h1, h2⟩ => ⟨h1, HJI.out _ ((HJO.out W hW).trans (h2.mono (HJO.out W hW).size))⟩
  have HJ2 : Hid (∀ W (x : Value), J W → (W.setCell ⟨bH, 2, none⟩ x).heap[bR]? = some (.cells #[.slice none 0 0, .slice none 0 0, .slice none 0 0] 31 (0, 0))) := Lib.hid fun W x hW => by
    rw [(show W.grownBy (W.setCell ⟨bH, 2, none⟩ x) (some bH) from setCell_grown _ _).block bR (obj_lt (obj_below HR2.out (HJO.out W hW))) (by simp [Ne.symm HBHL.out.2.2])]
    exact obj_below HR2.out (HJO.out W hW)
  obtain ⟨J2, hJ2⟩ : ∃ J2, J2 = fun W : World => W.heap[bR]? = some (.cells #[.slice none 0 0, .slice none 0 0, .slice none 0 0] 31 (0, 0)) := ⟨_, rfl⟩
  have HJ2 : Hid (∀ W (x : Value), J W → J2 (W.setCell ⟨bH, 2, none⟩ x)) := Lib.hid fun W x hW => by rw [hJ2]; exact HJ2.out W x hW
  have HJ2O : Hid (∀ W, J2 W → W.heap[bR]? = some (.cells #[.slice none 0 0, .slice none 0 0, .slice none 0 0] 31 (0, 0))) := Lib.hid fun W hW => by rw [hJ2] at hW; exact hW
  have egC := enters_of Try.func48 (by kernel_rfl) rfl
  have hn20 : ¬ (n : Int) = 20 := by omega
  have hn20b : ((n : Int) == 20) = false := by rw [beq_eq_false_iff_ne]; exact hn20
  clear hJ hJ2 HNW0 HCO
  go_upto_region 5 with fail
  clear ub0 ub1 ub2
  go_cut [35] (fun bv wx => bv = .bool false ∧ Hid (J wx))
  case first =>
    rcases Nat.eq_zero_or_pos n with hk | hk
    · have hkz : ¬ (0 : Int) < (n : Int) := by omega
      have hkt : (n = 0) = True := eq_true hk
      clear hk
      refine wp_region_props [17, 18, 19, 20, 21, 22, 23, 24, 25, 26, 27, 28, 29, 30, 31, 32, 33, 34, 35] (slotS [17, 18, 19, 20, 21, 22, 23, 24, 25, 26, 27, 28, 29, 30, 31, 32, 33, 34, 35]) (readsS [17, 18, 19, 20, 21, 22, 23, 24, 25, 26, 27, 28, 29, 30, 31, 32, 33, 34, 35]) (RTs [17, 18, 19, 20, 21, 22, 23, 24, 25, 26, 27, 28, 29, 30, 31, 32, 33, 34, 35] [.agg #[.int .i64 cy, .int .i64 cf, sc], .bool true, .bool false, .bool false, .int .i64 (n : Int), .bool false, .bool false, undef, undef, undef, undef, undef, undef, undef, undef, undef, undef, .bool false, .bool false]) J (by kernel_rfl) (by kernel_rfl) (by kernel_rfl) (HJD.out _ HJ0.out) (fun j f q v W hq h => RTs.upd hq h) ?_ ?_
      case refine_1 =>
        intro iq hiq f W hIW hdep
        have hiq' : iq < 19 := hiq
        generalize ha1 : putsL _ [17, 18, 19, 20, 21, 22, 23, 24, 25, 26, 27, 28, 29, 30, 31, 32, 33, 34, 35] f = a1
        match iq, hiq', hdep with
        | 0, _, hdep =>
          have E3 : a1.tmps[3]?.getD undef = .pointer (some ⟨bC, 0, none⟩) := by rw [← ha1]; exact (putsL_out2 _ _ _ _ (by decide)).trans rfl
          have v0 : W.cell? ⟨bC, 0, none⟩ = some (.int .i64 cy) := by simpa using HME.out W hIW 0
          have v1 : W.cell? ⟨bC, 1, none⟩ = some (.int .i64 cf) := by simpa using HME.out W hIW 1
          have v2 : W.cell? ⟨bC, 2, none⟩ = some (sc) := by simpa using HME.out W hIW 2
          exact wpOp_val rfl rfl (v := .agg #[.int .i64 cy, .int .i64 cf, sc]) (w' := W) (by simp [execOp, go_sem, E3, v0, v1, v2]) ⟨hIW, fun _ h => h, Or.inl ⟨_, by decide, rfl, updF_same _ _ _⟩⟩
        | 1, _, hdep =>
          have E17 : a1.tmps[17]?.getD undef = .agg #[.int .i64 cy, .int .i64 cf, sc] := by rw [← ha1]; exact (putsL_in2 _ _ _ _ (by decide) (show 17 < 48 from by decide)).trans (hdep 0 (by kernel_rfl))
          refine wpOp_call rfl rfl (n := 48) (vs := #[.agg #[.int .i64 cy, .int .i64 cf, sc]]) (by have := egC #[.agg #[.int .i64 cy, .int .i64 cf, sc]] W; simp [execOp, E17, resolve, invoke, go_sem] <;> exact this) ((HCC.out W hIW).mono fun e w' h => (⟨_, h.1, rfl, h.2⟩ : ∃ v, e = .returned v ∧ (v = .bool true ∧ J w'))) ?_
          rintro v w' ⟨rfl, hI'⟩
          exact ⟨hI', fun _ h => h, Or.inl ⟨_, by decide, rfl, updF_same _ _ _⟩⟩
        | 2, _, hdep =>
          have E18 : a1.tmps[18]?.getD undef = .bool true := by rw [← ha1]; exact (putsL_in2 _ _ _ _ (by decide) (show 18 < 48 from by decide)).trans (hdep 1 (by kernel_rfl))
          exact wpOp_val rfl rfl (v := .bool false) (w' := W) (by simp [execOp, go_sem, E18]) ⟨hIW, fun _ h => h, Or.inl ⟨_, by decide, rfl, updF_same _ _ _⟩⟩
        | 3, _, hdep =>
          have E19 : a1.tmps[19]?.getD undef = .bool false := by rw [← ha1]; exact (putsL_in2 _ _ _ _ (by decide) (show 19 < 48 from by decide)).trans (hdep 2 (by kernel_rfl))
          exact wpOp_val rfl rfl (v := .bool false) (w' := W) (by simp [execOp, go_sem, E19]) ⟨hIW, fun _ h => h, Or.inl ⟨_, by decide, rfl, updF_same _ _ _⟩⟩
        | 4, _, hdep =>
          have G3 : a1.tmps[20]? = some (.bool false) := by rw [← ha1]; exact (putsL_some _ _ _ _ (by decide) (show 20 < 48 from by decide)).trans (congrArg some (hdep 3 (by kernel_rfl)))
          have E7 : a1.tmps[7]?.getD undef = .int .i64 (n : Int) := by rw [← ha1]; exact (putsL_out2 _ _ _ _ (by decide)).trans rfl
          exact wpOp_valG rfl rfl (yielded_of rfl G3) (v := .int .i64 (n : Int)) (w' := W) (by simp [execOp, go_sem, E7]) ⟨hIW, fun _ h => h, Or.inl ⟨_, by decide, rfl, updF_same _ _ _⟩⟩
        | 5, _, hdep =>
          have G3 : a1.tmps[20]? = some (.bool false) := by rw [← ha1]; exact (putsL_some _ _ _ _ (by decide) (show 20 < 48 from by decide)).trans (congrArg some (hdep 3 (by kernel_rfl)))
          have E21 : a1.tmps[21]?.getD undef = .int .i64 (n : Int) := by rw [← ha1]; exact (putsL_in2 _ _ _ _ (by decide) (show 21 < 48 from by decide)).trans (hdep 4 (by kernel_rfl))
          exact wpOp_valG rfl rfl (yielded_of rfl G3) (v := .bool false) (w' := W) (by simp [execOp, go_sem, E21, hkz, hkt]) ⟨hIW, fun _ h => h, Or.inl ⟨_, by decide, rfl, updF_same _ _ _⟩⟩
        | 6, _, hdep =>
          have G3 : a1.tmps[20]? = some (.bool false) := by rw [← ha1]; exact (putsL_some _ _ _ _ (by decide) (show 20 < 48 from by decide)).trans (congrArg some (hdep 3 (by kernel_rfl)))
          have E22 : a1.tmps[22]?.getD undef = .bool false := by rw [← ha1]; exact (putsL_in2 _ _ _ _ (by decide) (show 22 < 48 from by decide)).trans (hdep 5 (by kernel_rfl))
          exact wpOp_valG rfl rfl (yielded_of rfl G3) (v := .bool false) (w' := W) (by simp [execOp, go_sem, E22]) ⟨hIW, fun _ h => h, Or.inl ⟨_, by decide, rfl, updF_same _ _ _⟩⟩
        | 7, _, hdep =>
          have G6 : a1.tmps[23]? = some (.bool false) := by rw [← ha1]; exact (putsL_some _ _ _ _ (by decide) (show 23 < 48 from by decide)).trans (congrArg some (hdep 6 (by kernel_rfl)))
          exact wpOp_off rfl rfl (yielded_of rfl G6) ⟨hIW, fun _ h => h, Or.inl ⟨_, by decide, rfl, updF_same _ _ _⟩⟩
        | 8, _, hdep =>
          have G6 : a1.tmps[23]? = some (.bool false) := by rw [← ha1]; exact (putsL_some _ _ _ _ (by decide) (show 23 < 48 from by decide)).trans (congrArg some (hdep 6 (by kernel_rfl)))
          exact wpOp_off rfl rfl (yielded_of rfl G6) ⟨hIW, fun _ h => h, Or.inl ⟨_, by decide, rfl, updF_same _ _ _⟩⟩
        | 9, _, hdep =>
          have G6 : a1.tmps[23]? = some (.bool false) := by rw [← ha1]; exact (putsL_some _ _ _ _ (by decide) (show 23 < 48 from by decide)).trans (congrArg some (hdep 6 (by kernel_rfl)))
          exact wpOp_off rfl rfl (yielded_of rfl G6) ⟨hIW, fun _ h => h, Or.inl ⟨_, by decide, rfl, updF_same _ _ _⟩⟩
        | 10, _, hdep =>
          have G6 : a1.tmps[23]? = some (.bool false) := by rw [← ha1]; exact (putsL_some _ _ _ _ (by decide) (show 23 < 48 from by decide)).trans (congrArg some (hdep 6 (by kernel_rfl)))
          exact wpOp_off rfl rfl (yielded_of rfl G6) ⟨hIW, fun _ h => h, Or.inl ⟨_, by decide, rfl, updF_same _ _ _⟩⟩
        | 11, _, hdep =>
          have G6 : a1.tmps[23]? = some (.bool false) := by rw [← ha1]; exact (putsL_some _ _ _ _ (by decide) (show 23 < 48 from by decide)).trans (congrArg some (hdep 6 (by kernel_rfl)))
          exact wpOp_off rfl rfl (yielded_of rfl G6) ⟨hIW, fun _ h => h, Or.inl ⟨_, by decide, rfl, updF_same _ _ _⟩⟩
        | 12, _, hdep =>
          have G6 : a1.tmps[23]? = some (.bool false) := by rw [← ha1]; exact (putsL_some _ _ _ _ (by decide) (show 23 < 48 from by decide)).trans (congrArg some (hdep 6 (by kernel_rfl)))
          exact wpOp_off rfl rfl (yielded_of rfl G6) ⟨hIW, fun _ h => h, Or.inl ⟨_, by decide, rfl, updF_same _ _ _⟩⟩
        | 13, _, hdep =>
          have G6 : a1.tmps[23]? = some (.bool false) := by rw [← ha1]; exact (putsL_some _ _ _ _ (by decide) (show 23 < 48 from by decide)).trans (congrArg some (hdep 6 (by kernel_rfl)))
          exact wpOp_off rfl rfl (yielded_of rfl G6) ⟨hIW, fun _ h => h, Or.inl ⟨_, by decide, rfl, updF_same _ _ _⟩⟩
        | 14, _, hdep =>
          have G6 : a1.tmps[23]? = some (.bool false) := by rw [← ha1]; exact (putsL_some _ _ _ _ (by decide) (show 23 < 48 from by decide)).trans (congrArg some (hdep 6 (by kernel_rfl)))
          exact wpOp_off rfl rfl (yielded_of rfl G6) ⟨hIW, fun _ h => h, Or.inl ⟨_, by decide, rfl, updF_same _ _ _⟩⟩
        | 15, _, hdep =>
          have G6 : a1.tmps[23]? = some (.bool false) := by rw [← ha1]; exact (putsL_some _ _ _ _ (by decide) (show 23 < 48 from by decide)).trans (congrArg some (hdep 6 (by kernel_rfl)))
          exact wpOp_off rfl rfl (yielded_of rfl G6) ⟨hIW, fun _ h => h, Or.inl ⟨_, by decide, rfl, updF_same _ _ _⟩⟩
        | 16, _, hdep =>
          have G6 : a1.tmps[23]? = some (.bool false) := by rw [← ha1]; exact (putsL_some _ _ _ _ (by decide) (show 23 < 48 from by decide)).trans (congrArg some (hdep 6 (by kernel_rfl)))
          exact wpOp_off rfl rfl (yielded_of rfl G6) ⟨hIW, fun _ h => h, Or.inl ⟨_, by decide, rfl, updF_same _ _ _⟩⟩
        | 17, _, hdep =>
          have G3 : a1.tmps[20]? = some (.bool false) := by rw [← ha1]; exact (putsL_some _ _ _ _ (by decide) (show 20 < 48 from by decide)).trans (congrArg some (hdep 3 (by kernel_rfl)))
          have E23 : a1.tmps[23]?.getD undef = .bool false := by rw [← ha1]; exact (putsL_in2 _ _ _ _ (by decide) (show 23 < 48 from by decide)).trans (hdep 6 (by kernel_rfl))
          exact wpOp_valG rfl rfl (yielded_of rfl G3) (v := .bool false) (w' := W) (by simp [execOp, go_sem, E23]) ⟨hIW, fun _ h => h, Or.inl ⟨_, by decide, rfl, updF_same _ _ _⟩⟩
        | 18, _, hdep =>
          have E20 : a1.tmps[20]?.getD undef = .bool false := by rw [← ha1]; exact (putsL_in2 _ _ _ _ (by decide) (show 20 < 48 from by decide)).trans (hdep 3 (by kernel_rfl))
          have E34 : a1.tmps[34]?.getD undef = .bool false := by rw [← ha1]; exact (putsL_in2 _ _ _ _ (by decide) (show 34 < 48 from by decide)).trans (hdep 17 (by kernel_rfl))
          exact wpOp_val rfl rfl (v := .bool false) (w' := W) (by simp [execOp, go_sem, E20, E34]) ⟨hIW, fun _ h => h, Or.inl ⟨_, by decide, rfl, updF_same _ _ _⟩⟩
        | iq + 19, h, _ => exact absurd h (by omega)
      case refine_2 =>
        intro f W hIW hR
        have h35 : f 35 = .bool false := hR 18 (show 18 < 19 from by decide)
        simp only [putsL, List.foldl_cons, List.foldl_nil, Act.put, List.setIfInBounds_toArray, List.set_cons_zero, List.set_cons_succ]
        go_wp2
        go_meet
        exact ⟨(by first | exact h35 | rfl), Lib.hid hIW⟩
    · obtain ⟨j, hk⟩ : ∃ j, n = j + 1 := ⟨n - 1, by omega⟩
      have hkz : (0 : Int) < (n : Int) := by omega
      obtain ⟨b, o, pf, rfl, hpv, hfp⟩ := HLS.out j hk
      have HPV : Hid (∀ W, J W → W.cell? ⟨b, o + j * 3 + 1, none⟩ = some (.int .i64 pf)) := Lib.hid fun W hW => hpv W (HJW.out W hW)
      have hwj : IntKind.i64.wrap ((n : Int) - 1) = (j : Int) := by rw [show (n : Int) - 1 = (j : Int) by omega]; exact IntWalk.i64_in _ (by omega)
      have hj0 : (0 : Int) ≤ (j : Int) := by omega
      have hj1 : (j : Int) < (n : Int) := by omega
      have hkt : 0 < n := by omega
      clear hk hpv
      refine wp_region_props [17, 18, 19, 20, 21, 22, 23, 24, 25, 26, 27, 28, 29, 30, 31, 32, 33, 34, 35] (slotS [17, 18, 19, 20, 21, 22, 23, 24, 25, 26, 27, 28, 29, 30, 31, 32, 33, 34, 35]) (readsS [17, 18, 19, 20, 21, 22, 23, 24, 25, 26, 27, 28, 29, 30, 31, 32, 33, 34, 35]) (RTs [17, 18, 19, 20, 21, 22, 23, 24, 25, 26, 27, 28, 29, 30, 31, 32, 33, 34, 35] [.agg #[.int .i64 cy, .int .i64 cf, sc], .bool true, .bool false, .bool false, .int .i64 (n : Int), .bool true, .bool true, .pointer (some ⟨bC, 1, none⟩), .int .i64 cf, .pointer (some ⟨bH, 2, none⟩), .slice (some ⟨b, o, none⟩) n cc, .int .i64 (n : Int), .int .i64 (j : Int), .pointer (some ⟨b, o + j * 3, none⟩), .pointer (some ⟨b, o + j * 3 + 1, none⟩), .int .i64 pf, .bool false, .bool false, .bool false]) J (by kernel_rfl) (by kernel_rfl) (by kernel_rfl) (HJD.out _ HJ0.out) (fun j f q v W hq h => RTs.upd hq h) ?_ ?_
      case refine_1 =>
        intro iq hiq f W hIW hdep
        have hiq' : iq < 19 := hiq
        generalize ha1 : putsL _ [17, 18, 19, 20, 21, 22, 23, 24, 25, 26, 27, 28, 29, 30, 31, 32, 33, 34, 35] f = a1
        match iq, hiq', hdep with
        | 0, _, hdep =>
          have E3 : a1.tmps[3]?.getD undef = .pointer (some ⟨bC, 0, none⟩) := by rw [← ha1]; exact (putsL_out2 _ _ _ _ (by decide)).trans rfl
          have v0 : W.cell? ⟨bC, 0, none⟩ = some (.int .i64 cy) := by simpa using HME.out W hIW 0
          have v1 : W.cell? ⟨bC, 1, none⟩ = some (.int .i64 cf) := by simpa using HME.out W hIW 1
          have v2 : W.cell? ⟨bC, 2, none⟩ = some (sc) := by simpa using HME.out W hIW 2
          exact wpOp_val rfl rfl (v := .agg #[.int .i64 cy, .int .i64 cf, sc]) (w' := W) (by simp [execOp, go_sem, E3, v0, v1, v2]) ⟨hIW, fun _ h => h, Or.inl ⟨_, by decide, rfl, updF_same _ _ _⟩⟩
        | 1, _, hdep =>
          have E17 : a1.tmps[17]?.getD undef = .agg #[.int .i64 cy, .int .i64 cf, sc] := by rw [← ha1]; exact (putsL_in2 _ _ _ _ (by decide) (show 17 < 48 from by decide)).trans (hdep 0 (by kernel_rfl))
          refine wpOp_call rfl rfl (n := 48) (vs := #[.agg #[.int .i64 cy, .int .i64 cf, sc]]) (by have := egC #[.agg #[.int .i64 cy, .int .i64 cf, sc]] W; simp [execOp, E17, resolve, invoke, go_sem] <;> exact this) ((HCC.out W hIW).mono fun e w' h => (⟨_, h.1, rfl, h.2⟩ : ∃ v, e = .returned v ∧ (v = .bool true ∧ J w'))) ?_
          rintro v w' ⟨rfl, hI'⟩
          exact ⟨hI', fun _ h => h, Or.inl ⟨_, by decide, rfl, updF_same _ _ _⟩⟩
        | 2, _, hdep =>
          have E18 : a1.tmps[18]?.getD undef = .bool true := by rw [← ha1]; exact (putsL_in2 _ _ _ _ (by decide) (show 18 < 48 from by decide)).trans (hdep 1 (by kernel_rfl))
          exact wpOp_val rfl rfl (v := .bool false) (w' := W) (by simp [execOp, go_sem, E18]) ⟨hIW, fun _ h => h, Or.inl ⟨_, by decide, rfl, updF_same _ _ _⟩⟩
        | 3, _, hdep =>
          have E19 : a1.tmps[19]?.getD undef = .bool false := by rw [← ha1]; exact (putsL_in2 _ _ _ _ (by decide) (show 19 < 48 from by decide)).trans (hdep 2 (by kernel_rfl))
          exact wpOp_val rfl rfl (v := .bool false) (w' := W) (by simp [execOp, go_sem, E19]) ⟨hIW, fun _ h => h, Or.inl ⟨_, by decide, rfl, updF_same _ _ _⟩⟩
        | 4, _, hdep =>
          have G3 : a1.tmps[20]? = some (.bool false) := by rw [← ha1]; exact (putsL_some _ _ _ _ (by decide) (show 20 < 48 from by decide)).trans (congrArg some (hdep 3 (by kernel_rfl)))
          have E7 : a1.tmps[7]?.getD undef = .int .i64 (n : Int) := by rw [← ha1]; exact (putsL_out2 _ _ _ _ (by decide)).trans rfl
          exact wpOp_valG rfl rfl (yielded_of rfl G3) (v := .int .i64 (n : Int)) (w' := W) (by simp [execOp, go_sem, E7]) ⟨hIW, fun _ h => h, Or.inl ⟨_, by decide, rfl, updF_same _ _ _⟩⟩
        | 5, _, hdep =>
          have G3 : a1.tmps[20]? = some (.bool false) := by rw [← ha1]; exact (putsL_some _ _ _ _ (by decide) (show 20 < 48 from by decide)).trans (congrArg some (hdep 3 (by kernel_rfl)))
          have E21 : a1.tmps[21]?.getD undef = .int .i64 (n : Int) := by rw [← ha1]; exact (putsL_in2 _ _ _ _ (by decide) (show 21 < 48 from by decide)).trans (hdep 4 (by kernel_rfl))
          exact wpOp_valG rfl rfl (yielded_of rfl G3) (v := .bool true) (w' := W) (by simp [execOp, go_sem, E21, hkz, hkt]) ⟨hIW, fun _ h => h, Or.inl ⟨_, by decide, rfl, updF_same _ _ _⟩⟩
        | 6, _, hdep =>
          have G3 : a1.tmps[20]? = some (.bool false) := by rw [← ha1]; exact (putsL_some _ _ _ _ (by decide) (show 20 < 48 from by decide)).trans (congrArg some (hdep 3 (by kernel_rfl)))
          have E22 : a1.tmps[22]?.getD undef = .bool true := by rw [← ha1]; exact (putsL_in2 _ _ _ _ (by decide) (show 22 < 48 from by decide)).trans (hdep 5 (by kernel_rfl))
          exact wpOp_valG rfl rfl (yielded_of rfl G3) (v := .bool true) (w' := W) (by simp [execOp, go_sem, E22]) ⟨hIW, fun _ h => h, Or.inl ⟨_, by decide, rfl, updF_same _ _ _⟩⟩
        | 7, _, hdep =>
          have G6 : a1.tmps[23]? = some (.bool true) := by rw [← ha1]; exact (putsL_some _ _ _ _ (by decide) (show 23 < 48 from by decide)).trans (congrArg some (hdep 6 (by kernel_rfl)))
          have E3 : a1.tmps[3]?.getD undef = .pointer (some ⟨bC, 0, none⟩) := by rw [← ha1]; exact (putsL_out2 _ _ _ _ (by decide)).trans rfl
          exact wpOp_valG rfl rfl (yielded_of rfl G6) (v := .pointer (some ⟨bC, 1, none⟩)) (w' := W) (by simp [execOp, go_sem, E3]) ⟨hIW, fun _ h => h, Or.inl ⟨_, by decide, rfl, updF_same _ _ _⟩⟩
        | 8, _, hdep =>
          have G6 : a1.tmps[23]? = some (.bool true) := by rw [← ha1]; exact (putsL_some _ _ _ _ (by decide) (show 23 < 48 from by decide)).trans (congrArg some (hdep 6 (by kernel_rfl)))
          have E24 : a1.tmps[24]?.getD undef = .pointer (some ⟨bC, 1, none⟩) := by rw [← ha1]; exact (putsL_in2 _ _ _ _ (by decide) (show 24 < 48 from by decide)).trans (hdep 7 (by kernel_rfl))
          have v1 : W.cell? ⟨bC, 1, none⟩ = some (.int .i64 cf) := by simpa using HME.out W hIW 1
          exact wpOp_valG rfl rfl (yielded_of rfl G6) (v := .int .i64 cf) (w' := W) (by simp [execOp, go_sem, E24, v1]) ⟨hIW, fun _ h => h, Or.inl ⟨_, by decide, rfl, updF_same _ _ _⟩⟩
        | 9, _, hdep =>
          have G6 : a1.tmps[23]? = some (.bool true) := by rw [← ha1]; exact (putsL_some _ _ _ _ (by decide) (show 23 < 48 from by decide)).trans (congrArg some (hdep 6 (by kernel_rfl)))
          have E2 : a1.tmps[2]?.getD undef = .pointer (some ⟨bH, 0, none⟩) := by rw [← ha1]; exact (putsL_out2 _ _ _ _ (by decide)).trans rfl
          exact wpOp_valG rfl rfl (yielded_of rfl G6) (v := .pointer (some ⟨bH, 2, none⟩)) (w' := W) (by simp [execOp, go_sem, E2]) ⟨hIW, fun _ h => h, Or.inl ⟨_, by decide, rfl, updF_same _ _ _⟩⟩
        | 10, _, hdep =>
          have G6 : a1.tmps[23]? = some (.bool true) := by rw [← ha1]; exact (putsL_some _ _ _ _ (by decide) (show 23 < 48 from by decide)).trans (congrArg some (hdep 6 (by kernel_rfl)))
          have E26 : a1.tmps[26]?.getD undef = .pointer (some ⟨bH, 2, none⟩) := by rw [← ha1]; exact (putsL_in2 _ _ _ _ (by decide) (show 26 < 48 from by decide)).trans (hdep 9 (by kernel_rfl))
          have v2 : W.cell? ⟨bH, 2, none⟩ = some (.slice (some ⟨b, o, none⟩) n cc) := by simpa using HMH.out W hIW 2
          exact wpOp_valG rfl rfl (yielded_of rfl G6) (v := .slice (some ⟨b, o, none⟩) n cc) (w' := W) (by simp [execOp, go_sem, E26, v2]) ⟨hIW, fun _ h => h, Or.inl ⟨_, by decide, rfl, updF_same _ _ _⟩⟩
        | 11, _, hdep =>
          have G6 : a1.tmps[23]? = some (.bool true) := by rw [← ha1]; exact (putsL_some _ _ _ _ (by decide) (show 23 < 48 from by decide)).trans (congrArg some (hdep 6 (by kernel_rfl)))
          have E7 : a1.tmps[7]?.getD undef = .int .i64 (n : Int) := by rw [← ha1]; exact (putsL_out2 _ _ _ _ (by decide)).trans rfl
          exact wpOp_valG rfl rfl (yielded_of rfl G6) (v := .int .i64 (n : Int)) (w' := W) (by simp [execOp, go_sem, E7]) ⟨hIW, fun _ h => h, Or.inl ⟨_, by decide, rfl, updF_same _ _ _⟩⟩
        | 12, _, hdep =>
          have G6 : a1.tmps[23]? = some (.bool true) := by rw [← ha1]; exact (putsL_some _ _ _ _ (by decide) (show 23 < 48 from by decide)).trans (congrArg some (hdep 6 (by kernel_rfl)))
          have E28 : a1.tmps[28]?.getD undef = .int .i64 (n : Int) := by rw [← ha1]; exact (putsL_in2 _ _ _ _ (by decide) (show 28 < 48 from by decide)).trans (hdep 11 (by kernel_rfl))
          exact wpOp_valG rfl rfl (yielded_of rfl G6) (v := .int .i64 (j : Int)) (w' := W) (by simp [execOp, go_sem, E28, hwj]) ⟨hIW, fun _ h => h, Or.inl ⟨_, by decide, rfl, updF_same _ _ _⟩⟩
        | 13, _, hdep =>
          have G6 : a1.tmps[23]? = some (.bool true) := by rw [← ha1]; exact (putsL_some _ _ _ _ (by decide) (show 23 < 48 from by decide)).trans (congrArg some (hdep 6 (by kernel_rfl)))
          have E27 : a1.tmps[27]?.getD undef = .slice (some ⟨b, o, none⟩) n cc := by rw [← ha1]; exact (putsL_in2 _ _ _ _ (by decide) (show 27 < 48 from by decide)).trans (hdep 10 (by kernel_rfl))
          have E29 : a1.tmps[29]?.getD undef = .int .i64 (j : Int) := by rw [← ha1]; exact (putsL_in2 _ _ _ _ (by decide) (show 29 < 48 from by decide)).trans (hdep 12 (by kernel_rfl))
          exact wpOp_valG rfl rfl (yielded_of rfl G6) (v := .pointer (some ⟨b, o + j * 3, none⟩)) (w' := W) (by simp [execOp, go_sem, E27, E29, hj0, hj1]) ⟨hIW, fun _ h => h, Or.inl ⟨_, by decide, rfl, updF_same _ _ _⟩⟩
        | 14, _, hdep =>
          have G6 : a1.tmps[23]? = some (.bool true) := by rw [← ha1]; exact (putsL_some _ _ _ _ (by decide) (show 23 < 48 from by decide)).trans (congrArg some (hdep 6 (by kernel_rfl)))
          have E30 : a1.tmps[30]?.getD undef = .pointer (some ⟨b, o + j * 3, none⟩) := by rw [← ha1]; exact (putsL_in2 _ _ _ _ (by decide) (show 30 < 48 from by decide)).trans (hdep 13 (by kernel_rfl))
          exact wpOp_valG rfl rfl (yielded_of rfl G6) (v := .pointer (some ⟨b, o + j * 3 + 1, none⟩)) (w' := W) (by simp [execOp, go_sem, E30]) ⟨hIW, fun _ h => h, Or.inl ⟨_, by decide, rfl, updF_same _ _ _⟩⟩
        | 15, _, hdep =>
          have G6 : a1.tmps[23]? = some (.bool true) := by rw [← ha1]; exact (putsL_some _ _ _ _ (by decide) (show 23 < 48 from by decide)).trans (congrArg some (hdep 6 (by kernel_rfl)))
          have E31 : a1.tmps[31]?.getD undef = .pointer (some ⟨b, o + j * 3 + 1, none⟩) := by rw [← ha1]; exact (putsL_in2 _ _ _ _ (by decide) (show 31 < 48 from by decide)).trans (hdep 14 (by kernel_rfl))
          have v32 := HPV.out W hIW
          exact wpOp_valG rfl rfl (yielded_of rfl G6) (v := .int .i64 pf) (w' := W) (by simp [execOp, go_sem, E31, v32]) ⟨hIW, fun _ h => h, Or.inl ⟨_, by decide, rfl, updF_same _ _ _⟩⟩
        | 16, _, hdep =>
          have G6 : a1.tmps[23]? = some (.bool true) := by rw [← ha1]; exact (putsL_some _ _ _ _ (by decide) (show 23 < 48 from by decide)).trans (congrArg some (hdep 6 (by kernel_rfl)))
          have E25 : a1.tmps[25]?.getD undef = .int .i64 cf := by rw [← ha1]; exact (putsL_in2 _ _ _ _ (by decide) (show 25 < 48 from by decide)).trans (hdep 8 (by kernel_rfl))
          have E32 : a1.tmps[32]?.getD undef = .int .i64 pf := by rw [← ha1]; exact (putsL_in2 _ _ _ _ (by decide) (show 32 < 48 from by decide)).trans (hdep 15 (by kernel_rfl))
          exact wpOp_valG rfl rfl (yielded_of rfl G6) (v := .bool false) (w' := W) (by simp [execOp, go_sem, E25, E32, hfp]) ⟨hIW, fun _ h => h, Or.inl ⟨_, by decide, rfl, updF_same _ _ _⟩⟩
        | 17, _, hdep =>
          have G3 : a1.tmps[20]? = some (.bool false) := by rw [← ha1]; exact (putsL_some _ _ _ _ (by decide) (show 20 < 48 from by decide)).trans (congrArg some (hdep 3 (by kernel_rfl)))
          have E23 : a1.tmps[23]?.getD undef = .bool true := by rw [← ha1]; exact (putsL_in2 _ _ _ _ (by decide) (show 23 < 48 from by decide)).trans (hdep 6 (by kernel_rfl))
          have E33 : a1.tmps[33]?.getD undef = .bool false := by rw [← ha1]; exact (putsL_in2 _ _ _ _ (by decide) (show 33 < 48 from by decide)).trans (hdep 16 (by kernel_rfl))
          exact wpOp_valG rfl rfl (yielded_of rfl G3) (v := .bool false) (w' := W) (by simp [execOp, go_sem, E23, E33]) ⟨hIW, fun _ h => h, Or.inl ⟨_, by decide, rfl, updF_same _ _ _⟩⟩
        | 18, _, hdep =>
          have E20 : a1.tmps[20]?.getD undef = .bool false := by rw [← ha1]; exact (putsL_in2 _ _ _ _ (by decide) (show 20 < 48 from by decide)).trans (hdep 3 (by kernel_rfl))
          have E34 : a1.tmps[34]?.getD undef = .bool false := by rw [← ha1]; exact (putsL_in2 _ _ _ _ (by decide) (show 34 < 48 from by decide)).trans (hdep 17 (by kernel_rfl))
          exact wpOp_val rfl rfl (v := .bool false) (w' := W) (by simp [execOp, go_sem, E20, E34]) ⟨hIW, fun _ h => h, Or.inl ⟨_, by decide, rfl, updF_same _ _ _⟩⟩
        | iq + 19, h, _ => exact absurd h (by omega)
      case refine_2 =>
        intro f W hIW hR
        have h35 : f 35 = .bool false := hR 18 (show 18 < 19 from by decide)
        simp only [putsL, List.foldl_cons, List.foldl_nil, Act.put, List.setIfInBounds_toArray, List.set_cons_zero, List.set_cons_succ]
        go_wp2
        go_meet
        exact ⟨(by first | exact h35 | rfl), Lib.hid hIW⟩
  case rest =>
    obtain ⟨rfl, HJX⟩ := hcut
    have HEO : Hid (∀ u ∈ ([.int .i64 cy, .int .i64 cf, sc] : List Value), u.oneCell' = true) := Lib.hid fun u hu => by
      simp only [List.mem_cons, List.mem_nil_iff, or_false] at hu
      rcases hu with rfl | rfl | rfl
      · rfl
      · rfl
      · exact HSO.out
    go_upto_region 9 with fail
    obtain ⟨P, hP⟩ : ∃ P : Nat → Value → World → Prop, P = fun j v W => match j with | 0 => (v = .pointer (some ⟨bH, 2, none⟩)) | 1 => (v = .slice ac n cc) | 2 => (∃ cv, v = cv ∧ W.ownsRow w2.heap.size 49 3 cv (n) (CL)) | 3 => (v = .agg #[.int .i64 cy, .int .i64 cf, sc]) | 4 => (∃ bq, v = .slice (some ⟨bq, 0, none⟩) 1 1 ∧ W.heap[bq]? = some (.cells #[.int .i64 cy, .int .i64 cf, sc] 49 (0, 0))) | _ => True := ⟨_, rfl⟩
    have HPI0 : Hid (∀ v W, P 0 v W ↔ (v = .pointer (some ⟨bH, 2, none⟩))) := Lib.hid fun v W => by rw [hP] <;> exact Iff.rfl
    have HPI1 : Hid (∀ v W, P 1 v W ↔ (v = .slice ac n cc)) := Lib.hid fun v W => by rw [hP] <;> exact Iff.rfl
    have HPI2 : Hid (∀ v W, P 2 v W ↔ (∃ cv, v = cv ∧ W.ownsRow w2.heap.size 49 3 cv (n) (CL))) := Lib.hid fun v W => by rw [hP] <;> exact Iff.rfl
    have HPI3 : Hid (∀ v W, P 3 v W ↔ (v = .agg #[.int .i64 cy, .int .i64 cf, sc])) := Lib.hid fun v W => by rw [hP] <;> exact Iff.rfl
    have HPI4 : Hid (∀ v W, P 4 v W ↔ (∃ bq, v = .slice (some ⟨bq, 0, none⟩) 1 1 ∧ W.heap[bq]? = some (.cells #[.int .i64 cy, .int .i64 cf, sc] 49 (0, 0)))) := Lib.hid fun v W => by rw [hP] <;> exact Iff.rfl
    have HKP : Hid (∀ (j : Nat) v W W', Below W.heap.size W W' → P j v W → P j v W') := Lib.hid (by
      rw [hP]
      intro j v W W' hb h
      match j, h with
      | 0, h => exact h
      | 1, h => exact h
      | 2, ⟨cv, e, s0⟩ => exact ⟨cv, e, ownsRow_below s0 hb⟩
      | 3, h => exact h
      | 4, ⟨bq, e, s0⟩ => exact ⟨bq, e, obj_below s0 hb⟩
      | j + 5, _ => trivial)
    clear hP
    refine wp_region_tail [40, 41, 42, 43, 44, 45, 46] (slotS [40, 41, 42, 43, 44]) (readsS [40, 41, 42, 43, 44]) (RP [40, 41, 42, 43, 44] P) J (fun k f W => match k with | 0 => (∃ (cv : Value) (bq : Nat), f 42 = cv ∧ f 44 = .slice (some ⟨bq, 0, none⟩) 1 1 ∧ J W ∧ W.ownsRow w2.heap.size 49 3 cv (n) (CL) ∧ W.heap[bq]? = some (.cells #[.int .i64 cy, .int .i64 cf, sc] 49 (0, 0))) | 1 => (∃ uq : Value, f 45 = uq ∧ J W ∧ W.ownsRow w2.heap.size 49 3 uq (n + 1) (CL ++ [.int .i64 cy, .int .i64 cf, sc])) | 2 => (∃ uq : Value, f 45 = uq ∧ f 46 = .pointer (some ⟨bH, 2, none⟩) ∧ J W ∧ W.ownsRow w2.heap.size 49 3 uq (n + 1) (CL ++ [.int .i64 cy, .int .i64 cf, sc])) | _ => (∃ uq : Value, Below w.heap.size w W ∧ J2 W ∧ W.heap[bH]? = some (.cells #[.slice al nl cl, .slice ap np cp, uq] 31 (0, 0)) ∧ W.ownsRow w2.heap.size 49 3 uq (n + 1) (CL ++ [.int .i64 cy, .int .i64 cf, sc]))) 5 8 (by decide) (by kernel_rfl) (by kernel_rfl) (by kernel_rfl) (by kernel_rfl) (HJD.out _ HJX.out) (fun j f q v W hq h => RP.upd hq h) ?_ ?_ ?_ ?_
    case refine_1 =>
      intro iq hiq f W hIW hdep0
      have hdep : ∀ j, depB _ iq j = true → P j (f (slotS [40, 41, 42, 43, 44] j)) W := hdep0
      clear hdep0
      generalize ha1 : putsL _ [40, 41, 42, 43, 44, 45, 46] f = a1
      match iq, hiq, hdep with
      | 0, _, hdep0 =>
        have E2 : a1.tmps[2]?.getD undef = .pointer (some ⟨bH, 0, none⟩) := by rw [← ha1]; exact (putsL_out2 _ _ _ _ (by decide)).trans rfl
        exact wpOp_val rfl rfl (v := .pointer (some ⟨bH, 2, none⟩)) (w' := W) (by simp [execOp, go_sem, E2]) ⟨hIW, fun _ h => h, _, by decide, rfl, RP.set ((HPI0.out _ _).2 rfl)⟩
      | 1, _, hdep0 =>
        have hd0 := (HPI0.out _ _).1 (hdep0 0 (by kernel_rfl))
        have E40 : a1.tmps[40]?.getD undef = .pointer (some ⟨bH, 2, none⟩) := by rw [← ha1]; exact (putsL_in2 _ _ _ _ (by decide) (show 40 < 48 from by decide)).trans hd0
        have v2 : W.cell? ⟨bH, 2, none⟩ = some (.slice ac n cc) := by simpa using HMH.out W hIW 2
        exact wpOp_val rfl rfl (v := .slice ac n cc) (w' := W) (by simp [execOp, go_sem, E40, v2]) ⟨hIW, fun _ h => h, _, by decide, rfl, RP.set ((HPI1.out _ _).2 rfl)⟩
      | 2, _, hdep0 =>
        have hd1 := (HPI1.out _ _).1 (hdep0 1 (by kernel_rfl))
        have E41 : a1.tmps[41]?.getD undef = .slice ac n cc := by rw [← ha1]; exact (putsL_in2 _ _ _ _ (by decide) (show 41 < 48 from by decide)).trans hd1
        refine wpOp_fresh rfl rfl (.const (.slice none 0 0)) (.tmp 41) 29 rfl w2.heap.size 49 i0 (.agg #[.int .i64 0, .int .i64 0, .slice none 0 0]) 3 40 Try.underlying29 hi0 hz0 hz1 hz2 rfl (by decide) rfl ac (n) cc CL ?_ HCLN.out (HNW.out W hIW) HONE.out (by unfold maxLen; omega) (by omega) (HJO.out W hIW).size ?_
        · show a1.tmps.getD 41 undef = _
          rw [Array.getD_eq_getD_getElem?]
          exact E41
        · intro v' w' h2 h3
          have hb' : Below W.heap.size W w' := (Below.refl _ W).grown h3 (Nat.le_refl _) (fun j e => by cases e)
          have hJ' : J w' := HJI.out _ ((HJO.out W hIW).trans (hb'.mono (HJO.out W hIW).size))
          exact ⟨hJ', fun j h => HKP.out j _ _ _ hb' h, _, by decide, rfl, RP.set ((HPI2.out _ _).2 ⟨_, rfl, h2⟩)⟩
      | 3, _, hdep0 =>
        have E3 : a1.tmps[3]?.getD undef = .pointer (some ⟨bC, 0, none⟩) := by rw [← ha1]; exact (putsL_out2 _ _ _ _ (by decide)).trans rfl
        have v0 : W.cell? ⟨bC, 0, none⟩ = some (.int .i64 cy) := by simpa using HME.out W hIW 0
        have v1 : W.cell? ⟨bC, 1, none⟩ = some (.int .i64 cf) := by simpa using HME.out W hIW 1
        have v2 : W.cell? ⟨bC, 2, none⟩ = some (sc) := by simpa using HME.out W hIW 2
        exact wpOp_val rfl rfl (v := .agg #[.int .i64 cy, .int .i64 cf, sc]) (w' := W) (by simp [execOp, go_sem, E3, v0, v1, v2]) ⟨hIW, fun _ h => h, _, by decide, rfl, RP.set ((HPI3.out _ _).2 rfl)⟩
      | 4, _, hdep0 =>
        have hd3 := (HPI3.out _ _).1 (hdep0 3 (by kernel_rfl))
        have E43 : a1.tmps[43]?.getD undef = .agg #[.int .i64 cy, .int .i64 cf, sc] := by rw [← ha1]; exact (putsL_in2 _ _ _ _ (by decide) (show 43 < 48 from by decide)).trans hd3
        exact wpOp_val rfl rfl (v := .slice (some ⟨W.heap.size, 0, none⟩) 1 1) (w' := W.alloc (.cells #[.int .i64 cy, .int .i64 cf, sc] 49)) (by simp [execOp, go_sem, E43]) ⟨(HJA.out _ _ hIW), fun j h => HKP.out j _ _ _ (below_alloc _ _) h, _, by decide, rfl, RP.set ((HPI4.out _ _).2 ⟨_, rfl, heap_alloc_new _ _⟩)⟩
      | iq + 5, h, _ => exact absurd h (by omega)
    case refine_2 =>
      intro f W hIW hR
      have h42 := (HPI2.out _ _).1 (hR 2 (by decide))
      have h44 := (HPI4.out _ _).1 (hR 4 (by decide))
      obtain ⟨cv, h51, hown⟩ := h42
      obtain ⟨bq, h53, hbq⟩ := h44
      exact ⟨cv, bq, h51, h53, hIW, hown, hbq⟩
    case refine_3 =>
      intro iq hsq hiq f W hIt0
      have hiq2 : iq < 8 := hiq
      have hIt := hIt0
      clear hIt0
      rcases (show iq = 5 ∨ iq = 6 ∨ iq = 7 by omega) with rfl | rfl | rfl
      · clear hsq hiq hiq2
        obtain ⟨cv, bq, h46, h48, hIW, hown, hbq⟩ := hIt
        refine wpOp_append rfl rfl (.tmp 42) (.tmp 44) 29 rfl w2.heap.size 49 i0 (.agg #[.int .i64 0, .int .i64 0, .slice none 0 0]) 3 40 Try.underlying29 hi0 hz0 hz1 hz2 rfl (by decide) cv (n) CL ?_ hown ⟨bq, 0, none⟩ 1 1 [.int .i64 cy, .int .i64 cf, sc] ?_ rfl (obj_new_cells hbq) (HEO.out) (by unfold maxLen; omega) (by omega) (HJO.out W hIW).size ?_
        · exact (putsL_in _ _ _ _ (by decide) (show 42 < 48 from by decide)).trans h46
        · exact (putsL_in _ _ _ _ (by decide) (show 44 < 48 from by decide)).trans h48
        · intro v' w' h2 h3
          have hnew : ∃ uq : Value, updF f 45 v' 45 = uq ∧ J w' ∧ w'.ownsRow w2.heap.size 49 3 uq (n + 1) (CL ++ [.int .i64 cy, .int .i64 cf, sc]) := ⟨v', updF_same _ _ _, HJI.out _ ((HJO.out W hIW).grown h3 (HJO.out W hIW).size fun j e => ownBlock_le hown j e), h2⟩
          exact ⟨updF f 45 v', putsL_put _ _ _ _ _ (by decide), hnew⟩
      · clear hsq hiq hiq2
        obtain ⟨u, h49, hIW, hown⟩ := hIt
        generalize ha1 : putsL _ [40, 41, 42, 43, 44, 45, 46] f = a1
        have EH : a1.tmps[2]?.getD undef = .pointer (some ⟨bH, 0, none⟩) := by rw [← ha1]; exact (putsL_out2 _ _ _ _ (by decide)).trans rfl
        have hnew : ∃ uq : Value, updF f 46 (.pointer (some ⟨bH, 2, none⟩)) 45 = uq ∧ updF f 46 (.pointer (some ⟨bH, 2, none⟩)) 46 = .pointer (some ⟨bH, 2, none⟩) ∧ J W ∧ W.ownsRow w2.heap.size 49 3 uq (n + 1) (CL ++ [.int .i64 cy, .int .i64 cf, sc]) := ⟨u, (updF_other _ _ (by decide)).trans h49, updF_same _ _ _, hIW, hown⟩
        exact wpOp_val rfl rfl (v := .pointer (some ⟨bH, 2, none⟩)) (w' := W) (by simp [execOp, go_sem, EH]) ⟨updF f 46 (.pointer (some ⟨bH, 2, none⟩)), by rw [← ha1]; exact putsL_put _ _ _ _ _ (by decide), hnew⟩
      · clear hsq hiq hiq2
        obtain ⟨u, h50, h51, hIW, hown⟩ := hIt
        obtain ⟨au, cu, rfl, -, -⟩ := owns_gen hown
        generalize ha1 : putsL _ [40, 41, 42, 43, 44, 45, 46] f = a1
        have E45 : a1.tmps[45]?.getD undef = .slice au (n + 1) cu := by rw [← ha1]; exact (putsL_in2 _ _ _ _ (by decide) (show 45 < 48 from by decide)).trans h50
        have E46 : a1.tmps[46]?.getD undef = .pointer (some ⟨bH, 2, none⟩) := by rw [← ha1]; exact (putsL_in2 _ _ _ _ (by decide) (show 46 < 48 from by decide)).trans h51
        have hR := HMR.out W hIW
        have p0 := obj_cell hR 2
        have f0 := obj_free hR 2
        simp at p0
        have hg : W.grownBy (W.setCell ⟨bH, 2, none⟩ (.slice au (n + 1) cu)) (some bH) := setCell_grown _ _
        have hset := obj_set hR 2 (.slice au (n + 1) cu)
        simp only [List.setIfInBounds_toArray, List.set_cons_zero, List.set_cons_succ] at hset
        have hnew : ∃ uq : Value, Below w.heap.size w (W.setCell ⟨bH, 2, none⟩ (.slice au (n + 1) cu)) ∧ J2 (W.setCell ⟨bH, 2, none⟩ (.slice au (n + 1) cu)) ∧ (W.setCell ⟨bH, 2, none⟩ (.slice au (n + 1) cu)).heap[bH]? = some (.cells #[.slice al nl cl, .slice ap np cp, uq] 31 (0, 0)) ∧ (W.setCell ⟨bH, 2, none⟩ (.slice au (n + 1) cu)).ownsRow w2.heap.size 49 3 uq (n + 1) (CL ++ [.int .i64 cy, .int .i64 cf, sc]) := ⟨_, (HB2.out.trans ((HJO.out W hIW).mono HB2.out.size)).grown hg (HB2.out.trans ((HJO.out W hIW).mono HB2.out.size)).size (fun j e => by injection e with e; have := HBHL.out; omega), HJ2.out _ _ hIW, hset, hown.kept hg (ownBlock_ne hown _ hrb)⟩
        exact wpOp_skip rfl rfl (w' := W.setCell ⟨bH, 2, none⟩ (.slice au (n + 1) cu)) (by simp [execOp, go_sem, E45, E46, p0, f0]) ⟨f, ha1.symm, hnew⟩
    case refine_4 =>
      intro f W hIt
      simp only [putsL, List.foldl_cons, List.foldl_nil, Act.put, List.setIfInBounds_toArray, List.set_cons_zero, List.set_cons_succ]
      obtain ⟨u, hbw, hj2, hset, hown⟩ := hIt
      obtain ⟨au, cu, rfl, -, -⟩ := owns_gen hown
      have HRS := Lib.hid (HJ2O.out _ hj2)
      have HBW := Lib.hid hbw
      have HOW := Lib.hid hown
      have hre := HRS.out
      have p0 := obj_cell hset 0
      have p1 := obj_cell hset 1
      have p2 := obj_cell hset 2
      simp at p0 p1 p2
      have r0 := obj_cell hre 0
      have r1 := obj_cell hre 1
      have r2 := obj_cell hre 2
      simp at r0 r1 r2
      have fr0 := obj_free hre 0
      have fr1 := obj_free hre 1
      have fr2 := obj_free hre 2
      clear hset hre hj2 hbw hown
      go_wp2
      refine ret3 HRS.out rfl _ _ _ (v := .tuple #[.agg #[.slice al nl cl, .slice ap np cp, .slice au (n + 1) cu], .int .i64 0]) (fun F hF => ?_) rfl ⟨_, rfl, ⟨RS, ?_, HFN.out _ (put3_below HBW.out HBHL.out.2.1 _ _ _)⟩, put3_below HBW.out HBHL.out.2.1 _ _ _⟩
      · have q0 := obj_cell hF 0
        have q1 := obj_cell hF 1
        have q2 := obj_cell hF 2
        simp at q0 q1 q2
        simp [results, Try.results25, go_sem, q0, q1, q2]
      · unfold ListAt
        rw [HLEN.out, ← HSN.out]
        exact RowG.owns (HOW.out.kept (put3_grown2 _ _ _ _ _) (ownBlock_ne HOW.out _ HBRL.out))

end Go.Proofs.Ytoccnindkimjdaa
