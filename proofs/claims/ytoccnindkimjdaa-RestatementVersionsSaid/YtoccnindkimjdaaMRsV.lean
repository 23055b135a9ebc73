/- The package's Correct of right histories. -/
import Derived.Test.YtoccnindkimjdaaMRsU
set_option linter.unusedSimpArgs false
set_option linter.unusedVariables false
set_option linter.unusedSimpArgs false
set_option linter.unusedVariables false
namespace Go.Proofs.Ytoccnindkimjdaa
open Go.RowKit Go.Lib Go.Proofs

set_option maxRecDepth 100000 in
set_option maxHeartbeats 16000000 in
theorem rsCorrect_ok {h : Hst} (hh : HstOk h) {c : Cor} (hc : CorOk c) (hfl : lastF h.cors ≤ c.fnd) (hcn : h.cors.length < 20) (vl vp vc : Value) (sx : Sli) (w : World) (ha : HstAt w vl vp vc h) (hs : PstsAt w sx.v c.ps) :
    Calls Try.prog 17 #[.agg #[vl, vp, vc], .agg #[.int .i64 c.yr, .int .i64 c.fnd, sx.v]] w fun e w' => ∃ ul up uc, e = .returned (.tuple #[.agg #[ul, up, uc], .int .i64 0]) ∧ HstAt w' ul up uc ⟨h.led, h.pres, h.cors ++ [c]⟩ ∧ Below w.heap.size w w' := by
  obtain ⟨i0, hi0, hz0, hz1, hz2⟩ := info_parts Try.infoRsCor
  have HCK := Lib.hid (fun W (hW : Below w.heap.size w W) => rsCheck_right hh vl vp vc W (ha.below hW))
  have HCP := Lib.hid (fun W (hW : Below w.heap.size w W) => rscopyOf_ok hh vl vp vc W (ha.below hW))
  have hnew := hh.addC hc hfl hcn
  have HRC0 := Lib.hid (fun (v : Value) (W : World) => rsrightCorrections_ok (C := h.cors ++ [c]) (by have := hnew.nc; simp only at this; omega) hnew.cor hnew.asc v W)
  have hpl := hc.len
  obtain ⟨L, PS, C⟩ := h
  obtain ⟨x0, x1, ps⟩ := c
  obtain ⟨xa, pn', xc⟩ := sx
  obtain ⟨xa', xc', e1, -, -⟩ := hs.shape pstF
  simp only [Sli.v] at e1 hs HCK HCP HRC0 hcn hpl ⊢
  injection e1 with ea e2 ec
  subst e2
  clear ea ec
  have HCC1 := Lib.hid (fun W (hW : Below w.heap.size w W) => rscopyOfCorrection_ok (by omega : ps.length ≤ 1000) x0 x1 _ W (ListAt.below hs hW))
  obtain ⟨al, ap, ac, cl, cp, cc, rfl, rfl, rfl⟩ := ha.parts
  simp only at HCK HCP ⊢
  obtain ⟨pn, hpn⟩ : ∃ q, q = ps.length := ⟨_, rfl⟩
  obtain ⟨PSC, hPSC⟩ : ∃ q, q = cellsL pstC ps := ⟨_, rfl⟩
  obtain ⟨k, hk⟩ : ∃ q, q = C.length := ⟨_, rfl⟩
  obtain ⟨nl, hnl⟩ : ∃ q, q = L.length := ⟨_, rfl⟩
  obtain ⟨np, hnp⟩ : ∃ q, q = PS.length := ⟨_, rfl⟩
  have HRC : Hid (∀ (base : Nat) (v : Value) (RS : List Crr) (W : World), W.ownsRow base 49 3 v (k + 1) (cellsL crrC RS) → CorsW W base RS (C ++ [⟨x0, x1, ps⟩]) → Calls Try.prog 27 #[v] W fun e w' => e = .returned (.bool true) ∧ Below W.heap.size W w') := Lib.hid fun base v RS W h1 h2 => by
    refine HRC0.out v W ⟨RS, ?_, h2.R⟩
    unfold ListAt
    rw [h2.len, List.length_append, List.length_singleton, ← hk]
    exact RowG.owns h1
  have HFN : Hid (∀ (base : Nat) (W : World) (ul up uc : Value) (RS : List Crr), W.ownsRow base 55 8 ul L.length (cellsL pstC L) → W.ownsRow base 40 7 up PS.length (cellsL prsC PS) → CorsW W base RS (C ++ [⟨x0, x1, ps⟩]) → W.ownsRow base 49 3 uc (k + 1) (cellsL crrC RS) → HstAt W ul up uc ⟨L, PS, C ++ [⟨x0, x1, ps⟩]⟩) := Lib.hid fun base W ul up uc RS h1 h2 h3 h4 => by
    refine ⟨psts_owns h1, ?_, RS, ?_, h3.R⟩
    · unfold ListAt
      exact RowG.owns h2
    · unfold ListAt
      rw [h3.len, List.length_append, List.length_singleton, ← hk]
      exact RowG.owns h4
  rw [← hpn, ← hPSC] at HCC1
  rw [← hpn]
  rw [← hk, ← hnl, ← hnp] at HCP HCK ⊢
  rw [← hk] at hcn
  have HPN := Lib.hid hpn
  have HPSC := Lib.hid hPSC
  have HK0 := Lib.hid hk
  clear hpn hPSC hk hnl hnp hpl hs ha hh hc hfl hnew HRC0
  obtain ⟨wa, hwa⟩ : ∃ w0, w0 = ((w.alloc (.cells #[.slice al nl cl, .slice ap np cp, .slice ac k cc] 31)).alloc (.cells #[.int .i64 x0, .int .i64 x1, .slice xa pn xc] 49)).alloc (.cells #[.slice none 0 0, .slice none 0 0, .slice none 0 0] 31) := ⟨_, rfl⟩
  obtain ⟨bH, hbH⟩ : ∃ b, b = w.heap.size := ⟨_, rfl⟩
  obtain ⟨bX, hbX⟩ : ∃ b, b = w.heap.size + 1 := ⟨_, rfl⟩
  obtain ⟨bR, hbR⟩ : ∃ b, b = w.heap.size + 2 := ⟨_, rfl⟩
  have HHA : Hid (wa.heap[bH]? = some (.cells #[.slice al nl cl, .slice ap np cp, .slice ac k cc] 31 (0, 0))) := Lib.hid (by rw [hwa, hbH]; exact obj_below (alloc1_at w _ _) (below_alloc _ _))
  have HXA : Hid (wa.heap[bX]? = some (.cells #[.int .i64 x0, .int .i64 x1, .slice xa pn xc] 49 (0, 0))) := Lib.hid (by rw [hwa, hbX]; exact obj_below (alloc2_at w _ _) (below_alloc _ _))
  have HRA : Hid (wa.heap[bR]? = some (.cells #[.slice none 0 0, .slice none 0 0, .slice none 0 0] 31 (0, 0))) := Lib.hid (by
    rw [hwa, hbR]
    have := heap_alloc_new ((w.alloc (.cells #[.slice al nl cl, .slice ap np cp, .slice ac k cc] 31)).alloc (.cells #[.int .i64 x0, .int .i64 x1, .slice xa pn xc] 49)) (.cells #[.slice none 0 0, .slice none 0 0, .slice none 0 0] 31)
    rw [show ((w.alloc (.cells #[.slice al nl cl, .slice ap np cp, .slice ac k cc] 31)).alloc (.cells #[.int .i64 x0, .int .i64 x1, .slice xa pn xc] 49)).heap.size = w.heap.size + 2 by simp] at this
    exact this)
  have HBA : Hid (Below w.heap.size w wa) := Lib.hid (by rw [hwa]; exact (below2 w _ _).trans ((below_alloc _ _).mono (below2 w _ _).size))
  have HLR : Hid (w.heap.size ≤ bR) := Lib.hid (by omega)
  have HWA := Lib.hid hwa
  have HBH := Lib.hid hbH
  have HBX := Lib.hid hbX
  have HBR := Lib.hid hbR
  have hbx := HHA.out
  have ub0 := obj_cell hbx 0
  have ub1 := obj_cell hbx 1
  have ub2 := obj_cell hbx 2
  simp at ub0 ub1 ub2
  clear hwa hbH hbX hbR hbx
  go_enter Try.func17, Try.ntmps17
  go_upto_region 1 with fail
  rw [← HWA.out, ← HBR.out, ← HBX.out, ← HBH.out]
  go_wp2_with fail
  refine (HCK.out _ HBA.out).mono ?_
  rintro e w0 ⟨rfl, hb2⟩
  have HH2 := Lib.hid (obj_below HHA.out hb2)
  have HX2 := Lib.hid (obj_below HXA.out hb2)
  have HR2 := Lib.hid (obj_below HRA.out hb2)
  have HB2 := Lib.hid (HBA.out.trans (hb2.mono HBA.out.size))
  have hbx := HH2.out
  clear ub0 ub1 ub2 hb2
  have ub0 := obj_cell hbx 0
  have ub1 := obj_cell hbx 1
  have ub2 := obj_cell hbx 2
  simp at ub0 ub1 ub2
  clear hbx HCK HHA HXA HRA HBA
  go_wp2_with fail
  refine (HCP.out _ HB2.out).mono ?_
  rintro e w3 ⟨xl, yl, xp, yp, au, cu, rs, rfl, hk3, ho3⟩
  have hX3 := obj_below HX2.out hk3.bel
  have hR3 := obj_below HR2.out hk3.bel
  obtain ⟨w8, hw8⟩ : ∃ W, W = w3.alloc (.cells #[.slice xl nl yl, .slice xp np yp, .slice au k cu] 31) := ⟨_, rfl⟩
  obtain ⟨bN, hbN⟩ : ∃ b, b = w3.heap.size := ⟨_, rfl⟩
  have hb8 : Below w3.heap.size w3 w8 := by rw [hw8]; exact below_alloc _ _
  have HN8 : Hid (w8.heap[bN]? = some (.cells #[.slice xl nl yl, .slice xp np yp, .slice au k cu] 31 (0, 0))) := Lib.hid (by rw [hw8, hbN]; exact heap_alloc_new _ _)
  have HX8 := Lib.hid (obj_below hX3 hb8)
  have HR8 := Lib.hid (obj_below hR3 hb8)
  have HK8 := Lib.hid (hk3.below hb8)
  have HO8 := Lib.hid (ownsRow_below ho3 hb8)
  have HLN : Hid (w0.heap.size ≤ bN) := Lib.hid (by rw [hbN]; exact hk3.bel.size)
  have HBR8 : Hid (Below w0.heap.size w0 w8) := Lib.hid HK8.out.bel
  have HCC0 := Lib.hid (fun W (hW : Below w0.heap.size w0 W) => HCC1.out W (HB2.out.trans (hW.mono HB2.out.size)))
  have HW8 := Lib.hid hw8
  have HBN := Lib.hid hbN
  clear ub0 ub1 ub2 hk3 ho3 hX3 hR3 hw8 hbN hb8 HCC1 HCP
  obtain ⟨J, hJ⟩ : ∃ J, J = fun W : World => Below w8.heap.size w8 W := ⟨_, rfl⟩
  have HJO : Hid (∀ W, J W → Below w8.heap.size w8 W) := Lib.hid fun W hW => by rw [hJ] at hW; exact hW
  have HJI : Hid (∀ W, Below w8.heap.size w8 W → J W) := Lib.hid fun W hW => by rw [hJ]; exact hW
  have HJD : Hid (∀ W, J W → J W.drew) := Lib.hid fun W hW => HJI.out _ ((HJO.out W hW).drew)
  have HJA : Hid (∀ W o, J W → J (W.alloc o)) := Lib.hid fun W o hW => HJI.out _ ((HJO.out W hW).alloc (HJO.out W hW).size o)
  have HJ0 : Hid (J w8) := Lib.hid (HJI.out _ (Below.refl _ _))
  have HJW : Hid (∀ W, J W → w0.heap.size ≤ W.heap.size) := Lib.hid fun W hW => Nat.le_trans HK8.out.bel.size (HJO.out W hW).size
  have HCX : Hid (∀ W, J W → ∀ i, W.cell? ⟨bX, i, none⟩ = #[.int .i64 x0, .int .i64 x1, .slice xa pn xc][i]?) := Lib.hid fun W hW i => obj_cell (obj_below HX8.out (HJO.out W hW)) i
  have HMN : Hid (∀ W, J W → ∀ i, W.cell? ⟨bN, i, none⟩ = #[.slice xl nl yl, .slice xp np yp, .slice au k cu][i]?) := Lib.hid fun W hW i => obj_cell (obj_below HN8.out (HJO.out W hW)) i
  have HOW : Hid (∀ W, J W → W.ownsRow w0.heap.size 49 3 (.slice au k cu) k (cellsL crrC rs)) := Lib.hid fun W hW => ownsRow_below HO8.out (HJO.out W hW)
  have HCC : Hid (∀ W, J W → Calls Try.prog 39 #[.agg #[.int .i64 x0, .int .i64 x1, .slice xa pn xc]] W fun e w' => ∃ ax cx, e = .returned (.agg #[.int .i64 x0, .int .i64 x1, .slice ax pn cx]) ∧ w'.ownsRow w0.heap.size 55 8 (.slice ax pn cx) pn PSC ∧ J w' ∧ Below W.heap.size W w') := Lib.hid fun W hW => (HCC0.out W (HBR8.out.trans ((HJO.out W hW).mono HBR8.out.size))).mono fun e w' ⟨ax, cx, h1, h2, h3⟩ => ⟨ax, cx, h1, ownsRow_mono h2 (HJW.out W hW), HJI.out _ ((HJO.out W hW).trans (h3.mono (HJO.out W hW).size)), h3⟩
  have HONE : Hid (∀ (ax : Option Addr) (cx : Nat), ∀ u ∈ ([.int .i64 x0, .int .i64 x1, .slice ax pn cx] : List Value), u.oneCell' = true) := Lib.hid fun ax cx u hu => by
    simp only [List.mem_cons, List.mem_nil_iff, or_false] at hu
    rcases hu with rfl | rfl | rfl <;> rfl
  have HSN : Hid (∀ (ax : Option Addr) (cx : Nat), cellsL crrC rs ++ [.int .i64 x0, .int .i64 x1, .slice ax pn cx] = cellsL crrC (rs ++ [⟨x0, x1, ⟨ax, pn, cx⟩⟩])) := Lib.hid fun ax cx => cellsL_snoc crrC rs ⟨x0, x1, ⟨ax, pn, cx⟩⟩
  obtain ⟨KN, hKN⟩ : ∃ K, K = fun (RS : List Crr) (W : World) => CpK w0 (.slice xl nl yl) (.slice xp np yp) L PS RS (C ++ [⟨x0, x1, ps⟩]) W := ⟨_, rfl⟩
  have HKN : Hid (∀ W w' (ax : Option Addr) (cx : Nat), J W → W.ownsRow w0.heap.size 55 8 (.slice ax pn cx) pn PSC → W.grownBy w' (Value.ownBlock (.slice au k cu)) → KN (rs ++ [⟨x0, x1, ⟨ax, pn, cx⟩⟩]) w' ∧ w'.heap[bN]? = some (.cells #[.slice xl nl yl, .slice xp np yp, .slice au k cu] 31 (0, 0))) := Lib.hid fun W w' ax cx hJW hox hg => by
    rw [hKN]
    rw [HPN.out, HPSC.out] at hox
    have hk := (HK8.out.below (HJO.out W hJW)).snoc (r := ⟨x0, x1, ⟨ax, pn, cx⟩⟩) (c := ⟨x0, x1, ps⟩) rfl rfl (by rw [HPN.out]; exact hox)
    exact cp_append (uq' := .slice au k cu) hk (HOW.out W hJW) (obj_below HN8.out (HJO.out W hJW)) hg
  have HKN2 : Hid (∀ RS W, KN RS W → CpK w0 (.slice xl nl yl) (.slice xp np yp) L PS RS (C ++ [⟨x0, x1, ps⟩]) W) := Lib.hid fun RS W h => by rw [hKN] at h; exact h
  have HST : Hid (∀ RS W uq xs, KN RS W → W.ownsRow w0.heap.size 49 3 uq (k + 1) xs → W.heap[bN]? = some (.cells #[.slice xl nl yl, .slice xp np yp, .slice au k cu] 31 (0, 0)) → KN RS (W.setCell ⟨bN, 2, none⟩ uq) ∧ (W.setCell ⟨bN, 2, none⟩ uq).ownsRow w0.heap.size 49 3 uq (k + 1) xs ∧ (W.setCell ⟨bN, 2, none⟩ uq).heap[bN]? = some (.cells #[.slice xl nl yl, .slice xp np yp, uq] 31 (0, 0))) := Lib.hid fun RS W uq xs h1 h2 h3 => by
    rw [hKN] at h1 ⊢
    exact cp_store h1 h2 h3 HLN.out
  have egC := enters_of Try.func39 (by kernel_rfl) rfl
  clear hJ hKN
  go_upto_region 5 with fail
  rw [← HW8.out, ← HBN.out]
  obtain ⟨P, hP⟩ : ∃ P : Nat → Value → World → Prop, P = fun j v W => match j with | 0 => (v = .pointer (some ⟨bN, 2, none⟩)) | 1 => (v = .slice au k cu) | 2 => (v = .agg #[.int .i64 x0, .int .i64 x1, .slice xa pn xc]) | 3 => (∃ ax cx, v = .agg #[.int .i64 x0, .int .i64 x1, .slice ax pn cx] ∧ W.ownsRow w0.heap.size 55 8 (.slice ax pn cx) pn PSC) | 4 => (∃ bq ax cx, v = .slice (some ⟨bq, 0, none⟩) 1 1 ∧ W.heap[bq]? = some (.cells #[.int .i64 x0, .int .i64 x1, .slice ax pn cx] 49 (0, 0)) ∧ W.ownsRow w0.heap.size 55 8 (.slice ax pn cx) pn PSC) | _ => True := ⟨_, rfl⟩
  have HPI0 : Hid (∀ v W, P 0 v W ↔ (v = .pointer (some ⟨bN, 2, none⟩))) := Lib.hid fun v W => by rw [hP] <;> exact Iff.rfl
  have HPI1 : Hid (∀ v W, P 1 v W ↔ (v = .slice au k cu)) := Lib.hid fun v W => by rw [hP] <;> exact Iff.rfl
  have HPI2 : Hid (∀ v W, P 2 v W ↔ (v = .agg #[.int .i64 x0, .int .i64 x1, .slice xa pn xc])) := Lib.hid fun v W => by rw [hP] <;> exact Iff.rfl
  have HPI3 : Hid (∀ v W, P 3 v W ↔ (∃ ax cx, v = .agg #[.int .i64 x0, .int .i64 x1, .slice ax pn cx] ∧ W.ownsRow w0.heap.size 55 8 (.slice ax pn cx) pn PSC)) := Lib.hid fun v W => by rw [hP] <;> exact Iff.rfl
  have HPI4 : Hid (∀ v W, P 4 v W ↔ (∃ bq ax cx, v = .slice (some ⟨bq, 0, none⟩) 1 1 ∧ W.heap[bq]? = some (.cells #[.int .i64 x0, .int .i64 x1, .slice ax pn cx] 49 (0, 0)) ∧ W.ownsRow w0.heap.size 55 8 (.slice ax pn cx) pn PSC)) := Lib.hid fun v W => by rw [hP] <;> exact Iff.rfl
  have HKP : Hid (∀ (j : Nat) v W W', Below W.heap.size W W' → P j v W → P j v W') := Lib.hid (by
    rw [hP]
    intro j v W W' hb h
    match j, h with
    | 0, h => exact h
    | 1, h => exact h
    | 2, h => exact h
    | 3, ⟨ax, cx, e, s0⟩ => exact ⟨ax, cx, e, ownsRow_below s0 hb⟩
    | 4, ⟨bq, ax, cx, e, s0, s1⟩ => exact ⟨bq, ax, cx, e, obj_below s0 hb, ownsRow_below s1 hb⟩
    | j + 5, _ => trivial)
  clear hP
  go_cut [] (fun wx => ∃ (ax : Option Addr) (cx : Nat) (au' : Option Addr) (cu' : Nat), Hid (KN (rs ++ [⟨x0, x1, ⟨ax, pn, cx⟩⟩]) wx) ∧ Hid (wx.ownsRow w0.heap.size 49 3 (.slice au' (k + 1) cu') (k + 1) (cellsL crrC (rs ++ [⟨x0, x1, ⟨ax, pn, cx⟩⟩]))) ∧ Hid (wx.heap[bN]? = some (.cells #[.slice xl nl yl, .slice xp np yp, .slice au' (k + 1) cu'] 31 (0, 0))))
  case first =>
    refine wp_region_tail [16, 17, 18, 19, 20, 21, 22] (slotS [16, 17, 18, 19, 20]) (readsS [16, 17, 18, 19, 20]) (RP [16, 17, 18, 19, 20] P) J (fun j f W => match j with | 0 => (∃ bq ax cx, f 17 = .slice au k cu ∧ f 20 = .slice (some ⟨bq, 0, none⟩) 1 1 ∧ J W ∧ W.heap[bq]? = some (.cells #[.int .i64 x0, .int .i64 x1, .slice ax pn cx] 49 (0, 0)) ∧ W.ownsRow w0.heap.size 55 8 (.slice ax pn cx) pn PSC) | 1 => (∃ uq ax cx, f 21 = uq ∧ KN (rs ++ [⟨x0, x1, ⟨ax, pn, cx⟩⟩]) W ∧ W.ownsRow w0.heap.size 49 3 (uq) (k + 1) (cellsL crrC (rs ++ [⟨x0, x1, ⟨ax, pn, cx⟩⟩])) ∧ W.heap[bN]? = some (.cells #[.slice xl nl yl, .slice xp np yp, .slice au k cu] 31 (0, 0))) | 2 => (∃ uq ax cx, f 21 = uq ∧ f 22 = .pointer (some ⟨bN, 2, none⟩) ∧ KN (rs ++ [⟨x0, x1, ⟨ax, pn, cx⟩⟩]) W ∧ W.ownsRow w0.heap.size 49 3 (uq) (k + 1) (cellsL crrC (rs ++ [⟨x0, x1, ⟨ax, pn, cx⟩⟩])) ∧ W.heap[bN]? = some (.cells #[.slice xl nl yl, .slice xp np yp, .slice au k cu] 31 (0, 0))) | _ => (∃ uq ax cx, KN (rs ++ [⟨x0, x1, ⟨ax, pn, cx⟩⟩]) W ∧ W.ownsRow w0.heap.size 49 3 (uq) (k + 1) (cellsL crrC (rs ++ [⟨x0, x1, ⟨ax, pn, cx⟩⟩])) ∧ W.heap[bN]? = some (.cells #[.slice xl nl yl, .slice xp np yp, uq] 31 (0, 0)))) 5 8 (by decide) (by kernel_rfl) (by kernel_rfl) (by kernel_rfl) (by kernel_rfl) (HJD.out _ HJ0.out) (fun j f q v W hq h => RP.upd hq h) ?_ ?_ ?_ ?_
    case refine_1 =>
      intro iq hiq f W hIW hdep0
      have hdep : ∀ j, depB _ iq j = true → P j (f (slotS [16, 17, 18, 19, 20] j)) W := hdep0
      clear hdep0
      generalize ha1 : putsL _ [16, 17, 18, 19, 20, 21, 22] f = a1
      match iq, hiq, hdep with
      | 0, _, hdep0 =>
        have E7 : a1.tmps[7]?.getD undef = .pointer (some ⟨bN, 0, none⟩) := by rw [← ha1]; exact (putsL_out2 _ _ _ _ (by decide)).trans rfl
        exact wpOp_val rfl rfl (v := .pointer (some ⟨bN, 2, none⟩)) (w' := W) (by simp [execOp, go_sem, E7]) ⟨hIW, fun _ h => h, _, by decide, rfl, RP.set ((HPI0.out _ _).2 rfl)⟩
      | 1, _, hdep0 =>
        have hd0 := (HPI0.out _ _).1 (hdep0 0 (by kernel_rfl))
        have E16 : a1.tmps[16]?.getD undef = .pointer (some ⟨bN, 2, none⟩) := by rw [← ha1]; exact (putsL_in2 _ _ _ _ (by decide) (show 16 < 36 from by decide)).trans hd0
        have v2 : W.cell? ⟨bN, 2, none⟩ = some (.slice au k cu) := by simpa using HMN.out W hIW 2
        exact wpOp_val rfl rfl (v := .slice au k cu) (w' := W) (by simp [execOp, go_sem, E16, v2]) ⟨hIW, fun _ h => h, _, by decide, rfl, RP.set ((HPI1.out _ _).2 rfl)⟩
      | 2, _, hdep0 =>
        have E3 : a1.tmps[3]?.getD undef = .pointer (some ⟨bX, 0, none⟩) := by rw [← ha1]; exact (putsL_out2 _ _ _ _ (by decide)).trans rfl
        have v0 : W.cell? ⟨bX, 0, none⟩ = some (.int .i64 x0) := by simpa using HCX.out W hIW 0
        have v1 : W.cell? ⟨bX, 1, none⟩ = some (.int .i64 x1) := by simpa using HCX.out W hIW 1
        have v2 : W.cell? ⟨bX, 2, none⟩ = some (.slice xa pn xc) := by simpa using HCX.out W hIW 2
        exact wpOp_val rfl rfl (v := .agg #[.int .i64 x0, .int .i64 x1, .slice xa pn xc]) (w' := W) (by simp [execOp, go_sem, E3, v0, v1, v2]) ⟨hIW, fun _ h => h, _, by decide, rfl, RP.set ((HPI2.out _ _).2 rfl)⟩
      | 3, _, hdep0 =>
        have hd2 := (HPI2.out _ _).1 (hdep0 2 (by kernel_rfl))
        have E18 : a1.tmps[18]?.getD undef = .agg #[.int .i64 x0, .int .i64 x1, .slice xa pn xc] := by rw [← ha1]; exact (putsL_in2 _ _ _ _ (by decide) (show 18 < 36 from by decide)).trans hd2
        refine wpOp_call rfl rfl (n := 39) (vs := #[.agg #[.int .i64 x0, .int .i64 x1, .slice xa pn xc]]) (by have := egC #[.agg #[.int .i64 x0, .int .i64 x1, .slice xa pn xc]] W; simp [execOp, E18, resolve, invoke, go_sem] <;> exact this) ((HCC.out W hIW).mono fun e w' hh => (by obtain ⟨ax, cx, rfl, p0, hJ', hb'⟩ := hh; exact ⟨_, rfl, (HPI3.out _ _).2 ⟨_, _, rfl, p0⟩, hJ', hb'⟩ : ∃ v, e = .returned v ∧ (P 3 v w' ∧ J w' ∧ Below W.heap.size W w'))) ?_
        rintro v w' ⟨hv, hI', hb'⟩
        exact ⟨hI', fun j h => HKP.out j _ _ _ hb' h, _, by decide, rfl, RP.set hv⟩
      | 4, _, hdep0 =>
        have hd3 := (HPI3.out _ _).1 (hdep0 3 (by kernel_rfl))
        obtain ⟨ax, cx, q3, r3_0⟩ := hd3
        have E19 : a1.tmps[19]?.getD undef = .agg #[.int .i64 x0, .int .i64 x1, .slice ax pn cx] := by rw [← ha1]; exact (putsL_in2 _ _ _ _ (by decide) (show 19 < 36 from by decide)).trans q3
        exact wpOp_val rfl rfl (v := .slice (some ⟨W.heap.size, 0, none⟩) 1 1) (w' := W.alloc (.cells #[.int .i64 x0, .int .i64 x1, .slice ax pn cx] 49)) (by simp [execOp, go_sem, E19]) ⟨(HJA.out _ _ hIW), fun j h => HKP.out j _ _ _ (below_alloc _ _) h, _, by decide, rfl, RP.set ((HPI4.out _ _).2 ⟨_, _, _, rfl, heap_alloc_new _ _, r3_0.alloc _⟩)⟩
      | iq + 5, h, _ => exact absurd h (by omega)
    case refine_2 =>
      intro f W hIW hR
      have h17 := (HPI1.out _ _).1 (hR 1 (by decide))
      have h20 := (HPI4.out _ _).1 (hR 4 (by decide))
      obtain ⟨bq, ax, cx, h26, hbq, hox⟩ := h20
      exact ⟨bq, ax, cx, h17, h26, hIW, hbq, hox⟩
    case refine_3 =>
      intro iq hsq hiq f W hIt0
      have hiq2 : iq < 8 := hiq
      have hIt := hIt0
      clear hIt0
      rcases (show iq = 5 ∨ iq = 6 ∨ iq = 7 by omega) with rfl | rfl | rfl
      · clear hsq hiq hiq2
        obtain ⟨bq, ax, cx, h23, h26, hIW, hbq, hox⟩ := hIt
        refine wpOp_append rfl rfl (.tmp 17) (.tmp 20) 29 rfl w0.heap.size 49 i0 (.agg #[.int .i64 0, .int .i64 0, .slice none 0 0]) 3 40 Try.underlying29 hi0 hz0 hz1 hz2 rfl (by decide) (.slice au k cu) k (cellsL crrC rs) ?_ (HOW.out W hIW) ⟨bq, 0, none⟩ 1 1 [.int .i64 x0, .int .i64 x1, .slice ax pn cx] ?_ rfl (obj_new_cells hbq) (HONE.out _ _) (by unfold maxLen; omega) (by omega) (HJW.out W hIW) ?_
        · exact (putsL_in _ _ _ _ (by decide) (show 17 < 36 from by decide)).trans h23
        · exact (putsL_in _ _ _ _ (by decide) (show 20 < 36 from by decide)).trans h26
        · intro v' w' h2 h3
          rw [HSN.out] at h2
          have hkk := HKN.out W w' _ _ hIW hox h3
          exact ⟨updF f 21 v', putsL_put _ _ _ _ _ (by decide), (⟨v', ax, cx, updF_same _ _ _, hkk.1, h2, hkk.2⟩ : ∃ uq ax cx, updF f 21 v' 21 = uq ∧ KN (rs ++ [⟨x0, x1, ⟨ax, pn, cx⟩⟩]) w' ∧ w'.ownsRow w0.heap.size 49 3 (uq) (k + 1) (cellsL crrC (rs ++ [⟨x0, x1, ⟨ax, pn, cx⟩⟩])) ∧ w'.heap[bN]? = some (.cells #[.slice xl nl yl, .slice xp np yp, .slice au k cu] 31 (0, 0)))⟩
      · clear hsq hiq hiq2
        obtain ⟨uq, ax, cx, h27, hkn, hrw, hbn⟩ := hIt
        generalize ha1 : putsL _ [16, 17, 18, 19, 20, 21, 22] f = a1
        have EH : a1.tmps[7]?.getD undef = .pointer (some ⟨bN, 0, none⟩) := by rw [← ha1]; exact (putsL_out2 _ _ _ _ (by decide)).trans rfl
        exact wpOp_val rfl rfl (v := .pointer (some ⟨bN, 2, none⟩)) (w' := W) (by simp [execOp, go_sem, EH]) ⟨updF f 22 (.pointer (some ⟨bN, 2, none⟩)), by rw [← ha1]; exact putsL_put _ _ _ _ _ (by decide), (⟨uq, ax, cx, (updF_other _ _ (by decide)).trans h27, updF_same _ _ _, hkn, hrw, hbn⟩ : ∃ uq ax cx, updF f 22 (.pointer (some ⟨bN, 2, none⟩)) 21 = uq ∧ updF f 22 (.pointer (some ⟨bN, 2, none⟩)) 22 = .pointer (some ⟨bN, 2, none⟩) ∧ KN (rs ++ [⟨x0, x1, ⟨ax, pn, cx⟩⟩]) W ∧ W.ownsRow w0.heap.size 49 3 (uq) (k + 1) (cellsL crrC (rs ++ [⟨x0, x1, ⟨ax, pn, cx⟩⟩])) ∧ W.heap[bN]? = some (.cells #[.slice xl nl yl, .slice xp np yp, .slice au k cu] 31 (0, 0)))⟩
      · clear hsq hiq hiq2
        obtain ⟨uq, ax, cx, h27, h28, hkn, hrw, hbn⟩ := hIt
        obtain ⟨au', cu', rfl, -, -⟩ := owns_gen hrw
        generalize ha1 : putsL _ [16, 17, 18, 19, 20, 21, 22] f = a1
        have E21 : a1.tmps[21]?.getD undef = .slice au' (k + 1) cu' := by rw [← ha1]; exact (putsL_in2 _ _ _ _ (by decide) (show 21 < 36 from by decide)).trans h27
        have E22 : a1.tmps[22]?.getD undef = .pointer (some ⟨bN, 2, none⟩) := by rw [← ha1]; exact (putsL_in2 _ _ _ _ (by decide) (show 22 < 36 from by decide)).trans h28
        have p0 := obj_cell hbn 2
        have f0 := obj_free hbn 2
        simp at p0
        have hst := HST.out _ _ _ _ hkn hrw hbn
        exact wpOp_skip rfl rfl (w' := W.setCell ⟨bN, 2, none⟩ (.slice au' (k + 1) cu')) (by simp [execOp, go_sem, E21, E22, p0, f0]) ⟨f, ha1.symm, (⟨_, ax, cx, hst.1, hst.2.1, hst.2.2⟩ : ∃ uq ax cx, KN (rs ++ [⟨x0, x1, ⟨ax, pn, cx⟩⟩]) (W.setCell ⟨bN, 2, none⟩ (.slice au' (k + 1) cu')) ∧ (W.setCell ⟨bN, 2, none⟩ (.slice au' (k + 1) cu')).ownsRow w0.heap.size 49 3 (uq) (k + 1) (cellsL crrC (rs ++ [⟨x0, x1, ⟨ax, pn, cx⟩⟩])) ∧ (W.setCell ⟨bN, 2, none⟩ (.slice au' (k + 1) cu')).heap[bN]? = some (.cells #[.slice xl nl yl, .slice xp np yp, uq] 31 (0, 0)))⟩
    case refine_4 =>
      intro f W hIt
      simp only [putsL, List.foldl_cons, List.foldl_nil, Act.put, List.setIfInBounds_toArray, List.set_cons_zero, List.set_cons_succ]
      obtain ⟨uq, ax, cx, hkn, hrw, hbn⟩ := hIt
      obtain ⟨au', cu', rfl, -, -⟩ := owns_gen hrw
      go_wp2
      go_meet
      exact ⟨ax, cx, au', cu', Lib.hid hkn, Lib.hid hrw, Lib.hid hbn⟩
  case rest =>
  obtain ⟨ax, cx, au', cu', hkn0, HRW, HNB⟩ := hcut
  have hkn := HKN2.out _ _ hkn0.out
  have HKW := Lib.hid hkn
  have hrc := HRC.out _ _ _ _ HRW.out hkn.cor
  have HRCW := Lib.hid hrc
  have hnb := HNB.out
  have hk20 : ¬ (20 : Int) < (k : Int) + 1 := by omega
  have pp0 := obj_cell hnb 0
  have pp1 := obj_cell hnb 1
  have pp2 := obj_cell hnb 2
  simp at pp0 pp1 pp2
  clear hkn hrc hnb hkn0 HRC
  go_wp2_with fail
  refine HRCW.out.mono ?_
  rintro e w6 ⟨rfl, hb6⟩
  have HKF := Lib.hid (HKW.out.below hb6)
  have HRF := Lib.hid (obj_below (obj_below HR2.out HKW.out.bel) hb6)
  have HOF := Lib.hid (ownsRow_below HRW.out hb6)
  have hnb := obj_below HNB.out hb6
  have hre := HRF.out
  clear pp0 pp1 pp2 hb6
  have pp0 := obj_cell hnb 0
  have pp1 := obj_cell hnb 1
  have pp2 := obj_cell hnb 2
  simp at pp0 pp1 pp2
  have r0 := obj_cell hre 0
  have r1 := obj_cell hre 1
  have r2 := obj_cell hre 2
  simp at r0 r1 r2
  have fr0 := obj_free hre 0
  have fr1 := obj_free hre 1
  have fr2 := obj_free hre 2
  clear hnb hre
  go_wp2
  refine ret3 HRF.out rfl _ _ _ (v := .tuple #[.agg #[.slice xl nl yl, .slice xp np yp, .slice au' (k + 1) cu'], .int .i64 0]) (fun F hF => ?_) rfl ⟨_, _, _, rfl, ?_, ?_⟩
  · have q0 := obj_cell hF 0
    have q1 := obj_cell hF 1
    have q2 := obj_cell hF 2
    simp at q0 q1 q2
    simp [results, Try.results17, go_sem, q0, q1, q2]
  · have hg := fun W => put3_grown2 W bR (.slice xl nl yl) (.slice xp np yp) (.slice au' (k + 1) cu')
    have hkk := HKF.out
    exact HFN.out _ _ _ _ _ _ (owns_keep hkk.led (hg _) (notOf_box HRF.out (by decide))) (owns_keep hkk.prs (hg _) (notOf_box HRF.out (by decide))) (hkk.cor.keep (hg _) (notOf_box HRF.out (by decide))) (owns_keep HOF.out (hg _) (notOf_box HRF.out (by decide)))
  · exact put3_below (HB2.out.trans (HKF.out.bel.mono HB2.out.size)) HLR.out _ _ _

end Go.Proofs.Ytoccnindkimjdaa
