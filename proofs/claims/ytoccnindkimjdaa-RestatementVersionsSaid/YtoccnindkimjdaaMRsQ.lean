/- The package's Restated of right histories. -/
import Derived.Test.YtoccnindkimjdaaMG4
set_option linter.unusedSimpArgs false
set_option linter.unusedVariables false
set_option linter.unusedSimpArgs false
set_option linter.unusedVariables false
namespace Go.Proofs.Ytoccnindkimjdaa
open Go.RowKit Go.Lib Go.Proofs

theorem StmIn.mono {a b : Int} {x : Stm} (h : StmIn a x) (hab : a ≤ b) : StmIn b x := by
  obtain ⟨h1, h2, h3, h4, h5⟩ := h
  exact ⟨by omega, by omega, by omega, by omega, by omega⟩

set_option maxRecDepth 100000 in
set_option maxHeartbeats 16000000 in
theorem rsRestated_ok {h : Hst} (hh : HstOk h) {y : Int} (hy : 0 ≤ y ∧ y ≤ 99) (vl vp vc : Value) (w : World) (ha : HstAt w vl vp vc h) :
    Calls Try.prog 15 #[.agg #[vl, vp, vc], .int .i64 y] w fun e w' => e = .returned (.tuple #[.agg (stmA (restM y h)), .int .i64 0]) ∧ Below w.heap.size w w' := by
  have HCK := Lib.hid (fun W (hW : Below w.heap.size w W) => rsCheck_right hh vl vp vc W (ha.below hW))
  have HST := Lib.hid (fun W (hW : Below w.heap.size w W) => rsstatement_ok hh.led hy vl W (ListAt.below ha.led hW))
  have hll : ∀ k, (h.led ++ corPs y (h.cors.take k)).length ≤ 160 := fun k => by
    have h1 := corPs_len (y := y) (l := h.cors.take k) fun c hc => hh.cor c (List.mem_of_mem_take hc)
    have h2 := hh.nc
    have h3 := hh.ln
    have h4 : (h.cors.take k).length ≤ h.cors.length := by rw [List.length_take]; omega
    rw [List.length_append]
    omega
  obtain ⟨SM, hSM⟩ : ∃ S : Nat → Stm, S = fun k => stM y (h.led ++ corPs y (h.cors.take k)) := ⟨_, rfl⟩
  have HSI : Hid (∀ k, StmIn 1000000000 (SM k)) := Lib.hid fun k => by
    rw [hSM]
    exact (stM_in (fun p hp => by
      rcases List.mem_append.1 hp with hp | hp
      · exact ⟨hh.led.mem p hp, hh.sm p hp⟩
      · exact corPs_mem (fun c hc => hh.cor c (List.mem_of_mem_take hc)) hp) (by have := hll k; omega)).mono (by omega)
  have HS0 : Hid (stM y h.led = SM 0) := Lib.hid (by rw [hSM]; simp [corPs])
  have HSN : Hid (SM h.cors.length = restM y h) := Lib.hid (by rw [hSM]; show stM y (h.led ++ corPs y (h.cors.take h.cors.length)) = _; rw [List.take_length]; rfl)
  have HSS : Hid (∀ k (hk : k < h.cors.length), SM (k + 1) = if (h.cors[k]).yr ≤ y then (SM k).add (stM y (h.cors[k]).ps) else SM k) := Lib.hid fun k hk => by
    rw [hSM]
    show stM y (h.led ++ corPs y (h.cors.take (k + 1))) = _
    rw [List.take_succ_eq_append_getElem hk, corPs_snoc, ← List.append_assoc]
    split
    · rw [stM_app]
    · rw [List.append_nil]
  have HCO := Lib.hid hh.cor
  have hnc := hh.nc
  obtain ⟨rs, hac, hcr⟩ := ha.cors
  obtain ⟨-, ap, -, -, cp, -, -, rfl, -⟩ := ha.parts
  obtain ⟨ac, cc, rfl, hcc', hcs⟩ := hac.shape crrF
  have hrl := hcr.len
  have HCS := Lib.hid hcs
  have HCR := Lib.hid (fun W (hW : Below w.heap.size w W) => hcr.imp fun v l (q : PstsAt w v l) => (ListAt.below q hW : PstsAt W v l))
  obtain ⟨np, hnp⟩ : ∃ q, q = h.pres.length := ⟨_, rfl⟩
  obtain ⟨C, hC⟩ : ∃ C, C = h.cors := ⟨_, rfl⟩
  rw [← hC] at HSN HSS HCO hnc hcr hrl HCR
  rw [hrl] at hcc' HCK ⊢
  rw [← hnp] at HCK ⊢
  obtain ⟨R, hR⟩ : ∃ R, R = restM y h := ⟨_, rfl⟩
  rw [HS0.out] at HST
  rw [← hR] at HSN ⊢
  rw [← HSN.out]
  obtain ⟨n, hn⟩ : ∃ n, n = C.length := ⟨_, rfl⟩
  have HN := Lib.hid hn
  have HRL := Lib.hid hrl
  rw [← hn] at hcc' hnc HCK HSN ⊢
  clear hSM hll hh ha hR hC hnp hn hrl hcs hac hcr HS0 HSN
  obtain ⟨w1, hw1⟩ : ∃ w1, w1 = (w.alloc (.cells #[vl, .slice ap np cp, .slice ac n cc] 31)).alloc (.cells #[.int .i64 0, .int .i64 0, .int .i64 0, .int .i64 0, .int .i64 0] 38) := ⟨_, rfl⟩
  obtain ⟨bH, hbH⟩ : ∃ b, b = w.heap.size := ⟨_, rfl⟩
  obtain ⟨bR, hbR⟩ : ∃ b, b = w.heap.size + 1 := ⟨_, rfl⟩
  have HX1 : Hid (w1.heap[bH]? = some (.cells #[vl, .slice ap np cp, .slice ac n cc] 31 (0, 0))) := Lib.hid (by rw [hw1, hbH]; exact alloc1_at w _ _)
  have HR1 : Hid (w1.heap[bR]? = some (.cells #[.int .i64 0, .int .i64 0, .int .i64 0, .int .i64 0, .int .i64 0] 38 (0, 0))) := Lib.hid (by rw [hw1, hbR]; exact alloc2_at w _ _)
  have HB1 : Hid (Below w.heap.size w w1) := Lib.hid (by rw [hw1]; exact below2 w _ _)
  have HLR : Hid (w.heap.size ≤ bR) := Lib.hid (by omega)
  have HW1 := Lib.hid hw1
  have HBH := Lib.hid hbH
  have HBR := Lib.hid hbR
  have hbx := HX1.out
  have ub0 := obj_cell hbx 0
  have ub1 := obj_cell hbx 1
  have ub2 := obj_cell hbx 2
  simp at ub0 ub1 ub2
  clear hw1 hbH hbR hbx
  simp only [stmA] at HST ⊢
  go_enter Try.func15, Try.ntmps15
  go_upto_region 1 with fail
  rw [← HW1.out, ← HBR.out, ← HBH.out]
  go_wp2_with fail
  refine (HCK.out _ HB1.out).mono ?_
  rintro e w2 ⟨rfl, hb2⟩
  have HX2 := Lib.hid (obj_below HX1.out hb2)
  have HR2 := Lib.hid (obj_below HR1.out hb2)
  have HB2 := Lib.hid (HB1.out.trans (hb2.mono HB1.out.size))
  have hbx := HX2.out
  clear ub0 ub1 ub2 hb2
  have ub0 := obj_cell hbx 0
  have ub1 := obj_cell hbx 1
  have ub2 := obj_cell hbx 2
  simp at ub0 ub1 ub2
  clear hbx HCK HX1 HB1 HR1
  go_wp2_with fail
  refine (rsisYear_yes _ hy.1 hy.2).mono ?_
  rintro e w2' ⟨rfl, rfl⟩
  go_wp2_with fail
  refine (HST.out _ HB2.out).mono ?_
  rintro e w3 ⟨rfl, hb3⟩
  have HX3 := Lib.hid (obj_below HX2.out hb3)
  have HR3 := Lib.hid (obj_below HR2.out hb3)
  have HB3 := Lib.hid (HB2.out.trans (hb3.mono HB2.out.size))
  clear ub0 ub1 ub2 hb3 HX2 HR2 HB2
  obtain ⟨w4, hw4⟩ : ∃ W, W = w3.alloc (.cells #[.int .i64 (SM 0).ast, .int .i64 (SM 0).lia, .int .i64 (SM 0).wor, .int .i64 (SM 0).rev, .int .i64 (SM 0).exp] 38) := ⟨_, rfl⟩
  obtain ⟨bS, hbS⟩ : ∃ b, b = w3.heap.size := ⟨_, rfl⟩
  have HS4 : Hid (w4.heap[bS]? = some (.cells #[.int .i64 (SM 0).ast, .int .i64 (SM 0).lia, .int .i64 (SM 0).wor, .int .i64 (SM 0).rev, .int .i64 (SM 0).exp] 38 (0, 0))) := Lib.hid (by rw [hw4, hbS]; exact heap_alloc_new _ _)
  have hb4 : Below w3.heap.size w3 w4 := by rw [hw4]; exact below_alloc _ _
  have HB4 := Lib.hid hb4
  have HSL : Hid (w3.heap.size ≤ bS) := Lib.hid (by omega)
  have hbx := obj_below HX3.out hb4
  have vb0 := obj_cell hbx 0
  have vb1 := obj_cell hbx 1
  have vb2 := obj_cell hbx 2
  simp at vb0 vb1 vb2
  have HW4 := Lib.hid hw4
  have HBS := Lib.hid hbS
  clear hw4 hbS hb4 hbx
  go_upto_region 7 with fail
  rw [← HW4.out, ← HBS.out]
  go_wp2
  go_loopw [27] (fun iv wr => ∃ k : Nat, iv = .int .i64 k ∧ k ≤ n ∧ Hid (Below w3.heap.size w3 wr) ∧ Hid (wr.heap[bS]? = some (.cells #[.int .i64 (SM k).ast, .int .i64 (SM k).lia, .int .i64 (SM k).wor, .int .i64 (SM k).rev, .int .i64 (SM k).exp] 38 (0, 0)))) (fun iv _ => n - (RowKit.intOf iv).toNat)
  case atStart => exact ⟨0, rfl, by omega, HB4, HS4⟩
  case round =>
    clear vb0 vb1 vb2 HB4 HS4
    obtain ⟨k, rfl, hkn, HB, HS⟩ := hrel
    by_cases hlt : k < n
    · have hkC : k < C.length := by rw [← HN.out]; exact hlt
      have hkR : k < rs.length := by rw [HRL.out]; exact hkC
      obtain ⟨b, o, rfl, hb, hcc⟩ := HCS.out (by omega)
      have HWB := Lib.hid (HB3.out.trans (HB.out.mono HB3.out.size))
      have hcell := fun j (hj : j < 3) => (HWB.out.cell (p := ⟨b, o + k * 3 + j, none⟩) hb).trans (hcc k hkR j hj)
      have hg := (HCR.out wr HWB.out).get k hkR hkC
      have hss := HSS.out k hkC
      have hco := HCO.out _ (List.getElem_mem hkC)
      have hia := HSI.out k
      generalize rs[k] = x at *
      generalize C[k] = cx at *
      obtain ⟨x0, x1, xa, xn, xc⟩ := x
      obtain ⟨cy, cf, ps⟩ := cx
      obtain ⟨g1, g2, g3⟩ := hg
      simp only [Sli.v] at g1 g2 g3 hss
      subst g1
      subst g2
      obtain ⟨xa', xc', e1, -, -⟩ := g3.shape pstF
      injection e1 with ea e2 ec
      subst ea
      subst ec
      subst e2
      have c0 := hcell 0 (by omega)
      have c1 := hcell 1 (by omega)
      have c2 := hcell 2 (by omega)
      simp [crrC] at c0 c1 c2
      have hwk : IntKind.i64.wrap ((k : Int) + 1) = (k : Int) + 1 := IntWalk.i64_in _ (by omega)
      have hk0 : (0 : Int) ≤ (k : Int) := by omega
      have hk1 : (k : Int) < (n : Int) := by omega
      have hps := hco.ps
      have hpl := hco.len
      simp only at hps hpl
      have HTI : Hid (StmIn 1000000000 (stM y ps)) := Lib.hid ((stM_in (fun p hp => ⟨(hps p hp).ok, (hps p hp).sm⟩) (by omega)).mono (by omega))
      have HBK0 : Hid (∀ W, Below wr.heap.size wr W → Calls Try.prog 35 #[.agg #[.int .i64 x0, .int .i64 x1, .slice xa ps.length xc]] W fun e w' => ∃ (u : Value) (l' : List Pst), e = .returned (.agg #[u]) ∧ l'.Perm ps ∧ l'.Pairwise pstLe ∧ PstsAt w' u (renumG 0 l') ∧ Below W.heap.size W w') := Lib.hid fun W hW => rsbooked_ok (by omega) (by omega) x0 x1 _ W (ListAt.below g3 hW)
      have HTT0 : Hid (∀ (u : Value) (lq : List Pst) W, (PstsAt W u (renumG 0 lq) ∧ lq.Perm ps ∧ lq.Pairwise pstLe) → Calls Try.prog 33 #[.agg #[u], .int .i64 y] W fun e w' => e = .returned (.agg (stmA (stM y ps))) ∧ Below W.heap.size W w') := Lib.hid fun u lq W ⟨k1, k2, k3⟩ => by
        have := rsstatement_ok (ldgOk_renum (by rw [k2.length_eq]; omega) (fun p hp => (hps p (k2.mem_iff.1 hp)).ok) k3) hy u W k1
        rw [stM_renum, stM_perm y k2] at this
        exact this
      obtain ⟨pn, hpn⟩ : ∃ q, q = ps.length := ⟨_, rfl⟩
      obtain ⟨w8, hw8⟩ : ∃ W, W = wr.alloc (.cells #[.int .i64 x0, .int .i64 x1, .slice xa pn xc] 49) := ⟨_, rfl⟩
      obtain ⟨bX, hbX⟩ : ∃ q, q = wr.heap.size := ⟨_, rfl⟩
      have HX8 : Hid (w8.heap[bX]? = some (.cells #[.int .i64 x0, .int .i64 x1, .slice xa pn xc] 49 (0, 0))) := Lib.hid (by rw [hw8, hbX]; exact heap_alloc_new _ _)
      have hb8 : Below wr.heap.size wr w8 := by rw [hw8]; exact below_alloc _ _
      have HBR8 := Lib.hid hb8
      have HB8 : Hid (Below w3.heap.size w3 w8) := Lib.hid (HB.out.trans (hb8.mono HB.out.size))
      have HS8 := Lib.hid (obj_below HS.out hb8)
      have hx8 := HX8.out
      have y0 := obj_cell hx8 0
      have y1 := obj_cell hx8 1
      have y2 := obj_cell hx8 2
      simp at y0 y1 y2
      rw [← hpn] at c2 HBK0
      have HW8 := Lib.hid hw8
      have HBX := Lib.hid hbX
      clear hcell hcc hw8 hbX hx8 hb8 g3 hpn hps hpl hco
      go_upto_region 10 with fail
      rw [← HW8.out, ← HBX.out]
      clear c0 c1 c2
      by_cases hyy : x0 ≤ y
      · rw [if_pos hyy] at hss
        have HSR := Lib.hid hss
        have HIA := Lib.hid hia
        obtain ⟨A, hA⟩ : ∃ A, A = SM k := ⟨_, rfl⟩
        obtain ⟨T, hT⟩ : ∃ T, T = stM y ps := ⟨_, rfl⟩
        rw [← hA] at HSR HIA HS8
        rw [← hT] at HSR HTI HTT0
        have HUU0 := Lib.hid (fun W => rssum_ok HIA.out HTI.out W)
        obtain ⟨am0, am1, am2, am3, am4⟩ := A
        obtain ⟨tm0, tm1, tm2, tm3, tm4⟩ := T
        simp only [Stm.add] at HSR
        simp only [stmA, Stm.add] at HTT0 HUU0
        simp only at HS8
        clear hss hia hA hT
        obtain ⟨J, hJ⟩ : ∃ J, J = fun W : World => Below w8.heap.size w8 W := ⟨_, rfl⟩
        have HJO : Hid (∀ W, J W → Below w8.heap.size w8 W) := Lib.hid fun W hW => by rw [hJ] at hW; exact hW
        have HJI : Hid (∀ W, Below w8.heap.size w8 W → J W) := Lib.hid fun W hW => by rw [hJ]; exact hW
        have HJD : Hid (∀ W, J W → J W.drew) := Lib.hid fun W hW => HJI.out _ ((HJO.out W hW).drew)
        have HJA : Hid (∀ W o, J W → J (W.alloc o)) := Lib.hid fun W o hW => HJI.out _ ((HJO.out W hW).alloc (HJO.out W hW).size o)
        have HJ0 : Hid (J w8) := Lib.hid (HJI.out _ (Below.refl _ _))
        have HCX : Hid (∀ W, J W → ∀ i, W.cell? ⟨bX, i, none⟩ = #[.int .i64 x0, .int .i64 x1, .slice xa pn xc][i]?) := Lib.hid fun W hW i => obj_cell (obj_below HX8.out (HJO.out W hW)) i
        have HMS : Hid (∀ W, J W → W.heap[bS]? = some (.cells #[.int .i64 am0, .int .i64 am1, .int .i64 am2, .int .i64 am3, .int .i64 am4] 38 (0, 0))) := Lib.hid fun W hW => obj_below HS8.out (HJO.out W hW)
        have HCS5 : Hid (∀ W, J W → ∀ i, W.cell? ⟨bS, i, none⟩ = #[.int .i64 am0, .int .i64 am1, .int .i64 am2, .int .i64 am3, .int .i64 am4][i]?) := Lib.hid fun W hW i => obj_cell (HMS.out W hW) i
        have HBK : Hid (∀ W, J W → Calls Try.prog 35 #[.agg #[.int .i64 x0, .int .i64 x1, .slice xa pn xc]] W fun e w' => ∃ (u : Value) (lq : List Pst), e = .returned (.agg #[u]) ∧ (PstsAt w' u (renumG 0 lq) ∧ lq.Perm ps ∧ lq.Pairwise pstLe) ∧ J w' ∧ Below W.heap.size W w') := Lib.hid fun W hW => (HBK0.out W (HBR8.out.trans ((HJO.out W hW).mono HBR8.out.size))).mono fun e w' ⟨u, lq, h1, h2, h3, h4, h5⟩ => ⟨u, lq, h1, ⟨h4, h2, h3⟩, HJI.out _ ((HJO.out W hW).trans (h5.mono (HJO.out W hW).size)), h5⟩
        have HTT : Hid (∀ (u : Value) (lq : List Pst) W, J W → (PstsAt W u (renumG 0 lq) ∧ lq.Perm ps ∧ lq.Pairwise pstLe) → Calls Try.prog 33 #[.agg #[u], .int .i64 y] W fun e w' => e = .returned (.agg #[.int .i64 tm0, .int .i64 tm1, .int .i64 tm2, .int .i64 tm3, .int .i64 tm4]) ∧ J w' ∧ Below W.heap.size W w') := Lib.hid fun u lq W hW hq => (HTT0.out u lq W hq).mono fun e w' ⟨h1, h5⟩ => ⟨h1, HJI.out _ ((HJO.out W hW).trans (h5.mono (HJO.out W hW).size)), h5⟩
        have HUU : Hid (∀ W, J W → Calls Try.prog 34 #[.agg #[.int .i64 am0, .int .i64 am1, .int .i64 am2, .int .i64 am3, .int .i64 am4], .agg #[.int .i64 tm0, .int .i64 tm1, .int .i64 tm2, .int .i64 tm3, .int .i64 tm4]] W fun e w' => e = .returned (.agg #[.int .i64 (am0 + tm0), .int .i64 (am1 + tm1), .int .i64 (am2 + tm2), .int .i64 (am3 + tm3), .int .i64 (am4 + tm4)]) ∧ J w' ∧ Below W.heap.size W w') := Lib.hid fun W hW => (HUU0.out W).mono fun e w' ⟨h1, h5⟩ => ⟨h1, HJI.out _ ((HJO.out W hW).trans (h5.mono (HJO.out W hW).size)), h5⟩
        obtain ⟨JN, hJN⟩ : ∃ J, J = fun W : World => Below w3.heap.size w3 W ∧ W.heap[bS]? = some (.cells #[.int .i64 (am0 + tm0), .int .i64 (am1 + tm1), .int .i64 (am2 + tm2), .int .i64 (am3 + tm3), .int .i64 (am4 + tm4)] 38 (0, 0)) := ⟨_, rfl⟩
        have HPUT : Hid (∀ W, J W → JN (put5 W bS (.int .i64 (am0 + tm0)) (.int .i64 (am1 + tm1)) (.int .i64 (am2 + tm2)) (.int .i64 (am3 + tm3)) (.int .i64 (am4 + tm4)))) := Lib.hid fun W hW => by
          rw [hJN]
          exact ⟨put5_below (HB8.out.trans ((HJO.out W hW).mono HB8.out.size)) HSL.out _ _ _ _ _, put5_at (HMS.out W hW) rfl _ _ _ _ _⟩
        have HJNO : Hid (∀ W, JN W → Below w3.heap.size w3 W ∧ W.heap[bS]? = some (.cells #[.int .i64 (am0 + tm0), .int .i64 (am1 + tm1), .int .i64 (am2 + tm2), .int .i64 (am3 + tm3), .int .i64 (am4 + tm4)] 38 (0, 0))) := Lib.hid fun W hW => by rw [hJN] at hW; exact hW
        have egB := enters_of Try.func35 (by kernel_rfl) rfl
        have egT := enters_of Try.func33 (by kernel_rfl) rfl
        have egU := enters_of Try.func34 (by kernel_rfl) rfl
        clear hJ hJN HBK0 HTT0 HUU0 HIA HTI
        go_upto_region 11 with fail
        clear y0 y1 y2
        obtain ⟨P, hP⟩ : ∃ P : Nat → Value → World → Prop, P = fun j v W => match j with | 0 => (v = .agg #[.int .i64 am0, .int .i64 am1, .int .i64 am2, .int .i64 am3, .int .i64 am4]) | 1 => (v = .agg #[.int .i64 x0, .int .i64 x1, .slice xa pn xc]) | 2 => (∃ u lq, v = .agg #[u] ∧ (PstsAt W u (renumG 0 lq) ∧ lq.Perm ps ∧ lq.Pairwise pstLe)) | 3 => (v = .int .i64 y) | 4 => (v = .agg #[.int .i64 tm0, .int .i64 tm1, .int .i64 tm2, .int .i64 tm3, .int .i64 tm4]) | 5 => (v = .agg #[.int .i64 (am0 + tm0), .int .i64 (am1 + tm1), .int .i64 (am2 + tm2), .int .i64 (am3 + tm3), .int .i64 (am4 + tm4)]) | _ => True := ⟨_, rfl⟩
        have HPI0 : Hid (∀ v W, P 0 v W ↔ (v = .agg #[.int .i64 am0, .int .i64 am1, .int .i64 am2, .int .i64 am3, .int .i64 am4])) := Lib.hid fun v W => by rw [hP] <;> exact Iff.rfl
        have HPI1 : Hid (∀ v W, P 1 v W ↔ (v = .agg #[.int .i64 x0, .int .i64 x1, .slice xa pn xc])) := Lib.hid fun v W => by rw [hP] <;> exact Iff.rfl
        have HPI2 : Hid (∀ v W, P 2 v W ↔ (∃ u lq, v = .agg #[u] ∧ (PstsAt W u (renumG 0 lq) ∧ lq.Perm ps ∧ lq.Pairwise pstLe))) := Lib.hid fun v W => by rw [hP] <;> exact Iff.rfl
        have HPI3 : Hid (∀ v W, P 3 v W ↔ (v = .int .i64 y)) := Lib.hid fun v W => by rw [hP] <;> exact Iff.rfl
        have HPI4 : Hid (∀ v W, P 4 v W ↔ (v = .agg #[.int .i64 tm0, .int .i64 tm1, .int .i64 tm2, .int .i64 tm3, .int .i64 tm4])) := Lib.hid fun v W => by rw [hP] <;> exact Iff.rfl
        have HPI5 : Hid (∀ v W, P 5 v W ↔ (v = .agg #[.int .i64 (am0 + tm0), .int .i64 (am1 + tm1), .int .i64 (am2 + tm2), .int .i64 (am3 + tm3), .int .i64 (am4 + tm4)])) := Lib.hid fun v W => by rw [hP] <;> exact Iff.rfl
        have HKP : Hid (∀ (j : Nat) v W W', Below W.heap.size W W' → P j v W → P j v W') := Lib.hid (by
          rw [hP]
          intro j v W W' hb h
          match j, h with
          | 0, h => exact h
          | 1, h => exact h
          | 2, ⟨u, lq, e, s0⟩ => exact ⟨u, lq, e, ⟨ListAt.below s0.1 hb, s0.2.1, s0.2.2⟩⟩
          | 3, h => exact h
          | 4, h => exact h
          | 5, h => exact h
          | j + 6, _ => trivial)
        clear hP
        refine wp_region_last [35, 36, 37, 38, 39, 40] (slotS [35, 36, 37, 38, 39, 40]) (readsS [35, 36, 37, 38, 39, 40]) (RP [35, 36, 37, 38, 39, 40] P) J (fun _ W => JN W) 6 8 rfl (by kernel_rfl) (by kernel_rfl) (by kernel_rfl) (by kernel_rfl) (HJD.out _ HJ0.out) (fun j f q v W hq h => RP.upd hq h) ?_ ?_ ?_
        case refine_1 =>
          intro iq hiq f W hIW hdep0
          have hiq' : iq < 6 := hiq
          have hdep : ∀ j, j < 6 → depB _ iq j = true → P j (f (slotS [35, 36, 37, 38, 39, 40] j)) W := hdep0
          clear hdep0
          generalize ha1 : putsL _ [35, 36, 37, 38, 39, 40] f = a1
          match iq, hiq', hdep with
          | 0, _, hdep0 =>
            have E7 : a1.tmps[7]?.getD undef = .pointer (some ⟨bS, 0, none⟩) := by rw [← ha1]; exact (putsL_out2 _ _ _ _ (by decide)).trans rfl
            have v0 : W.cell? ⟨bS, 0, none⟩ = some (.int .i64 am0) := by simpa using HCS5.out W hIW 0
            have v1 : W.cell? ⟨bS, 1, none⟩ = some (.int .i64 am1) := by simpa using HCS5.out W hIW 1
            have v2 : W.cell? ⟨bS, 2, none⟩ = some (.int .i64 am2) := by simpa using HCS5.out W hIW 2
            have v3 : W.cell? ⟨bS, 3, none⟩ = some (.int .i64 am3) := by simpa using HCS5.out W hIW 3
            have v4 : W.cell? ⟨bS, 4, none⟩ = some (.int .i64 am4) := by simpa using HCS5.out W hIW 4
            exact wpOp_val rfl rfl (v := .agg #[.int .i64 am0, .int .i64 am1, .int .i64 am2, .int .i64 am3, .int .i64 am4]) (w' := W) (by simp [execOp, go_sem, E7, v0, v1, v2, v3, v4]) ⟨hIW, fun _ h => h, _, by decide, rfl, RP.set ((HPI0.out _ _).2 rfl)⟩
          | 1, _, hdep0 =>
            have E9 : a1.tmps[9]?.getD undef = .pointer (some ⟨bX, 0, none⟩) := by rw [← ha1]; exact (putsL_out2 _ _ _ _ (by decide)).trans rfl
            have v0 : W.cell? ⟨bX, 0, none⟩ = some (.int .i64 x0) := by simpa using HCX.out W hIW 0
            have v1 : W.cell? ⟨bX, 1, none⟩ = some (.int .i64 x1) := by simpa using HCX.out W hIW 1
            have v2 : W.cell? ⟨bX, 2, none⟩ = some (.slice xa pn xc) := by simpa using HCX.out W hIW 2
            exact wpOp_val rfl rfl (v := .agg #[.int .i64 x0, .int .i64 x1, .slice xa pn xc]) (w' := W) (by simp [execOp, go_sem, E9, v0, v1, v2]) ⟨hIW, fun _ h => h, _, by decide, rfl, RP.set ((HPI1.out _ _).2 rfl)⟩
          | 2, _, hdep0 =>
            have hd1 := (HPI1.out _ _).1 (hdep0 1 (by decide) (by kernel_rfl))
            have E36 : a1.tmps[36]?.getD undef = .agg #[.int .i64 x0, .int .i64 x1, .slice xa pn xc] := by rw [← ha1]; exact (putsL_in2 _ _ _ _ (by decide) (show 36 < 43 from by decide)).trans hd1
            refine wpOp_call rfl rfl (n := 35) (vs := #[.agg #[.int .i64 x0, .int .i64 x1, .slice xa pn xc]]) (by have := egB #[.agg #[.int .i64 x0, .int .i64 x1, .slice xa pn xc]] W; simp [execOp, E36, resolve, invoke, go_sem] <;> exact this) ((HBK.out W hIW).mono fun e w' hh => (by obtain ⟨u, lq, rfl, p0, hJ', hb'⟩ := hh; exact ⟨_, rfl, (HPI2.out _ _).2 ⟨_, _, rfl, p0⟩, hJ', hb'⟩ : ∃ v, e = .returned v ∧ (P 2 v w' ∧ J w' ∧ Below W.heap.size W w'))) ?_
            rintro v w' ⟨hv, hI', hb'⟩
            exact ⟨hI', fun j h => HKP.out j _ _ _ hb' h, _, by decide, rfl, RP.set hv⟩
          | 3, _, hdep0 =>
            have E1 : a1.tmps[1]?.getD undef = .int .i64 y := by rw [← ha1]; exact (putsL_out2 _ _ _ _ (by decide)).trans rfl
            exact wpOp_val rfl rfl (v := .int .i64 y) (w' := W) (by simp [execOp, go_sem, E1]) ⟨hIW, fun _ h => h, _, by decide, rfl, RP.set ((HPI3.out _ _).2 rfl)⟩
          | 4, _, hdep0 =>
            have hd2 := (HPI2.out _ _).1 (hdep0 2 (by decide) (by kernel_rfl))
            have hd3 := (HPI3.out _ _).1 (hdep0 3 (by decide) (by kernel_rfl))
            obtain ⟨u, lq, q2, r2_0⟩ := hd2
            have E37 : a1.tmps[37]?.getD undef = .agg #[u] := by rw [← ha1]; exact (putsL_in2 _ _ _ _ (by decide) (show 37 < 43 from by decide)).trans q2
            have E38 : a1.tmps[38]?.getD undef = .int .i64 y := by rw [← ha1]; exact (putsL_in2 _ _ _ _ (by decide) (show 38 < 43 from by decide)).trans hd3
            refine wpOp_call rfl rfl (n := 33) (vs := #[.agg #[u], .int .i64 y]) (by have := egT #[.agg #[u], .int .i64 y] W; simp [execOp, E37, E38, resolve, invoke, go_sem] <;> exact this) ((HTT.out u lq W hIW r2_0).mono fun e w' hh => (by obtain ⟨rfl, hJ', hb'⟩ := hh; exact ⟨_, rfl, (HPI4.out _ _).2 rfl, hJ', hb'⟩ : ∃ v, e = .returned v ∧ (P 4 v w' ∧ J w' ∧ Below W.heap.size W w'))) ?_
            rintro v w' ⟨hv, hI', hb'⟩
            exact ⟨hI', fun j h => HKP.out j _ _ _ hb' h, _, by decide, rfl, RP.set hv⟩
          | 5, _, hdep0 =>
            have hd0 := (HPI0.out _ _).1 (hdep0 0 (by decide) (by kernel_rfl))
            have hd4 := (HPI4.out _ _).1 (hdep0 4 (by decide) (by kernel_rfl))
            have E35 : a1.tmps[35]?.getD undef = .agg #[.int .i64 am0, .int .i64 am1, .int .i64 am2, .int .i64 am3, .int .i64 am4] := by rw [← ha1]; exact (putsL_in2 _ _ _ _ (by decide) (show 35 < 43 from by decide)).trans hd0
            have E39 : a1.tmps[39]?.getD undef = .agg #[.int .i64 tm0, .int .i64 tm1, .int .i64 tm2, .int .i64 tm3, .int .i64 tm4] := by rw [← ha1]; exact (putsL_in2 _ _ _ _ (by decide) (show 39 < 43 from by decide)).trans hd4
            refine wpOp_call rfl rfl (n := 34) (vs := #[.agg #[.int .i64 am0, .int .i64 am1, .int .i64 am2, .int .i64 am3, .int .i64 am4], .agg #[.int .i64 tm0, .int .i64 tm1, .int .i64 tm2, .int .i64 tm3, .int .i64 tm4]]) (by have := egU #[.agg #[.int .i64 am0, .int .i64 am1, .int .i64 am2, .int .i64 am3, .int .i64 am4], .agg #[.int .i64 tm0, .int .i64 tm1, .int .i64 tm2, .int .i64 tm3, .int .i64 tm4]] W; simp [execOp, E35, E39, resolve, invoke, go_sem] <;> exact this) ((HUU.out W hIW).mono fun e w' hh => (by obtain ⟨rfl, hJ', hb'⟩ := hh; exact ⟨_, rfl, (HPI5.out _ _).2 rfl, hJ', hb'⟩ : ∃ v, e = .returned v ∧ (P 5 v w' ∧ J w' ∧ Below W.heap.size W w'))) ?_
            rintro v w' ⟨hv, hI', hb'⟩
            exact ⟨hI', fun j h => HKP.out j _ _ _ hb' h, _, by decide, rfl, RP.set hv⟩
          | iq + 6, h, _ => exact absurd h (by omega)
        case refine_2 =>
          intro f W hIW hdep0
          have hdep : ∀ j, j < 6 → P j (f (slotS [35, 36, 37, 38, 39, 40] j)) W := hdep0
          clear hdep0
          generalize ha1 : putsL _ [35, 36, 37, 38, 39, 40] f = a1
          have E7 : a1.tmps[7]?.getD undef = .pointer (some ⟨bS, 0, none⟩) := by rw [← ha1]; exact (putsL_out2 _ _ _ _ (by decide)).trans rfl
          have E40 : a1.tmps[40]?.getD undef = .agg #[.int .i64 (am0 + tm0), .int .i64 (am1 + tm1), .int .i64 (am2 + tm2), .int .i64 (am3 + tm3), .int .i64 (am4 + tm4)] := by rw [← ha1]; exact (putsL_in2 _ _ _ _ (by decide) (show 40 < 43 from by decide)).trans ((HPI5.out _ _).1 (hdep 5 (by decide)))
          have hS := HMS.out W hIW
          have p0 := obj_cell hS 0
          have p1 := obj_cell hS 1
          have p2 := obj_cell hS 2
          have p3 := obj_cell hS 3
          have p4 := obj_cell hS 4
          simp at p0 p1 p2 p3 p4
          have f0 := obj_free hS 0
          have f1 := obj_free hS 1
          have f2 := obj_free hS 2
          have f3 := obj_free hS 3
          have f4 := obj_free hS 4
          exact wpOp_skip rfl rfl (w' := put5 W bS (.int .i64 (am0 + tm0)) (.int .i64 (am1 + tm1)) (.int .i64 (am2 + tm2)) (.int .i64 (am3 + tm3)) (.int .i64 (am4 + tm4))) (by unfold put5; simp [execOp, go_sem, E7, E40, p0, p1, p2, p3, p4, f0, f1, f2, f3, f4]) ⟨rfl, HPUT.out W hIW⟩
        case refine_3 =>
          intro f W hIW
          simp only [putsL, List.foldl_cons, List.foldl_nil, Act.put, List.setIfInBounds_toArray, List.set_cons_zero, List.set_cons_succ]
          have HB9 := Lib.hid ((HJNO.out _ hIW).1)
          have HS9 : Hid (W.heap[bS]? = some (.cells #[.int .i64 (SM (k + 1)).ast, .int .i64 (SM (k + 1)).lia, .int .i64 (SM (k + 1)).wor, .int .i64 (SM (k + 1)).rev, .int .i64 (SM (k + 1)).exp] 38 (0, 0))) := Lib.hid (by rw [HSR.out]; exact (HJNO.out _ hIW).2)
          clear hIW HSR HJ0 HJD HCX HCS5 HMS HBK HTT HUU HPUT HJNO HJO HJI HJA
          go_wp2
          go_roundw
          case rel => exact ⟨k + 1, by first | rfl | go_num, by omega, HB9, HS9⟩
          case measure => simp [RowKit.intOf]; omega
      · rw [if_neg hyy] at hss
        have HS9 : Hid (w8.heap[bS]? = some (.cells #[.int .i64 (SM (k + 1)).ast, .int .i64 (SM (k + 1)).lia, .int .i64 (SM (k + 1)).wor, .int .i64 (SM (k + 1)).rev, .int .i64 (SM (k + 1)).exp] 38 (0, 0))) := Lib.hid (by rw [hss]; exact HS8.out)
        clear hss
        go_wp2
        go_roundw
        case rel => exact ⟨k + 1, by first | rfl | go_num, by omega, HB8, HS9⟩
        case measure => simp [RowKit.intOf]; omega
    · obtain hkk : k = n := by omega
      rw [hkk] at HS
      have HBF := Lib.hid (HB3.out.trans (HB.out.mono HB3.out.size))
      have HRF := Lib.hid (obj_below HR3.out HB.out)
      have hs := HS.out
      have x0 := obj_cell hs 0
      have x1 := obj_cell hs 1
      have x2 := obj_cell hs 2
      have x3 := obj_cell hs 3
      have x4 := obj_cell hs 4
      simp at x0 x1 x2 x3 x4
      have hr := HRF.out
      have r0 := obj_cell hr 0
      have r1 := obj_cell hr 1
      have r2 := obj_cell hr 2
      have r3 := obj_cell hr 3
      have r4 := obj_cell hr 4
      simp at r0 r1 r2 r3 r4
      have fr0 := obj_free hr 0
      have fr1 := obj_free hr 1
      have fr2 := obj_free hr 2
      have fr3 := obj_free hr 3
      have fr4 := obj_free hr 4
      clear hs hr
      go_wp2
      refine ret5 HRF.out rfl _ _ _ _ _ (v := .tuple #[.agg #[.int .i64 (SM n).ast, .int .i64 (SM n).lia, .int .i64 (SM n).wor, .int .i64 (SM n).rev, .int .i64 (SM n).exp], .int .i64 0]) (fun F hF => ?_) rfl ⟨rfl, put5_below HBF.out HLR.out _ _ _ _ _⟩
      have q0 := obj_cell hF 0
      have q1 := obj_cell hF 1
      have q2 := obj_cell hF 2
      have q3 := obj_cell hF 3
      have q4 := obj_cell hF 4
      simp at q0 q1 q2 q3 q4
      simp [results, Try.results15, go_sem, q0, q1, q2, q3, q4]

end Go.Proofs.Ytoccnindkimjdaa
