/- The reference of histories: Restated of right ones. -/
import Derived.Test.YtoccnindkimjdaaMRsF
import Derived.Test.YtoccnindkimjdaaMOwnO
set_option linter.unusedSimpArgs false
set_option linter.unusedVariables false
set_option linter.unusedSimpArgs false
set_option linter.unusedVariables false
namespace Go.Proofs.Ytoccnindkimjdaa
open Go.RowKit Go.Lib Go.Proofs

theorem Try.infoRsPst : (Try.prog.info? 55).map (fun i => (i.zero, i.size, i.bytes)) = some (some (.agg #[.int .i64 0, .int .i64 0, .int .i64 0, .int .i64 0, .int .i64 0, .int .i64 0, .int .i64 0, .int .i64 0]), 8, 64) := by kernel_rfl

set_option maxRecDepth 100000 in
set_option maxHeartbeats 16000000 in
theorem rfRestated_ok {h : Hst} (hh : HstOk h) {y : Int} (hy : 0 ≤ y ∧ y ≤ 99) (vl vp vc : Value) (w : World) (ha : HstAt w vl vp vc h) :
    Calls Try.prog 46 #[.agg #[vl, vp, vc], .int .i64 y] w fun e w' => e = .returned (.tuple #[.agg (stmA (restM y h)), .int .i64 0]) ∧ Below w.heap.size w w' := by
  obtain ⟨i0, hi0, hz0, hz1, hz2⟩ := info_parts Try.infoRsPst
  have HCK := Lib.hid (fun W (hW : Below w.heap.size w W) => rfCheck_right hh vl vp vc W (ha.below hW))
  have hsi := stM_in (y := y) (hh.allMem y) (show (allM y h).length ≤ 200 by have := hh.allLen y; omega)
  have HST := Lib.hid (fun v W (hl : PstsAt W v (allM y h)) => rgState_all (hh.allMem y) (show (allM y h).length ≤ 200 by have := hh.allLen y; omega) hy v W hl)
  change StmIn _ (restM y h) at hsi
  have hll : ∀ k, (h.led ++ corPs y (h.cors.take k)).length ≤ 160 := fun k => by
    have h1 := corPs_len (y := y) (l := h.cors.take k) fun c hc => hh.cor c (List.mem_of_mem_take hc)
    have h2 := hh.nc
    have h3 := hh.ln
    have h4 : (h.cors.take k).length ≤ h.cors.length := by rw [List.length_take]; omega
    rw [List.length_append]
    omega
  have HLL := Lib.hid hll
  have hco := fun k (hk : k < h.cors.length) => (hh.cor _ (List.getElem_mem hk)).len
  have HCO := Lib.hid hco
  obtain ⟨L, P, C⟩ := h
  obtain ⟨hal, hap, rs, hac, hcr⟩ := ha
  have hnc := hh.nc
  have hn0 := hh.ln
  simp only at hnc hn0 hal hap hac hcr HCO HLL
  have hall : allM y ⟨L, P, C⟩ = L ++ corPs y C := rfl
  rw [hall] at HST
  obtain ⟨R, hR⟩ : ∃ R, R = restM y ⟨L, P, C⟩ := ⟨_, rfl⟩
  have hRe : stM y (L ++ corPs y C) = R := hR.symm
  rw [hRe] at HST
  rw [← hR] at hsi ⊢
  obtain ⟨s0, s1, s2, s3, s4⟩ := R
  obtain ⟨b0, b1, b2, b3, b4⟩ := hsi
  simp only [stmA] at b0 b1 b2 b3 b4 HST ⊢
  clear hR hRe hall hco hll hap
  obtain ⟨al, cl, rfl, hcl, -⟩ := hal.shape pstF
  obtain ⟨ac, cc, rfl, hcc', hcs⟩ := hac.shape crrF
  have hrl := hcr.len
  have HCS := Lib.hid hcs
  have HLA := Lib.hid (fun W (hW : Below w.heap.size w W) => newsOf pstF (hal.below hW))
  have HCR := Lib.hid (fun W (hW : Below w.heap.size w W) => hcr.imp fun v l (q : PstsAt w v l) => (ListAt.below q hW : PstsAt W v l))
  rw [hrl] at hcc' HCK ⊢
  have HLC := Lib.hid (cellsL_len pstF L)
  obtain ⟨n0, hn0'⟩ : ∃ n0, n0 = L.length := ⟨_, rfl⟩
  obtain ⟨n, hn⟩ : ∃ n, n = C.length := ⟨_, rfl⟩
  have HN := Lib.hid hn
  have HN0 := Lib.hid hn0'
  have HRL := Lib.hid hrl
  rw [← hn] at hcc' hnc HCK ⊢
  rw [← hn0'] at hcl hn0 HCK HLA HLC ⊢
  have h36 : IntKind.i64.wrap (360 * y) = 360 * y := IntWalk.i64_in _ (by omega)
  have h37 : IntKind.i64.wrap (360 * y + 359) = 360 * y + 359 := IntWalk.i64_in _ (by omega)
  obtain ⟨w1, hw1⟩ : ∃ w1, w1 = (w.alloc (.cells #[.slice al n0 cl, vp, .slice ac n cc] 31)).alloc (.cells #[.int .i64 0, .int .i64 0, .int .i64 0, .int .i64 0, .int .i64 0] 38) := ⟨_, rfl⟩
  obtain ⟨bH, hbH⟩ : ∃ b, b = w.heap.size := ⟨_, rfl⟩
  obtain ⟨bR, hbR⟩ : ∃ b, b = w.heap.size + 1 := ⟨_, rfl⟩
  have HX1 : Hid (w1.heap[bH]? = some (.cells #[.slice al n0 cl, vp, .slice ac n cc] 31 (0, 0))) := Lib.hid (by rw [hw1, hbH]; exact alloc1_at w _ _)
  have HR1 : Hid (w1.heap[bR]? = some (.cells #[.int .i64 0, .int .i64 0, .int .i64 0, .int .i64 0, .int .i64 0] 38 (0, 0))) := Lib.hid (by rw [hw1, hbR]; exact alloc2_at w _ _)
  have HB1 : Hid (Below w.heap.size w w1) := Lib.hid (by rw [hw1]; exact below2 w _ _)
  have HW1 := Lib.hid hw1
  have HBH := Lib.hid hbH
  have HBR := Lib.hid hbR
  have hbx := HX1.out
  have ub0 := obj_cell hbx 0
  have ub1 := obj_cell hbx 1
  have ub2 := obj_cell hbx 2
  simp at ub0 ub1 ub2
  clear hn hn0' hrl hcs hal hac hcr hw1 hbH hbR hbx hh
  go_enter Try.func46, Try.ntmps46
  go_upto_region 1 with fail
  rw [← HW1.out, ← HBR.out, ← HBH.out]
  go_wp2_with fail
  refine (HCK.out _ HB1.out).mono ?_
  rintro e w2 ⟨rfl, hb2⟩
  have HX2 := Lib.hid (obj_below HX1.out hb2)
  have HR2 := Lib.hid (obj_below HR1.out hb2)
  have HB2 := Lib.hid (HB1.out.trans (hb2.mono HB1.out.size))
  have hbx := HX2.out
  clear ub0 ub1 ub2 hb2
  have ub0 := obj_cell hbx 0
  have ub1 := obj_cell hbx 1
  have ub2 := obj_cell hbx 2
  simp at ub0 ub1 ub2
  clear hbx HCK HX1 HB1 HR1
  go_wp2_with fail
  refine (rfyear_yes _ hy.1 hy.2).mono ?_
  rintro e w2' ⟨rfl, rfl⟩
  go_wp2_with (at_builtin; go_loud (refine wpList_ownO _ (by rfl) _ _ 25 (by rfl) w2.heap.size 55 i0 (.agg #[.int .i64 0, .int .i64 0, .int .i64 0, .int .i64 0, .int .i64 0, .int .i64 0, .int .i64 0, .int .i64 0]) 8 64 Try.underlying25 hi0 hz0 hz1 hz2 (by rfl) (by decide) (.slice none 0 0) 0 [] (by rfl) (World.ownsRow_nil _ _ _ _) _ _ _ (cellsL pstC L) (by rfl) HLC.out (HLA.out _ HB2.out) (cellsL_one pstF _) (by unfold maxLen; omega) (by omega) (Nat.le_refl _) ?_); intro v3 w3 hown3 hgr3; (have hb3 : Below w2.heap.size w2 w3 := (Below.refl _ _).grown hgr3 (Nat.le_refl _) (by intro k hk; simp [Value.ownBlock] at hk)); (rw [Nat.zero_add, List.nil_append] at hown3); (have HO3 := Lib.hid hown3); (have HB3 := Lib.hid hb3); (have hx3 := obj_below HX2.out hb3); (have vb2 := obj_cell hx3 2); (simp at vb2); (clear hown3 hb3 hgr3 hx3))
  obtain ⟨PP, hPP⟩ : ∃ PP : Nat → List Pst, PP = fun k => L ++ corPs y (C.take k) := ⟨_, rfl⟩
  have HPS : Hid (∀ k (hk : k < C.length), PP (k + 1) = PP k ++ (if (C[k]).yr ≤ y then (C[k]).ps else [])) := Lib.hid fun k hk => by
    rw [hPP]
    show L ++ corPs y (C.take (k + 1)) = (L ++ corPs y (C.take k)) ++ _
    rw [List.take_succ_eq_append_getElem hk, corPs_snoc, List.append_assoc]
  have HPL : Hid (∀ k, (PP k).length ≤ 160) := Lib.hid fun k => by rw [hPP]; exact HLL.out k
  have hP0 : PP 0 = L := by rw [hPP]; simp [corPs]
  have HPN : Hid (PP n = L ++ corPs y C) := Lib.hid (by rw [hPP]; show L ++ corPs y (C.take n) = _; rw [HN.out, List.take_length])
  have HO3' : Hid (w3.ownsRow w2.heap.size 55 8 v3 (PP 0).length (cellsL pstC (PP 0))) := Lib.hid (by rw [hP0, ← HN0.out]; exact HO3.out)
  clear hPP hP0 HO3 HLL HLA ub0 ub1 ub2
  go_loopw [30, 7] (fun iv av wr => ∃ k : Nat, iv = .int .i64 k ∧ k ≤ n ∧ Hid (Below w2.heap.size w2 wr) ∧ Hid (wr.ownsRow w2.heap.size 55 8 av (PP k).length (cellsL pstC (PP k)))) (fun iv _ _ => n - (RowKit.intOf iv).toNat)
  case atStart => exact ⟨0, rfl, by omega, HB3, HO3'⟩
  case round =>
    clear vb2 HB3 HO3'
    obtain ⟨k, rfl, hkn, HB, HO⟩ := hrel
    by_cases hlt : k < n
    · have hkC : k < C.length := by rw [← HN.out]; exact hlt
      have hkR : k < rs.length := by rw [HRL.out]; exact hkC
      obtain ⟨b, o, rfl, hb, hcc⟩ := HCS.out (by omega)
      have HWB := Lib.hid (HB2.out.trans (HB.out.mono HB2.out.size))
      have hcell := fun j (hj : j < 3) => (HWB.out.cell (p := ⟨b, o + k * 3 + j, none⟩) hb).trans (hcc k hkR j hj)
      have hg := (HCR.out wr HWB.out).get k hkR hkC
      have hps := HPS.out k hkC
      have hlp := HPL.out k
      have hcl := (HCO.out k hkC)
      generalize rs[k] = x at *
      generalize C[k] = cx at *
      obtain ⟨x0, x1, xa, xn, xc⟩ := x
      obtain ⟨cy, cf, cp⟩ := cx
      obtain ⟨g1, g2, g3⟩ := hg
      simp only [Sli.v] at g1 g2 g3 hps hcl
      subst g1
      subst g2
      obtain ⟨xa', xc', e1, -, -⟩ := g3.shape pstF
      injection e1 with ea e2 ec
      subst ea
      subst ec
      subst e2
      have c0 := hcell 0 (by omega)
      have c1 := hcell 1 (by omega)
      have c2 := hcell 2 (by omega)
      simp [crrC] at c0 c1 c2
      have hwk : IntKind.i64.wrap ((k : Int) + 1) = (k : Int) + 1 := IntWalk.i64_in _ (by omega)
      have hk0 : (0 : Int) ≤ (k : Int) := by omega
      have hk1 : (k : Int) < (n : Int) := by omega
      obtain ⟨pn, hpn⟩ : ∃ q, q = cp.length := ⟨_, rfl⟩
      obtain ⟨w8, hw8⟩ : ∃ W, W = wr.alloc (.cells #[.int .i64 x0, .int .i64 x1, .slice xa pn xc] 49) := ⟨_, rfl⟩
      obtain ⟨bX, hbX⟩ : ∃ q, q = wr.heap.size := ⟨_, rfl⟩
      have hx8 : w8.heap[bX]? = some (.cells #[.int .i64 x0, .int .i64 x1, .slice xa pn xc] 49 (0, 0)) := by rw [hw8, hbX]; exact heap_alloc_new _ _
      have HB8 : Hid (Below w2.heap.size w2 w8) := Lib.hid (by rw [hw8]; exact HB.out.alloc HB.out.size _)
      have HO8 : Hid (w8.ownsRow w2.heap.size 55 8 u7 (PP k).length (cellsL pstC (PP k))) := Lib.hid (by rw [hw8]; exact ownsRow_below HO.out (below_alloc _ _))
      have HN8 := Lib.hid (newsOf pstF (show ListAt pstC 8 w8 (.slice xa cp.length xc) cp from g3.below (by rw [hw8]; exact below_alloc _ _)))
      have HLC8 := Lib.hid (cellsL_len pstF cp)
      have y0 := obj_cell hx8 0
      have y1 := obj_cell hx8 1
      have y2 := obj_cell hx8 2
      simp at y0 y1 y2
      obtain ⟨pk, hpk⟩ : ∃ q, q = (PP k).length := ⟨_, rfl⟩
      have HPK := Lib.hid hpk
      rw [← hpn] at hcl c2 HN8 HLC8
      rw [← hpk] at HO8 hlp
      have HPN' := Lib.hid hpn
      have HW8 := Lib.hid hw8
      have HBX := Lib.hid hbX
      clear hcell hcc hw8 hbX hx8 g3 hpn hpk
      go_upto_region 10 with fail
      rw [← HW8.out, ← HBX.out]
      clear c0 c1 c2
      by_cases hyy : x0 ≤ y
      · rw [if_pos hyy] at hps
        have HPS2 := Lib.hid hps
        clear hps
        obtain ⟨aa, ca, rfl, -, -⟩ := owns_gen HO8.out
        go_wp2_with (at_builtin; go_loud (refine wpList_ownO _ (by rfl) _ _ 25 (by rfl) w2.heap.size 55 i0 (.agg #[.int .i64 0, .int .i64 0, .int .i64 0, .int .i64 0, .int .i64 0, .int .i64 0, .int .i64 0, .int .i64 0]) 8 64 Try.underlying25 hi0 hz0 hz1 hz2 (by rfl) (by decide) _ _ _ (by rfl) HO8.out _ _ _ (cellsL pstC cp) (by rfl) HLC8.out HN8.out (cellsL_one pstF _) (by unfold maxLen; omega) (by omega) HB8.out.size ?_); intro v9 w9 hown9 hgr9; (have hb9 : Below w2.heap.size w2 w9 := HB8.out.grown hgr9 HB8.out.size (fun r hr => ownBlock_le HO8.out r hr)); (have HO9 : Hid (w9.ownsRow w2.heap.size 55 8 v9 (PP (k + 1)).length (cellsL pstC (PP (k + 1)))) := Lib.hid (by rw [HPS2.out, cellsL_app, List.length_append, ← HPK.out, ← HPN'.out]; exact hown9)); (have HB9 := Lib.hid hb9); (clear hown9 hgr9 hb9))
        go_roundw
        case rel => exact ⟨k + 1, by first | rfl | go_num, by omega, HB9, HO9⟩
        case measure => simp [RowKit.intOf]; omega
      · rw [if_neg hyy, List.append_nil] at hps
        have HO9 : Hid (w8.ownsRow w2.heap.size 55 8 u7 (PP (k + 1)).length (cellsL pstC (PP (k + 1)))) := Lib.hid (by rw [hps, ← HPK.out]; exact HO8.out)
        clear hps
        go_wp2
        go_roundw
        case rel => exact ⟨k + 1, by first | rfl | go_num, by omega, HB8, HO9⟩
        case measure => simp [RowKit.intOf]; omega
    · obtain rfl : k = n := by omega
      have HWB := Lib.hid (HB2.out.trans (HB.out.mono HB2.out.size))
      have hlv : PstsAt wr u7 (L ++ corPs y C) := by
        have := HO.out
        rw [HPN.out] at this
        exact ListAt.owns this
      have HSW := Lib.hid (HST.out u7 wr hlv)
      have HRW := Lib.hid (obj_below HR2.out HB.out)
      clear hlv HO HST HPN HPS HPL HCS HCO HCR HB HX2 HR2
      go_wp2_with fail
      refine (HSW.out).mono ?_
      rintro e w5 ⟨rfl, hb5⟩
      have HB5 := Lib.hid (HWB.out.trans (hb5.mono HWB.out.size))
      have HR5 := Lib.hid (obj_below HRW.out hb5)
      obtain ⟨w6, hw6⟩ : ∃ W, W = w5.alloc (.cells #[.int .i64 s0, .int .i64 s1, .int .i64 s2, .int .i64 s3, .int .i64 s4] 38) := ⟨_, rfl⟩
      obtain ⟨bS, hbS⟩ : ∃ b, b = w5.heap.size := ⟨_, rfl⟩
      have HS6 : Hid (w6.heap[bS]? = some (.cells #[.int .i64 s0, .int .i64 s1, .int .i64 s2, .int .i64 s3, .int .i64 s4] 38 (0, 0))) := Lib.hid (by rw [hw6, hbS]; exact heap_alloc_new _ _)
      have HR6 : Hid (w6.heap[bR]? = some (.cells #[.int .i64 0, .int .i64 0, .int .i64 0, .int .i64 0, .int .i64 0] 38 (0, 0))) := Lib.hid (by rw [hw6]; exact obj_below HR5.out (below_alloc _ _))
      have HB6 : Hid (Below w.heap.size w w6) := Lib.hid (by rw [hw6]; exact HB5.out.alloc HB5.out.size _)
      have hs6 := HS6.out
      have t0 := obj_cell hs6 0
      have t1 := obj_cell hs6 1
      have t2 := obj_cell hs6 2
      have t3 := obj_cell hs6 3
      have t4 := obj_cell hs6 4
      simp at t0 t1 t2 t3 t4
      have hr6 := HR6.out
      have r0 := obj_cell hr6 0
      have r1 := obj_cell hr6 1
      have r2 := obj_cell hr6 2
      have r3 := obj_cell hr6 3
      have r4 := obj_cell hr6 4
      simp at r0 r1 r2 r3 r4
      have fr0 := obj_free hr6 0
      have fr1 := obj_free hr6 1
      have fr2 := obj_free hr6 2
      have fr3 := obj_free hr6 3
      have fr4 := obj_free hr6 4
      have HW6 := Lib.hid hw6
      have HBS := Lib.hid hbS
      clear hw6 hbS hs6 hr6 hb5 HR5 HB5 HSW
      go_upto_region 14 with fail
      rw [← HW6.out, ← HBS.out]
      go_wp2
      go_loopw [61] (fun iv wz => ∃ k : Nat, iv = .int .i64 k ∧ k ≤ 5 ∧ wz = w6) (fun iv _ => 5 - (RowKit.intOf iv).toNat)
      case atStart => exact ⟨0, rfl, by omega, rfl⟩
      case round =>
        clear HW6 HBS
        obtain ⟨k, rfl, hkn, rfl⟩ := hrel
        by_cases hlt : k < 5
        · obtain ⟨q, hq0, hq1, hix⟩ : ∃ q : Int, -1000000000000000 ≤ q ∧ q ≤ 1000000000000000 ∧ ∀ W : World, (Instr.index 94 (.agg #[.int .i64 s0, .int .i64 s1, .int .i64 s2, .int .i64 s3, .int .i64 s4]) (.int .i64 (k : Int))).run Try.prog W = .ok (.int .i64 q) W := by
            have hu : Try.prog.underlying 94 = some (.array 5 3) := by kernel_rfl
            rcases (show k = 0 ∨ k = 1 ∨ k = 2 ∨ k = 3 ∨ k = 4 by omega) with rfl | rfl | rfl | rfl | rfl
            · exact ⟨s0, by omega, by omega, fun W => by simp [Instr.index, go_sem, run_underlying hu, part]⟩
            · exact ⟨s1, by omega, by omega, fun W => by simp [Instr.index, go_sem, run_underlying hu, part]⟩
            · exact ⟨s2, by omega, by omega, fun W => by simp [Instr.index, go_sem, run_underlying hu, part]⟩
            · exact ⟨s3, by omega, by omega, fun W => by simp [Instr.index, go_sem, run_underlying hu, part]⟩
            · exact ⟨s4, by omega, by omega, fun W => by simp [Instr.index, go_sem, run_underlying hu, part]⟩
          have hk0 : (0 : Int) ≤ (k : Int) := by omega
          have hk1 : (k : Int) < 5 := by omega
          have hwk : IntKind.i64.wrap ((k : Int) + 1) = (k : Int) + 1 := IntWalk.i64_in _ (by omega)
          go_wp2_with fail
          refine (rTotal_yes _ hq0 hq1).mono ?_
          rintro e w' ⟨rfl, rfl⟩
          go_wp2
          go_roundw
          case rel => exact ⟨k + 1, by first | rfl | go_num, by omega, by first | trivial | rfl⟩
          case measure => simp [RowKit.intOf]; omega
        · obtain rfl : k = 5 := by omega
          have HLO : Hid (w.heap.size ≤ bR) := Lib.hid (by rw [HBR.out]; omega)
          go_wp2
          refine ret5 HR6.out rfl _ _ _ _ _ (v := .tuple #[.agg #[.int .i64 s0, .int .i64 s1, .int .i64 s2, .int .i64 s3, .int .i64 s4], .int .i64 0]) (fun F hF => ?_) rfl ⟨rfl, put5_below HB6.out HLO.out _ _ _ _ _⟩
          have q0 := obj_cell hF 0
          have q1 := obj_cell hF 1
          have q2 := obj_cell hF 2
          have q3 := obj_cell hF 3
          have q4 := obj_cell hF 4
          simp at q0 q1 q2 q3 q4
          simp [results, Try.results46, go_sem, q0, q1, q2, q3, q4]

end Go.Proofs.Ytoccnindkimjdaa
