/- The package's Effect and Explained of right histories. -/
import Derived.Test.YtoccnindkimjdaaMG5
set_option linter.unusedSimpArgs false
set_option linter.unusedVariables false
set_option linter.unusedSimpArgs false
set_option linter.unusedVariables false
namespace Go.Proofs.Ytoccnindkimjdaa
open Go.RowKit Go.Lib Go.Proofs

set_option maxRecDepth 100000 in
set_option maxHeartbeats 16000000 in
theorem rsEffect_ok {h : Hst} (hh : HstOk h) {y : Int} (hy : 0 ≤ y ∧ y ≤ 99) (vl vp vc : Value) (w : World) (ha : HstAt w vl vp vc h) :
    Calls Try.prog 20 #[.agg #[vl, vp, vc], .int .i64 y] w fun e w' => e = .returned (.tuple #[.int .i64 (effM y h.cors), .int .i64 0]) ∧ Below w.heap.size w w' := by
  have HCK := Lib.hid (fun W (hW : Below w.heap.size w W) => rsCheck_right hh vl vp vc W (ha.below hW))
  have HCO := Lib.hid hh.cor
  have hnc := hh.nc
  obtain ⟨rs, hac, hcr⟩ := ha.cors
  obtain ⟨al, ap, -, cl, cp, -, rfl, rfl, -⟩ := ha.parts
  obtain ⟨ac, cc, rfl, hcc', hcs⟩ := hac.shape crrF
  have hrl := hcr.len
  have HCS := Lib.hid hcs
  have HCR := Lib.hid (fun W (hW : Below w.heap.size w W) => hcr.imp fun v l (q : PstsAt w v l) => (ListAt.below q hW : PstsAt W v l))
  obtain ⟨nl, hnl⟩ : ∃ q, q = h.led.length := ⟨_, rfl⟩
  obtain ⟨np, hnp⟩ : ∃ q, q = h.pres.length := ⟨_, rfl⟩
  obtain ⟨C, hC⟩ : ∃ C, C = h.cors := ⟨_, rfl⟩
  rw [← hC] at HCO hnc hcr hrl HCR ⊢
  rw [hrl] at hcc' HCK ⊢
  rw [← hnl, ← hnp] at HCK ⊢
  obtain ⟨EM, hEM⟩ : ∃ E : Nat → Int, E = fun k => effM y (C.take k) := ⟨_, rfl⟩
  have HE0 : Hid (EM 0 = 0) := Lib.hid (by rw [hEM]; rfl)
  have HEN : Hid (effM y C = EM C.length) := Lib.hid (by rw [hEM]; show _ = effM y (C.take C.length); rw [List.take_length])
  have HES : Hid (∀ k (hk : k < C.length), EM (k + 1) = EM k + (if (C[k]).yr = y then effL (C[k]).ps else 0)) := Lib.hid fun k hk => by
    rw [hEM]
    show effM y (C.take (k + 1)) = _
    rw [List.take_succ_eq_append_getElem hk, effM_snoc]
  have HEB : Hid (∀ k, -60000 ≤ EM k ∧ EM k ≤ 60000) := Lib.hid fun k => by
    rw [hEM]
    have h1 := effM_small (y := y) (l := C.take k) fun c hc => HCO.out c (List.mem_of_mem_take hc)
    have h2 : (C.take k).length ≤ C.length := by rw [List.length_take]; omega
    show -60000 ≤ effM y (C.take k) ∧ effM y (C.take k) ≤ 60000
    omega
  obtain ⟨n, hn⟩ : ∃ n, n = C.length := ⟨_, rfl⟩
  have HN := Lib.hid hn
  have HRL := Lib.hid hrl
  rw [← hn] at hcc' hnc HCK HEN ⊢
  rw [HEN.out]
  clear hEM hn hrl hcs hac hcr hnl hnp hC ha hh HEN
  obtain ⟨w0, hw0⟩ : ∃ w0, w0 = w.alloc (.cells #[.slice al nl cl, .slice ap np cp, .slice ac n cc] 31) := ⟨_, rfl⟩
  obtain ⟨bH, hbH⟩ : ∃ b, b = w.heap.size := ⟨_, rfl⟩
  have HH0 : Hid (w0.heap[bH]? = some (.cells #[.slice al nl cl, .slice ap np cp, .slice ac n cc] 31 (0, 0))) := Lib.hid (by rw [hw0, hbH]; exact heap_alloc_new _ _)
  have HB0 : Hid (Below w.heap.size w w0) := Lib.hid (by rw [hw0]; exact below_alloc _ _)
  have HW0 := Lib.hid hw0
  have HBH := Lib.hid hbH
  have hbx := HH0.out
  have ub0 := obj_cell hbx 0
  have ub1 := obj_cell hbx 1
  have ub2 := obj_cell hbx 2
  simp at ub0 ub1 ub2
  clear hw0 hbH hbx
  go_enter Try.func20, Try.ntmps20
  go_upto_region 1 with fail
  rw [← HW0.out, ← HBH.out]
  go_wp2_with fail
  refine (HCK.out _ HB0.out).mono ?_
  rintro e w1 ⟨rfl, hb1⟩
  have HH1 := Lib.hid (obj_below HH0.out hb1)
  have HB1 := Lib.hid (HB0.out.trans (hb1.mono HB0.out.size))
  have hbx := HH1.out
  clear ub0 ub1 ub2 hb1
  have ub0 := obj_cell hbx 0
  have ub1 := obj_cell hbx 1
  have ub2 := obj_cell hbx 2
  simp at ub0 ub1 ub2
  clear hbx HCK HH0 HB0
  go_wp2_with fail
  refine (rsisYear_yes _ hy.1 hy.2).mono ?_
  rintro e w1' ⟨rfl, rfl⟩
  go_wp2
  go_loopw [7, 23] (fun ev iv wr => ∃ k : Nat, ev = .int .i64 (EM k) ∧ iv = .int .i64 k ∧ k ≤ n ∧ Hid (Below w1.heap.size w1 wr)) (fun _ iv _ => n - (RowKit.intOf iv).toNat)
  case atStart => exact ⟨0, by rw [HE0.out], rfl, by omega, Lib.hid (Below.refl _ _)⟩
  case round =>
    clear ub0 ub1 ub2
    obtain ⟨k, rfl, rfl, hkn, HB⟩ := hrel
    by_cases hlt : k < n
    · have hkC : k < C.length := by rw [← HN.out]; exact hlt
      have hkR : k < rs.length := by rw [HRL.out]; exact hkC
      obtain ⟨b, o, rfl, hb, hcc⟩ := HCS.out (by omega)
      have HWB := Lib.hid (HB1.out.trans (HB.out.mono HB1.out.size))
      have hcell := fun j (hj : j < 3) => (HWB.out.cell (p := ⟨b, o + k * 3 + j, none⟩) hb).trans (hcc k hkR j hj)
      have hg := (HCR.out w (Below.refl _ _)).get k hkR hkC
      have hes := HES.out k hkC
      have hco := HCO.out _ (List.getElem_mem hkC)
      have heb := HEB.out k
      generalize rs[k] = x at *
      generalize C[k] = cx at *
      obtain ⟨x0, x1, xa, xn, xc⟩ := x
      obtain ⟨cy, cf, ps⟩ := cx
      obtain ⟨g1, g2, g3⟩ := hg
      simp only [Sli.v] at g1 g2 g3 hes
      subst g1
      subst g2
      obtain ⟨xa', xc', e1, hpc, hps⟩ := g3.shape pstF
      injection e1 with ea e2 ec
      subst ea
      subst ec
      subst e2
      have c0 := hcell 0 (by omega)
      have c1 := hcell 1 (by omega)
      have c2 := hcell 2 (by omega)
      simp [crrC] at c0 c1 c2
      have hwk : IntKind.i64.wrap ((k : Int) + 1) = (k : Int) + 1 := IntWalk.i64_in _ (by omega)
      have hk0 : (0 : Int) ≤ (k : Int) := by omega
      have hk1 : (k : Int) < (n : Int) := by omega
      have hpo := hco.ps
      have hpl := hco.len
      simp only at hpo hpl
      have HPO : Hid (∀ p ∈ ps, PstOk p ∧ p.amt ≤ 1000) := Lib.hid fun p hp => ⟨(hpo p hp).ok, (hpo p hp).sm⟩
      have HPS := Lib.hid hps
      obtain ⟨EL, hEL⟩ : ∃ E : Nat → Int, E = fun j => effL (ps.take j) := ⟨_, rfl⟩
      have HL0 : Hid (EL 0 = 0) := Lib.hid (by rw [hEL]; rfl)
      have HLN : Hid (effL ps = EL ps.length) := Lib.hid (by rw [hEL]; show _ = effL (ps.take ps.length); rw [List.take_length])
      have HLS : Hid (∀ j (hj : j < ps.length), EL (j + 1) = EL j + effP ps[j]) := Lib.hid fun j hj => by
        rw [hEL]
        show effL (ps.take (j + 1)) = _
        rw [List.take_succ_eq_append_getElem hj, effL_snoc]
      have HLB : Hid (∀ j, -3000 ≤ EL j ∧ EL j ≤ 3000) := Lib.hid fun j => by
        rw [hEL]
        have h1 := effL_small (l := ps.take j) fun p hp => HPO.out p (List.mem_of_mem_take hp)
        have h2 : (ps.take j).length ≤ ps.length := by rw [List.length_take]; omega
        show -3000 ≤ effL (ps.take j) ∧ effL (ps.take j) ≤ 3000
        omega
      rw [HLN.out] at hes
      have HKS := Lib.hid hes
      obtain ⟨pn, hpn⟩ : ∃ q, q = ps.length := ⟨_, rfl⟩
      have HPN := Lib.hid hpn
      obtain ⟨w8, hw8⟩ : ∃ W, W = wr.alloc (.cells #[.int .i64 x0, .int .i64 x1, .slice xa pn xc] 49) := ⟨_, rfl⟩
      obtain ⟨bX, hbX⟩ : ∃ q, q = wr.heap.size := ⟨_, rfl⟩
      have hx8 : w8.heap[bX]? = some (.cells #[.int .i64 x0, .int .i64 x1, .slice xa pn xc] 49 (0, 0)) := by rw [hw8, hbX]; exact heap_alloc_new _ _
      have HB8 : Hid (Below w1.heap.size w1 w8) := Lib.hid (by rw [hw8]; exact HB.out.alloc HB.out.size _)
      have y0 := obj_cell hx8 0
      have y1 := obj_cell hx8 1
      have y2 := obj_cell hx8 2
      simp at y0 y1 y2
      rw [← hpn] at c2 hpc hpl
      have HW8 := Lib.hid hw8
      have HBX := Lib.hid hbX
      clear hcell hcc hw8 hbX hx8 g3 hpn hps hEL hes hco hpo HLN
      go_upto_region 10 with fail
      rw [← HW8.out, ← HBX.out]
      clear c0 c1 c2
      by_cases hyy : x0 = y
      · have hks := HKS.out
        rw [if_pos hyy, ← HPN.out] at hks
        have HKT := Lib.hid hks
        subst hyy
        clear hks HKS
        go_wp2
        go_loopw [7, 34] (fun ev iv wr => ∃ j : Nat, ev = .int .i64 (EM k + EL j) ∧ iv = .int .i64 j ∧ j ≤ pn ∧ Hid (Below w1.heap.size w1 wr)) (fun _ iv _ => pn - (RowKit.intOf iv).toNat)
        case atStart => exact ⟨0, by rw [HL0.out, Int.add_zero], rfl, by omega, HB8⟩
        case round =>
          clear y0 y1 y2 HB8
          obtain ⟨j, rfl, rfl, hjn, HBI⟩ := hrel
          by_cases hlj : j < pn
          · have hjP : j < ps.length := by rw [← HPN.out]; exact hlj
            obtain ⟨bq, oq, rfl, hbq, hccq⟩ := HPS.out (by omega)
            have HWI := Lib.hid (HB1.out.trans (HBI.out.mono HB1.out.size))
            have hcell := fun i (hi : i < 8) => (HWI.out.cell (p := ⟨bq, oq + j * 8 + i, none⟩) hbq).trans (hccq j hjP i hi)
            have hls := HLS.out j hjP
            have hlb := HLB.out j
            have hpa := (HPO.out _ (List.getElem_mem hjP))
            generalize ps[j] = p at *
            obtain ⟨p0, p1, p2, p3, p4, p5, p6, p7⟩ := p
            have hpa1 := hpa.1.amt
            have hpa2 := hpa.2
            simp only at hpa1 hpa2
            simp only [effP] at hls
            have d0 := hcell 0 (by omega)
            have d1 := hcell 1 (by omega)
            have d2 := hcell 2 (by omega)
            have d3 := hcell 3 (by omega)
            have d4 := hcell 4 (by omega)
            have d5 := hcell 5 (by omega)
            have d6 := hcell 6 (by omega)
            have d7 := hcell 7 (by omega)
            simp [pstC] at d0 d1 d2 d3 d4 d5 d6 d7
            have hwj : IntKind.i64.wrap ((j : Int) + 1) = (j : Int) + 1 := IntWalk.i64_in _ (by omega)
            have hj0 : (0 : Int) ≤ (j : Int) := by omega
            have hj1 : (j : Int) < (pn : Int) := by omega
            obtain ⟨A, hA⟩ : ∃ A, A = EM k + EL j := ⟨_, rfl⟩
            have HNX : Hid (EM k + EL (j + 1) = A + ((if 4 ≤ classM p4 then p5 else 0) - (if 4 ≤ classM p3 then p5 else 0))) := Lib.hid (by rw [hls, hA]; omega)
            have hA2 : -63000 ≤ A ∧ A ≤ 63000 := by omega
            rw [← hA]
            have hwa : IntKind.i64.wrap (A + p5) = A + p5 := IntWalk.i64_in _ (by omega)
            have hws : IntKind.i64.wrap (A - p5) = A - p5 := IntWalk.i64_in _ (by omega)
            have hwx : IntKind.i64.wrap (A + p5 - p5) = A + p5 - p5 := IntWalk.i64_in _ (by omega)
            have HO4 := Lib.hid (fun W => rsofResult_any p4 W)
            have HO3 := Lib.hid (fun W => rsofResult_any p3 W)
            have HD4 : Hid (decide (4 ≤ classM p4) = true ↔ 4 ≤ classM p4) := Lib.hid decide_eq_true_iff
            have HD3 : Hid (decide (4 ≤ classM p3) = true ↔ 4 ≤ classM p3) := Lib.hid decide_eq_true_iff
            obtain ⟨w9, hw9⟩ : ∃ W, W = wr.alloc (.cells #[.int .i64 p0, .int .i64 p1, .int .i64 p2, .int .i64 p3, .int .i64 p4, .int .i64 p5, .int .i64 p6, .int .i64 p7] 55) := ⟨_, rfl⟩
            obtain ⟨bY, hbY⟩ : ∃ q, q = wr.heap.size := ⟨_, rfl⟩
            have hx9 : w9.heap[bY]? = some (.cells #[.int .i64 p0, .int .i64 p1, .int .i64 p2, .int .i64 p3, .int .i64 p4, .int .i64 p5, .int .i64 p6, .int .i64 p7] 55 (0, 0)) := by rw [hw9, hbY]; exact heap_alloc_new _ _
            have HB9 : Hid (Below w1.heap.size w1 w9) := Lib.hid (by rw [hw9]; exact HBI.out.alloc HBI.out.size _)
            have z0 := obj_cell hx9 0
            have z1 := obj_cell hx9 1
            have z2 := obj_cell hx9 2
            have z3 := obj_cell hx9 3
            have z4 := obj_cell hx9 4
            have z5 := obj_cell hx9 5
            have z6 := obj_cell hx9 6
            have z7 := obj_cell hx9 7
            simp at z0 z1 z2 z3 z4 z5 z6 z7
            have HW9 := Lib.hid hw9
            have HBY := Lib.hid hbY
            clear hcell hw9 hbY hx9 hls hpa hA hccq
            go_upto_region 14 with fail
            rw [← HW9.out, ← HBY.out]
            clear d0 d1 d2 d3 d4 d5 d6 d7
            obtain ⟨B4, hB4⟩ : ∃ B, B = decide (4 ≤ classM p4) := ⟨_, rfl⟩
            obtain ⟨B3, hB3⟩ : ∃ B, B = decide (4 ≤ classM p3) := ⟨_, rfl⟩
            rw [← hB4] at HO4 HD4
            rw [← hB3] at HO3 HD3
            clear hB4 hB3
            cases B4
            · have HN4 : Hid (¬ 4 ≤ classM p4) := Lib.hid fun q => by have := HD4.out.2 q; cases this
              cases B3
              · have HN3 : Hid (¬ 4 ≤ classM p3) := Lib.hid fun q => by have := HD3.out.2 q; cases this
                have HV : Hid (A = EM k + EL (j + 1)) := Lib.hid (by rw [HNX.out, if_neg HN4.out, if_neg HN3.out]; omega)
                go_wp2_with fail
                refine (HO4.out _).mono ?_
                rintro e w' ⟨rfl, rfl⟩
                go_wp2_with fail
                refine (HO3.out _).mono ?_
                rintro e w' ⟨rfl, rfl⟩
                go_wp2
                go_roundw
                case rel => exact ⟨j + 1, by rw [← HV.out], by first | rfl | go_num, by omega, HB9⟩
                case measure => simp [RowKit.intOf]; omega
              · have HN3 : Hid (4 ≤ classM p3) := Lib.hid (HD3.out.1 rfl)
                have HV : Hid (A - p5 = EM k + EL (j + 1)) := Lib.hid (by rw [HNX.out, if_neg HN4.out, if_pos HN3.out]; omega)
                go_wp2_with fail
                refine (HO4.out _).mono ?_
                rintro e w' ⟨rfl, rfl⟩
                go_wp2_with fail
                refine (HO3.out _).mono ?_
                rintro e w' ⟨rfl, rfl⟩
                go_wp2
                go_roundw
                case rel => exact ⟨j + 1, by rw [← HV.out], by first | rfl | go_num, by omega, HB9⟩
                case measure => simp [RowKit.intOf]; omega
            · have HN4 : Hid (4 ≤ classM p4) := Lib.hid (HD4.out.1 rfl)
              cases B3
              · have HN3 : Hid (¬ 4 ≤ classM p3) := Lib.hid fun q => by have := HD3.out.2 q; cases this
                have HV : Hid (A + p5 = EM k + EL (j + 1)) := Lib.hid (by rw [HNX.out, if_pos HN4.out, if_neg HN3.out]; omega)
                go_wp2_with fail
                refine (HO4.out _).mono ?_
                rintro e w' ⟨rfl, rfl⟩
                go_wp2_with fail
                refine (HO3.out _).mono ?_
                rintro e w' ⟨rfl, rfl⟩
                go_wp2
                go_roundw
                case rel => exact ⟨j + 1, by rw [← HV.out], by first | rfl | go_num, by omega, HB9⟩
                case measure => simp [RowKit.intOf]; omega
              · have HN3 : Hid (4 ≤ classM p3) := Lib.hid (HD3.out.1 rfl)
                have HV : Hid (A = EM k + EL (j + 1)) := Lib.hid (by rw [HNX.out, if_pos HN4.out, if_pos HN3.out]; omega)
                go_wp2_with fail
                refine (HO4.out _).mono ?_
                rintro e w' ⟨rfl, rfl⟩
                go_wp2_with fail
                refine (HO3.out _).mono ?_
                rintro e w' ⟨rfl, rfl⟩
                go_wp2
                go_roundw
                case rel => exact ⟨j + 1, by rw [← HV.out], by first | rfl | go_num, by omega, HB9⟩
                case measure => simp [RowKit.intOf]; omega
          · obtain hjj : j = pn := by omega
            have HVK : Hid (EM k + EL j = EM (k + 1)) := Lib.hid (by rw [HKT.out, hjj])
            go_wp2
            go_roundw
            case rel => exact ⟨k + 1, by rw [HVK.out], by first | rfl | go_num, by omega, HBI⟩
            case measure => simp [RowKit.intOf]; omega
      · have hks := HKS.out
        rw [if_neg hyy, Int.add_zero] at hks
        go_wp2
        go_roundw
        case rel => exact ⟨k + 1, by rw [hks], by first | rfl | go_num, by omega, HB8⟩
        case measure => simp [RowKit.intOf]; omega
    · obtain hkk : k = n := by omega
      have HWF := Lib.hid (HB1.out.trans (HB.out.mono HB1.out.size))
      have HKK := Lib.hid hkk
      clear hkk
      go_wp2
      go_ret2
      exact ⟨by rw [← HKK.out]; rfl, HWF.out⟩

set_option maxRecDepth 100000 in
set_option maxHeartbeats 8000000 in
theorem rsExplained_ok {h : Hst} (hh : HstOk h) {y : Int} (hy : 0 ≤ y ∧ y ≤ 99) (vl vp vc : Value) (w : World) (ha : HstAt w vl vp vc h) :
    Calls Try.prog 14 #[.agg #[vl, vp, vc], .int .i64 y] w fun e w' => e = .returned (.bool true) ∧ Below w.heap.size w w' := by
  have HRE := Lib.hid (fun W (hW : Below w.heap.size w W) => rsRestated_ok hh hy vl vp vc W (ha.below hW))
  have HEF := Lib.hid (fun W (hW : Below w.heap.size w W) => rsEffect_ok hh hy vl vp vc W (ha.below hW))
  have HRS := Lib.hid (fun W (hW : Below w.heap.size w W) => aaResult_right hh.led (ent := 0) (by omega) hy vl W (ListAt.below ha.led hW))
  have hrr := rest_result hh y
  have hin : StmIn 600000 (restM y h) := stM_in (hh.allMem y) (by have := hh.allLen y; omega)
  have heb := effM_small (y := y) hh.cor
  have hnc := hh.nc
  obtain ⟨al, ap, ac, cl, cp, cc, rfl, rfl, rfl⟩ := ha.parts
  obtain ⟨R, hR⟩ : ∃ R, R = restM y h := ⟨_, rfl⟩
  rw [← hR] at HRE hrr hin
  obtain ⟨s0, s1, s2, s3, s4⟩ := R
  obtain ⟨E, hE⟩ : ∃ E, E = effM y h.cors := ⟨_, rfl⟩
  obtain ⟨Q, hQ⟩ : ∃ Q, Q = resM 0 (amidDay (360 * y) (360 * y + 359)) h.led := ⟨_, rfl⟩
  rw [← hE] at HEF hrr heb
  rw [← hQ] at HRS hrr
  simp only [stmA] at HRE
  simp only at hrr
  have h3 := hin.rev
  have h4 := hin.exp
  simp only at h3 h4
  have hw1 : IntKind.i64.wrap (s3 - s4) = s3 - s4 := IntWalk.i64_in _ (by omega)
  have hw2 : IntKind.i64.wrap (Q + E) = s3 - s4 := by rw [← hrr]; exact hw1
  obtain ⟨nl, hnl⟩ : ∃ q, q = h.led.length := ⟨_, rfl⟩
  obtain ⟨np, hnp⟩ : ∃ q, q = h.pres.length := ⟨_, rfl⟩
  obtain ⟨n, hn⟩ : ∃ q, q = h.cors.length := ⟨_, rfl⟩
  rw [← hnl, ← hnp, ← hn] at HRE HEF ⊢
  rw [← hnl] at HRS
  clear hR hE hQ hnl hnp hn hin heb hnc ha hh h3 h4 hrr
  obtain ⟨w0, hw0⟩ : ∃ w0, w0 = w.alloc (.cells #[.slice al nl cl, .slice ap np cp, .slice ac n cc] 31) := ⟨_, rfl⟩
  obtain ⟨bH, hbH⟩ : ∃ b, b = w.heap.size := ⟨_, rfl⟩
  have HH0 : Hid (w0.heap[bH]? = some (.cells #[.slice al nl cl, .slice ap np cp, .slice ac n cc] 31 (0, 0))) := Lib.hid (by rw [hw0, hbH]; exact heap_alloc_new _ _)
  have HB0 : Hid (Below w.heap.size w w0) := Lib.hid (by rw [hw0]; exact below_alloc _ _)
  have HW0 := Lib.hid hw0
  have HBH := Lib.hid hbH
  have hbx := HH0.out
  have ub0 := obj_cell hbx 0
  have ub1 := obj_cell hbx 1
  have ub2 := obj_cell hbx 2
  simp at ub0 ub1 ub2
  clear hw0 hbH hbx
  go_enter Try.func14, Try.ntmps14
  go_upto_region 1 with fail
  rw [← HW0.out, ← HBH.out]
  go_wp2_with fail
  refine (HRE.out _ HB0.out).mono ?_
  rintro e w1 ⟨rfl, hb1⟩
  obtain ⟨w2, hw2'⟩ : ∃ W, W = w1.alloc (.cells #[.int .i64 s0, .int .i64 s1, .int .i64 s2, .int .i64 s3, .int .i64 s4] 38) := ⟨_, rfl⟩
  obtain ⟨bS, hbS⟩ : ∃ b, b = w1.heap.size := ⟨_, rfl⟩
  have HS2 : Hid (w2.heap[bS]? = some (.cells #[.int .i64 s0, .int .i64 s1, .int .i64 s2, .int .i64 s3, .int .i64 s4] 38 (0, 0))) := Lib.hid (by rw [hw2', hbS]; exact heap_alloc_new _ _)
  have hb2 : Below w1.heap.size w1 w2 := by rw [hw2']; exact below_alloc _ _
  have HH2 := Lib.hid (obj_below (obj_below HH0.out hb1) hb2)
  have HB2 := Lib.hid (HB0.out.trans ((hb1.trans (hb2.mono hb1.size)).mono HB0.out.size))
  have HW2 := Lib.hid hw2'
  have HBS := Lib.hid hbS
  have hbx := HH2.out
  clear ub0 ub1 ub2 hb1 hb2 hw2' hbS
  have ub0 := obj_cell hbx 0
  have ub1 := obj_cell hbx 1
  have ub2 := obj_cell hbx 2
  simp at ub0 ub1 ub2
  clear hbx HRE
  go_upto_region 2 with fail
  rw [← HW2.out, ← HBS.out]
  go_wp2_with fail
  refine (HRS.out _ HB2.out).mono ?_
  rintro e w3 ⟨rfl, hb3⟩
  have HH3 := Lib.hid (obj_below HH2.out hb3)
  have HS3 := Lib.hid (obj_below HS2.out hb3)
  have HB3 := Lib.hid (HB2.out.trans (hb3.mono HB2.out.size))
  have hbx := HH3.out
  clear ub0 ub1 ub2 hb3
  have ub0 := obj_cell hbx 0
  have ub1 := obj_cell hbx 1
  have ub2 := obj_cell hbx 2
  simp at ub0 ub1 ub2
  clear hbx HRS
  go_wp2_with fail
  refine (HEF.out _ HB3.out).mono ?_
  rintro e w4 ⟨rfl, hb4⟩
  have HS4 := Lib.hid (obj_below HS3.out hb4)
  have HB4 := Lib.hid (HB3.out.trans (hb4.mono HB3.out.size))
  have hbx := HS4.out
  clear ub0 ub1 ub2 hb4
  have us0 := obj_cell hbx 0
  have us1 := obj_cell hbx 1
  have us2 := obj_cell hbx 2
  have us3 := obj_cell hbx 3
  have us4 := obj_cell hbx 4
  simp at us0 us1 us2 us3 us4
  clear hbx
  go_wp2
  go_ret
  exact ⟨by simp, HB4.out⟩

end Go.Proofs.Ytoccnindkimjdaa
