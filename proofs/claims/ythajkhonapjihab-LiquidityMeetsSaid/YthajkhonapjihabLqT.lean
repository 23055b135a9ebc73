/- The walk of LiquidityMeets: with its plan every position lies in the band, or the first day is named for which nothing does; for every tape. -/
import Derived.Test.YthajkhonapjihabLqR
import Derived.Test.YthajkhonapjihabLqC
set_option linter.unusedSimpArgs false
set_option linter.unusedVariables false
namespace Go.Proofs.Ythajkhonapjihab
open Go.RowKit Go.Lib Go.Proofs

theorem adj_posIn {b : Bnd} (h : BndOk b) {l : List Pos} (hp : PosIn l) (hok : ∀ x ∈ l, okB b x.amt = true) : PosIn (l.map (adj b)) := by
  have h1 := h.lo0
  have h2 := h.hi1
  refine ⟨fun x hx => ?_, fun x hx => ?_, fun i hi h0 hj => ?_, by rw [List.length_map]; exact hp.len⟩
  · obtain ⟨y, hy, rfl⟩ := List.mem_map.1 hx
    have := adj_in (hok y hy)
    omega
  · obtain ⟨y, hy, rfl⟩ := List.mem_map.1 hx
    exact hp.day y hy
  · rw [List.length_map] at hi
    simpa [adj] using hp.asc i hi h0 (by omega)

set_option maxRecDepth 100000 in
set_option maxHeartbeats 8000000 in
theorem lqmeets_any (v : Value) (n : Nat) (w : World) (hi : IntsAt w v n w.heap.size) (hn : n ≤ 9223372036854775807) :
    Calls Try.prog 6 #[v] w fun e w' => e = .returned (.bool true) ∧ Below w.heap.size w w' := by
  have HNEW := Lib.hid (sNew_any v n w hi hn)
  have HSN := Lib.hid sane30_any
  clear hi hn
  go_enter Try.func6, Try.ntmps6
  go_wp2_with fail
  refine (HNEW.out).mono ?_
  rintro e w1 ⟨rfl, t1, b1⟩
  have HS := Lib.hid (sBand_any w.heap.size w1 t1)
  have B1 := Lib.hid b1
  clear t1 b1 HNEW
  go_wp2_with fail
  refine (HS.out).mono ?_
  rintro e w2 ⟨b, rfl, hok, hlo, hhi, hlt, hmr, hmp, hl4, t2, g2⟩
  have HP := Lib.hid (sPositions_any w.heap.size 8 w2 t2 (by decide))
  have HB2 := Lib.hid (B1.out.grown g2 B1.out.size (by simp))
  clear t2 g2 HS B1 hl4
  go_wp2_with fail
  with_reducible refine Calls.mono (HP.out) ?_
  rintro e w3 ⟨pv, l, rfl, hl8, hpo, hown, hsi⟩
  have HB3 := Lib.hid (HB2.out.grown hsi.old HB2.out.size (by simp))
  have hpi := posIn_of hpo (by decide) (by omega)
  have hla := ListAt.owns hown
  have HX := Lib.hid (show BInv w w3.heap.size b (w3.alloc (.cells b.cells.toArray 48)) from ⟨heap_alloc_new w3 _, HB3.out.alloc HB3.out.size _⟩)
  have HLA := Lib.hid (show ListAt posC 2 (w3.alloc (.cells b.cells.toArray 48)) pv l from hla.below (below_alloc _ _))
  have HPI := Lib.hid hpi
  have HOK := Lib.hid hok
  clear HP HB2 hown hsi hla hpi hpo hok HB3 hlo hhi hlt hmr hmp
  obtain ⟨lo, hi, lt, mr, mp⟩ := b
  simp only [Bnd.cells] at HX HLA ⊢
  have HM := Lib.hid (lqMake_any HOK.out HPI.out pv (w3.alloc (.cells #[.int .i64 lo, .int .i64 hi, .int .i64 lt, .int .i64 mr, .int .i64 mp] 48)) HLA.out)
  have HPLI := Lib.hid (plIn_of HOK.out hl8)
  have HDE := Lib.hid (fun x (hx : x ∈ l) W => r30Decide_ok HOK.out x.amt (HPI.out.amt x hx).1 (HPI.out.amt x hx).2 W)
  unfold R30Post at HDE
  simp only [Bnd.cells] at HM HDE
  go_wp2_with fail
  with_reducible refine Calls.mono (HM.out) ?_
  rintro e w4 (⟨hall, ⟨u, rfl, hown, b4⟩⟩ | ⟨k, hk, hok, hno, rfl, b4⟩)
  case inr =>
    have HX4 := Lib.hid (HX.out.below b4)
    have HL4 := Lib.hid (HLA.out.below b4)
    clear b4 HX HM HLA HPLI
    obtain ⟨ao, cap, rfl, hcap, hc⟩ := HL4.out.shape posF
    obtain ⟨m, hm⟩ : ∃ m, m = l.length := ⟨_, rfl⟩
    rw [← hm] at hcap
    have hkm : k < m := by omega
    have HMM := Lib.hid hm
    have HC := Lib.hid hc
    have HO1 := Lib.hid hok
    have HO2 := Lib.hid hno
    clear hm hc hok hno
    have kd : ∃ dk, dk = l[k].day := ⟨_, rfl⟩
    obtain ⟨dk, hdk⟩ := kd
    rw [← hdk]
    have HDK := Lib.hid hdk
    clear hdk
    go_wp2
    go_loopw [35] (fun iv wr => ∃ (j : Nat), iv = .int .i64 (j : Int) ∧ j ≤ k ∧ Hid (Below w4.heap.size w4 wr)) (fun iv _ => m - (RowKit.intOf iv).toNat)
    case atStart => exact ⟨0, rfl, by omega, Lib.hid (Below.refl _ _)⟩
    case round =>
      obtain ⟨j, rfl, hj, HB⟩ := hrel
      have hlx : j < l.length := by have := HMM.out; omega
      obtain ⟨bk, of, rfl, hbk, hcc⟩ := HC.out (by omega)
      have hcell := fun q (hq : q < 2) => (HB.out.cell (p := ⟨bk, of + j * 2 + q, none⟩) hbk).trans (hcc j hlx q hq)
      have HDEX := Lib.hid (fun W => HDE.out l[j] (List.getElem_mem hlx) W)
      have HLT : Hid (j < k → okB ⟨lo, hi, lt, mr, mp⟩ l[j].amt = true) := Lib.hid fun h => HO1.out _ (by rw [List.mem_take_iff_getElem]; exact ⟨j, by omega, rfl⟩)
      have HEQ : Hid (j = k → okB ⟨lo, hi, lt, mr, mp⟩ l[j].amt = false ∧ dk = l[j].day) := Lib.hid fun h => by subst h; exact ⟨HO2.out, HDK.out⟩
      generalize l[j] = x at *
      obtain ⟨xd, xa⟩ := x
      have d0 := hcell 0 (by omega)
      have d1 := hcell 1 (by omega)
      simp [posC] at d0 d1
      simp only at HDEX HLT HEQ
      have HXR := Lib.hid ((HX4.out.below HB.out).below (below_alloc wr (.cells #[.int .i64 xd, .int .i64 xa] 56)))
      have s0 := obj_cell HXR.out.box 0
      have s1 := obj_cell HXR.out.box 1
      have s2 := obj_cell HXR.out.box 2
      have s3 := obj_cell HXR.out.box 3
      have s4 := obj_cell HXR.out.box 4
      simp [Bnd.cells] at s0 s1 s2 s3 s4
      have HNW := Lib.hid (heap_alloc_new wr (.cells #[.int .i64 xd, .int .i64 xa] 56))
      have HBA := Lib.hid (HB.out.alloc HB.out.size (.cells #[.int .i64 xd, .int .i64 xa] 56))
      have hj0 : (0 : Int) ≤ (j : Int) := by omega
      have hj1 : (j : Int) < (m : Int) := by omega
      clear hcell hcc HDE HO1 HO2 HDK
      rcases Nat.lt_or_ge j k with hjk | hjk
      · rw [HLT.out hjk] at HDEX
        clear HLT HEQ
        go_wp2_with fail
        with_reducible refine Calls.mono (HDEX.out _) ?_
        rintro e w6 ⟨r6, p6, rfl, b6⟩
        have HB6 := Lib.hid (HBA.out.trans (b6.mono HBA.out.size))
        clear b6 s0 s1 s2 s3 s4
        go_wp2
        go_roundw
        case rel => exact ⟨j + 1, by first | rfl | go_num, by omega, HB6⟩
        case measure => simp [RowKit.intOf]; omega
      · obtain rfl : j = k := by omega
        obtain ⟨h1, rfl⟩ := HEQ.out rfl
        rw [h1] at HDEX
        clear HLT HEQ h1
        go_wp2_with fail
        with_reducible refine Calls.mono (HDEX.out _) ?_
        rintro e w6 ⟨r6, p6, rfl, b6⟩
        have HX6 := Lib.hid (HXR.out.below b6)
        have u0 := obj_cell (obj_below HNW.out b6) 0
        simp at u0
        clear b6 s0 s1 s2 s3 s4
        go_wp2_with (go_at_call 24; refine (HSN.out _).mono ?_; rintro e w7 ⟨rfl, b7⟩)
        go_ret
        exact ⟨rfl, (HX6.out.below b7).old⟩
  have HX4 := Lib.hid (HX.out.below b4)
  have HLP := Lib.hid (ListAt.owns hown)
  have HL4 := Lib.hid (HLA.out.below b4)
  have hpp := daysP_pair HPI.out
  have hap := apply_plans HOK.out l hpp
  have HAP := Lib.hid (fun W (hW : Below w4.heap.size w4 W) => lqApply_ok HPI.out HPLI.out (plans_pair _ hpp) (plans_sub _ l) (by rw [hap]; exact adj_posIn HOK.out HPI.out hall) pv u W (HL4.out.below hW) (HLP.out.below hW))
  rw [hap] at HAP
  have HRI := Lib.hid (fun W (hW : Below w4.heap.size w4 W) => lqRight_ok HOK.out HPI.out hall pv u W (HL4.out.below hW) (HLP.out.below hW))
  simp only [Bnd.cells] at HRI
  have HAD := Lib.hid (fun x hx => adj_in (hall x hx))
  clear b4 HX HM hall HLA HDE hown hap hpp
  go_wp2_with fail
  with_reducible refine Calls.mono (HAP.out _ (Below.refl _ _)) ?_
  rintro e w5 ⟨nx, rfl, ho5, b5⟩
  have HB5 := Lib.hid b5
  have HX5 := Lib.hid (HX4.out.below b5)
  have HN5 := Lib.hid (show ListAt posC 2 w5 nx (l.map (adj ⟨lo, hi, lt, mr, mp⟩)) by unfold ListAt; rw [List.length_map]; exact RowG.owns ho5)
  clear b5 ho5 HAP
  obtain ⟨ao, cap, rfl, hcap, hc⟩ := HN5.out.shape posF
  obtain ⟨ao2, cap2, rfl, hcap2, -⟩ := HL4.out.shape posF
  obtain ⟨m, hm⟩ : ∃ m, m = l.length := ⟨_, rfl⟩
  have HMM := Lib.hid hm
  have HC := Lib.hid hc
  rw [List.length_map, ← hm] at hcap ⊢
  rw [← hm] at hcap2 HRI
  try rw [← hm]
  clear hm hc
  have s0 := obj_cell HX5.out.box 0
  have s1 := obj_cell HX5.out.box 1
  have s2 := obj_cell HX5.out.box 2
  have s3 := obj_cell HX5.out.box 3
  have s4 := obj_cell HX5.out.box 4
  simp [Bnd.cells] at s0 s1 s2 s3 s4
  go_wp2_with fail
  with_reducible refine Calls.mono (HRI.out _ HB5.out) ?_
  rintro e w6 ⟨rfl, b6⟩
  have HX6 := Lib.hid (HX5.out.below b6)
  have HB6 := Lib.hid b6
  clear b6 s0 s1 s2 s3 s4 HRI
  go_wp2
  go_loopw [94] (fun iv wr => ∃ (j : Nat), iv = .int .i64 (j : Int) ∧ j ≤ m ∧ Hid (Below w5.heap.size w5 wr)) (fun iv _ => m - (RowKit.intOf iv).toNat)
  case atStart => exact ⟨0, rfl, by omega, HB6⟩
  case round =>
    obtain ⟨j, rfl, hj, HB⟩ := hrel
    by_cases hlt : j < m
    · have hlx : j < (l.map (adj ⟨lo, hi, lt, mr, mp⟩)).length := by rw [List.length_map]; have := HMM.out; omega
      have hlx' : j < l.length := by have := HMM.out; omega
      obtain ⟨bk, of, rfl, hbk, hcc⟩ := HC.out (by rw [List.length_map]; omega)
      have hcell := fun q (hq : q < 2) => (HB.out.cell (p := ⟨bk, of + j * 2 + q, none⟩) hbk).trans (hcc j hlx q hq)
      have hin := HAD.out l[j] (List.getElem_mem hlx')
      rw [List.getElem_map] at hcell
      generalize adj ⟨lo, hi, lt, mr, mp⟩ l[j] = x at hcell hin
      obtain ⟨xd, xa⟩ := x
      have d0 := hcell 0 (by omega)
      have d1 := hcell 1 (by omega)
      simp [posC] at d0 d1
      simp only at hin
      obtain ⟨z0, z1⟩ := hin
      have HXR := Lib.hid ((HX5.out.below HB.out).below (below_alloc wr (.cells #[.int .i64 xd, .int .i64 xa] 56)))
      have s0 := obj_cell HXR.out.box 0
      have s1 := obj_cell HXR.out.box 1
      simp [Bnd.cells] at s0 s1
      have HBA := Lib.hid (HB.out.alloc HB.out.size (.cells #[.int .i64 xd, .int .i64 xa] 56))
      have hj0 : (0 : Int) ≤ (j : Int) := by omega
      have hj1 : (j : Int) < (m : Int) := by omega
      clear hcell hcc HAD
      go_wp2
      go_roundw
      case rel => exact ⟨j + 1, by first | rfl | go_num, by omega, HBA⟩
      case measure => simp [RowKit.intOf]; omega
    · obtain rfl : j = m := by omega
      have HXR := Lib.hid (HX5.out.below HB.out)
      go_wp2_with (go_at_call 24; refine (HSN.out _).mono ?_; rintro e w7 ⟨rfl, b7⟩)
      go_ret
      exact ⟨rfl, (HXR.out.below b7).old⟩

end Go.Proofs.Ythajkhonapjihab
