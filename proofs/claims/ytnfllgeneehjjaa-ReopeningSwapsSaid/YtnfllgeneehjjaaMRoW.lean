/- A switch retires what is given in, issues whole units, and pays the rest: for every tape. -/
import Derived.Test.YtnfllgeneehjjaaMRoU
import Derived.Test.YtnfllgeneehjjaaMRegInv
set_option linter.unusedSimpArgs false
set_option linter.unusedVariables false
set_option linter.unusedSimpArgs false
set_option linter.unusedVariables false
namespace Go.Proofs.Ytnfllgeneehjjaa
open Go.RowKit Go.Lib Go.Proofs

/-- What market hands back. -/
def MktPost (w : World) (tb : Nat) (e : Ending) (w' : World) : Prop := ∃ x y z r s1 s2, e = .returned (.agg #[x, y, z]) ∧ MktOk r s1 s2 ∧ RegAt w' x y z r ∧ SI w tb w'

set_option maxRecDepth 100000 in
set_option maxHeartbeats 16000000 in
theorem roswaps_of (HM : ∀ (tb : Nat) (w : World), SrcAt w tb → Calls Try.prog 50 #[.pointer (some ⟨tb, 0, none⟩)] w (MktPost w tb)) (v : Value) (l : Nat) (w : World) (hi : IntsAt w v l w.heap.size) (hn : l ≤ 9223372036854775807) :
    Calls Try.prog 10 #[v] w fun e w' => e = .returned (.bool true) ∧ Below w.heap.size w w' := by
  have HNEW := Lib.hid (sNew_any v l w hi hn)
  have HSN := Lib.hid sane35_any
  have HMK := Lib.hid HM
  clear hi hn HM
  go_enter Try.func10, Try.ntmps10
  go_wp2_with fail
  refine (HNEW.out).mono ?_
  rintro e w1 ⟨rfl, t1, b1⟩
  obtain ⟨tb, htb⟩ : ∃ tb, tb = w.heap.size := ⟨_, rfl⟩
  rw [← htb] at t1 ⊢
  have HRG := Lib.hid (HMK.out tb w1 t1)
  have HFIN : Hid (∀ W, SI w1 tb W → Below w.heap.size w W) := Lib.hid fun W hW => b1.grown hW.old b1.size (fun q e => by injection e with e; omega)
  clear t1 b1 HNEW htb HMK
  go_wp2_with fail
  with_reducible refine Calls.mono HRG.out ?_
  rintro e w2 ⟨x, y, z, r, sA, sB, rfl, hG, hra, hsi⟩
  obtain ⟨a0, n0, c0, b0, m0, d0, e0, k0, f0, rfl, rfl, rfl⟩ := hra.slices
  obtain ⟨bR, hbR⟩ : ∃ b, b = w2.heap.size := ⟨_, rfl⟩
  obtain ⟨w3, hw3⟩ : ∃ W, W = w2.alloc (.cells #[.slice a0 n0 c0, .slice b0 m0 d0, .slice e0 k0 f0] 29) := ⟨_, rfl⟩
  have HI : Hid (RgI w1 tb bR (.slice a0 n0 c0) (.slice b0 m0 d0) (.slice e0 k0 f0) r w3) := Lib.hid (by
    rw [hw3, hbR]
    have hlt := hsi.lt
    have hsz := hsi.old.size
    exact ⟨hsi.alloc _, heap_alloc_new _ _, hra.below (below_alloc _ _), by omega, hsz⟩)
  have HG := Lib.hid hG
  clear hG hra hsi HRG
  go_upto_region 3 with fail
  rw [← hw3, ← hbR]
  clear hw3 hbR
  go_wp2_with fail
  with_reducible refine Calls.mono (range_in HI.out.si 1 9 (by omega) (by omega) (by omega)) ?_
  rintro e w4 ⟨num, rfl, i0, i1, hi4, hg4⟩
  have HI4 := Lib.hid (HI.out.turn hi4.src hg4)
  clear hi4 hg4 HI
  go_wp2_with fail
  with_reducible refine Calls.mono (range_in HI4.out.si 1 9 (by omega) (by omega) (by omega)) ?_
  rintro e w5 ⟨den, rfl, i2, i3, hi5, hg5⟩
  have HI5 := Lib.hid (HI4.out.turn hi5.src hg5)
  clear hi5 hg5 HI4
  obtain ⟨bW, hbW⟩ : ∃ b, b = w5.heap.size := ⟨_, rfl⟩
  obtain ⟨w6, hw6⟩ : ∃ W, W = w5.alloc (.cells #[.int .i64 1, .int .i64 2, .int .i64 num, .int .i64 den] 79) := ⟨_, rfl⟩
  have HI6 : Hid (RgI w1 tb bR (.slice a0 n0 c0) (.slice b0 m0 d0) (.slice e0 k0 f0) r w6) := Lib.hid (by rw [hw6]; exact HI5.out.below (below_alloc _ _))
  have HW6 : Hid (w6.heap[bW]? = some (.cells #[.int .i64 1, .int .i64 2, .int .i64 num, .int .i64 den] 79 (0, 0))) := Lib.hid (by rw [hw6, hbW]; exact heap_alloc_new _ _)
  have HWT : Hid (bW ≠ tb) := Lib.hid (by have h1 := HI5.out.si.src.lt; omega)
  go_upto_region 4 with fail
  rw [← hw6, ← hbW]
  clear hw6 hbW HI5
  go_wp2_with fail
  with_reducible refine Calls.mono (range_in HI6.out.si 1 4 (by omega) (by omega) (by omega)) ?_
  rintro e w7 ⟨who, rfl, i4, i5, hi7, hg7⟩
  have HI7 := Lib.hid (HI6.out.turn hi7.src hg7)
  have HW7 := Lib.hid (obj_turn HW6.out hg7 HWT.out)
  clear hi7 hg7 HI6 HW6
  go_wp2_with fail
  with_reducible refine Calls.mono (pick_in _ [100, 500, 1000] _ _ rfl HI7.out.si (by simp) (by simp) _ rfl _ (by simp)) ?_
  rintro e w8 ⟨n, rfl, hn, hi8, hg8⟩
  have HI8 := Lib.hid ((HI7.out.below (below_alloc _ _)).turn hi8.src hg8)
  have HW8 := Lib.hid (obj_turn (obj_below HW7.out (below_alloc _ _)) hg8 HWT.out)
  have hnn : n = 100 ∨ n = 500 ∨ n = 1000 := by simpa using hn
  clear hi8 hg8 HI7 HW7 hn
  have hA := HI8.out.box
  have s0 := obj_cell hA 0
  have s1 := obj_cell hA 1
  have s2 := obj_cell hA 2
  simp at s0 s1 s2
  have hW := HW8.out
  have y0 := obj_cell hW 0
  have y1 := obj_cell hW 1
  have y2 := obj_cell hW 2
  have y3 := obj_cell hW 3
  simp at y0 y1 y2 y3
  clear hA hW
  have hu0 : 1 ≤ sB.unit ∧ sB.unit ≤ 100 := by have := HG.out.u2; omega
  have HSWP := Lib.hid (roSwap_ok r _ _ _ 5 1 2 num den who n sA sB w8 HG.out.ok HI8.out.reg HG.out.f1 HG.out.f2 (by omega) (by omega) (by omega) (by omega) (by omega))
  obtain ⟨p, hp⟩ : ∃ p, p = n * num := ⟨_, rfl⟩
  have hp0 : 0 ≤ p := by rw [hp]; exact Int.mul_nonneg (by omega) (by omega)
  have hp1 : p ≤ 9000 := by
    rw [hp]
    exact Int.le_trans (Int.mul_le_mul_of_nonneg_right (show n ≤ 1000 by omega) (by omega)) (Int.mul_le_mul_of_nonneg_left i1 (by omega))
  have hw96 : IntKind.i64.wrap (n * num) = n * num := by rw [← hp]; exact IntWalk.i64_in _ (by omega)
  have hq0 : 0 ≤ n * num / den := by rw [← hp]; exact Int.ediv_nonneg hp0 (by omega)
  have hq1 : n * num / den ≤ 9000 := by rw [← hp]; exact Int.le_trans (Int.ediv_le_self _ hp0) hp1
  have hw99 : wrap64 ((n * num).tdiv den) = n * num / den := by rw [← hp, Int.tdiv_eq_ediv_of_nonneg hp0]; exact IntWalk.wrap64_in _ (by rw [← hp] at hq0 hq1; omega)
  have hc0 : 0 ≤ n * num / den % sB.unit := Int.emod_nonneg _ (by omega)
  have hc1 : n * num / den % sB.unit < sB.unit := Int.emod_lt_of_pos _ (by omega)
  have hcl : n * num / den % sB.unit ≤ n * num / den := by rw [Int.emod_def]; have := Int.mul_nonneg (show 0 ≤ sB.unit by omega) (Int.ediv_nonneg hq0 (show 0 ≤ sB.unit by omega)); omega
  have hgm : (n * num / den - n * num / den % sB.unit) % sB.unit = 0 := by rw [Int.sub_emod, Int.emod_emod_of_dvd _ (Int.dvd_refl _), Int.sub_self, Int.zero_emod]
  obtain ⟨g, hg⟩ : ∃ g, g = givM num den sB.unit n := ⟨_, rfl⟩
  obtain ⟨c, hc⟩ : ∃ c, c = n * num / den % sB.unit := ⟨_, rfl⟩
  have hgq : g = n * num / den - c := by rw [hg, hc]; rfl
  have hgz : g % sB.unit = 0 := by rw [hg]; exact hgm
  rw [← hg, ← hc] at HSWP
  rw [← hc] at hc0 hc1 hcl
  have HBAD : Hid (heldM r.hs 1 who < n → swE r 5 1 2 who n g = 77) := Lib.hid fun h => swap_bad HG.out i4 i5 hnn h
  have HGOOD : Hid (¬ heldM r.hs 1 who < n → swE r 5 1 2 who n g = 0 ∧ SwapM r (swV r 5 1 2 who n g) who n g) := Lib.hid fun h => swap_good HG.out i4 i5 hnn h (by omega) (by omega) hgz
  obtain ⟨E, hE⟩ : ∃ E, E = swE r 5 1 2 who n g := ⟨_, rfl⟩
  obtain ⟨V, hV⟩ : ∃ V, V = swV r 5 1 2 who n g := ⟨_, rfl⟩
  rw [← hE, ← hV] at HSWP HGOOD
  rw [← hE] at HBAD
  unfold SwapP at HSWP
  clear hp hE hV hc hg
  go_wp2_with fail
  refine Calls.mono HSWP.out ?_
  rintro e w9 ⟨p0, p1, p2, p3, p4, p5, p6, p7, p8, k, rfl, hsw, hb9⟩
  have HI9 := Lib.hid (HI8.out.below hb9)
  have HW9 := Lib.hid (obj_below HW8.out hb9)
  have HWE : Hid (∀ {W}, Below w9.heap.size w9 W → SI w1 tb W) := Lib.hid fun h => HI9.out.si.below h
  have HF2 : Hid (∀ W, Below w9.heap.size w9 W → Calls Try.prog 42 #[.agg #[.slice a0 n0 c0, .slice b0 m0 d0, .slice e0 k0 f0], .int .i64 2] W fun e w' => e = .returned (.tuple #[.agg sB.cells.toArray, .bool true]) ∧ Below W.heap.size W w') := Lib.hid fun W hW => by
    have h' := ryFind_any r.secs 2 (.slice a0 n0 c0) (.slice b0 m0 d0) (.slice e0 k0 f0) W (HI9.out.reg.below hW).secs (by have := HG.out.ok.secs.len; omega)
    rw [HG.out.f2] at h'
    exact h'
  have HR0 : Hid (∀ W id, Below w9.heap.size w9 W → Calls Try.prog 43 #[.agg #[.slice a0 n0 c0, .slice b0 m0 d0, .slice e0 k0 f0], .int .i64 id, .int .i64 who] W fun e w' => e = .returned (.int .i64 (heldM r.hs id who)) ∧ Below W.heap.size W w') := Lib.hid fun W id hW => ryHeld_ok r _ _ _ id who W HG.out.ok (HI9.out.reg.below hW)
  have HD0 : Hid (∀ W, Below w9.heap.size w9 W → Calls Try.prog 31 #[.agg #[.slice a0 n0 c0, .slice b0 m0 d0, .slice e0 k0 f0]] W fun e w' => e = .returned (.int .i64 (debtM r.hs)) ∧ Below W.heap.size W w') := Lib.hid fun W hW => ryDebt_ok r _ _ _ W HG.out.ok (HI9.out.reg.below hW)
  clear hb9 HI8 HW8 s0 s1 s2 y0 y1 y2 y3 HSWP
  by_cases hh : heldM r.hs 1 who < n
  · have HLT := Lib.hid hh
    obtain rfl := HBAD.out hh
    clear hsw HGOOD HBAD hh
    have HEND : Hid (Below w9.heap.size w9 (w9.alloc (.cells #[.slice p0 p1 p2, .slice p3 p4 p5, .slice p6 p7 p8] 29))) := Lib.hid (below_alloc _ _)
    obtain ⟨w10, hw10⟩ : ∃ W, W = w9.alloc (.cells #[.slice p0 p1 p2, .slice p3 p4 p5, .slice p6 p7 p8] 29) := ⟨_, rfl⟩
    rw [← hw10] at HEND
    obtain ⟨hv, hhv⟩ : ∃ hv, hv = heldM r.hs 1 who := ⟨_, rfl⟩
    have HR1 := Lib.hid (HR0.out w10 1 HEND.out)
    have hlt : heldM r.hs 1 who < n := HLT.out
    rw [← hhv] at HR1 hlt
    clear hhv HLT
    have hA := obj_below HI9.out.box HEND.out
    have s0 := obj_cell hA 0
    have s1 := obj_cell hA 1
    have s2 := obj_cell hA 2
    simp at s0 s1 s2
    clear hA
    go_upto_region 6 with fail
    rw [← hw10]
    clear hw10
    go_wp2_with fail
    refine Calls.mono HR1.out ?_
    rintro e w11 ⟨rfl, hb11⟩
    have HB11 := Lib.hid (HEND.out.trans (hb11.mono HEND.out.size))
    clear hb11 s0 s1 s2
    go_wp2_with fail
    refine (HSN.out _).mono ?_
    rintro e w12 ⟨rfl, hb12⟩
    have HE := Lib.hid (HFIN.out _ (HWE.out (HB11.out.trans (hb12.mono HB11.out.size))))
    clear hb12
    go_wp2
    go_ret
    exact ⟨rfl, HE.out⟩
  · obtain ⟨rfl, hSM⟩ := HGOOD.out (by omega)
    obtain ⟨rfl, hrx⟩ := hsw rfl
    have HSM := Lib.hid hSM
    clear HGOOD HBAD hh hsw hSM
    obtain ⟨bX, hbX⟩ : ∃ b, b = w9.heap.size := ⟨_, rfl⟩
    obtain ⟨w10, hw10⟩ : ∃ W, W = w9.alloc (.cells #[.slice p0 p1 p2, .slice p3 p4 p5, .slice p6 p7 p8] 29) := ⟨_, rfl⟩
    have HB10 : Hid (Below w9.heap.size w9 w10) := Lib.hid (by rw [hw10]; exact below_alloc _ _)
    have HRX : Hid (RegAt w10 (.slice p0 p1 p2) (.slice p3 p4 p5) (.slice p6 p7 p8) V) := Lib.hid (hrx.below HB10.out)
    have HX10 : Hid (w10.heap[bX]? = some (.cells #[.slice p0 p1 p2, .slice p3 p4 p5, .slice p6 p7 p8] 29 (0, 0))) := Lib.hid (by rw [hw10, hbX]; exact heap_alloc_new _ _)
    clear hrx
    have hA := obj_below HI9.out.box HB10.out
    have s0 := obj_cell hA 0
    have s1 := obj_cell hA 1
    have s2 := obj_cell hA 2
    simp at s0 s1 s2
    clear hA
    go_upto_region 8 with fail
    rw [← hw10, ← hbX]
    clear hw10 hbX
    go_wp2_with fail
    refine Calls.mono (HF2.out _ HB10.out) ?_
    rintro e w11 ⟨rfl, hb11⟩
    obtain ⟨t0, t1, t2, t3, t4, t5, t6⟩ := sB
    simp only at hu0 hc1 hgz
    simp only [Sec.cells]
    obtain ⟨bZ, hbZ⟩ : ∃ b, b = w11.heap.size := ⟨_, rfl⟩
    obtain ⟨w12, hw12⟩ : ∃ W, W = w11.alloc (.cells #[.int .i64 t0, .int .i64 t1, .int .i64 t2, .int .i64 t3, .int .i64 t4, .int .i64 t5, .bool t6] 34) := ⟨_, rfl⟩
    have HB12 : Hid (Below w9.heap.size w9 w12) := Lib.hid (by rw [hw12]; exact (HB10.out.trans (hb11.mono HB10.out.size)).alloc (Nat.le_trans HB10.out.size hb11.size) _)
    have HBX : Hid (Below w10.heap.size w10 w12) := Lib.hid (by rw [hw12]; exact hb11.alloc hb11.size _)
    have HZ12 : Hid (w12.heap[bZ]? = some (.cells #[.int .i64 t0, .int .i64 t1, .int .i64 t2, .int .i64 t3, .int .i64 t4, .int .i64 t5, .bool t6] 34 (0, 0))) := Lib.hid (by rw [hw12, hbZ]; exact heap_alloc_new _ _)
    have HX12 := Lib.hid (obj_below HX10.out HBX.out)
    have HRX12 := Lib.hid (HRX.out.below HBX.out)
    clear hb11 s0 s1 s2
    go_upto_region 9 with fail
    rw [← hw12, ← hbZ]
    clear hw12 hbZ
    obtain ⟨J, hJ⟩ : ∃ J, J = fun W : World => Below w12.heap.size w12 W := ⟨_, rfl⟩
    have HJO : Hid (∀ W, J W → Below w12.heap.size w12 W) := Lib.hid fun W hW => by rw [hJ] at hW; exact hW
    have HJI : Hid (∀ W, Below w12.heap.size w12 W → J W) := Lib.hid fun W hW => by rw [hJ]; exact hW
    have HJD : Hid (∀ W, J W → J W.drew) := Lib.hid fun W hW => HJI.out _ ((HJO.out W hW).drew)
    have HJ0 : Hid (J w12) := Lib.hid (HJI.out _ (Below.refl _ _))
    have HJB : Hid (∀ W W', J W → Below W.heap.size W W' → J W') := Lib.hid fun W W' hW hb => HJI.out _ ((HJO.out W hW).trans (hb.mono (HJO.out W hW).size))
    have HJ9 : Hid (∀ W, J W → Below w9.heap.size w9 W) := Lib.hid fun W hW => HB12.out.trans ((HJO.out W hW).mono HB12.out.size)
    have HSI : Hid (∀ {W}, Below w12.heap.size w12 W → SI w1 tb W) := Lib.hid fun h => HWE.out (HB12.out.trans (h.mono HB12.out.size))
    have HCR : Hid (∀ W, J W → ∀ j, W.cell? ⟨bR, j, none⟩ = #[.slice a0 n0 c0, .slice b0 m0 d0, .slice e0 k0 f0][j]?) := Lib.hid fun W hW j => obj_cell (obj_below HI9.out.box (HJ9.out W hW)) j
    have HCW : Hid (∀ W, J W → ∀ j, W.cell? ⟨bW, j, none⟩ = #[.int .i64 1, .int .i64 2, .int .i64 num, .int .i64 den][j]?) := Lib.hid fun W hW j => obj_cell (obj_below HW9.out (HJ9.out W hW)) j
    have HCX : Hid (∀ W, J W → ∀ j, W.cell? ⟨bX, j, none⟩ = #[.slice p0 p1 p2, .slice p3 p4 p5, .slice p6 p7 p8][j]?) := Lib.hid fun W hW j => obj_cell (obj_below HX12.out (HJO.out W hW)) j
    have HCZ : Hid (∀ W, J W → ∀ j, W.cell? ⟨bZ, j, none⟩ = #[.int .i64 t0, .int .i64 t1, .int .i64 t2, .int .i64 t3, .int .i64 t4, .int .i64 t5, .bool t6][j]?) := Lib.hid fun W hW j => obj_cell (obj_below HZ12.out (HJO.out W hW)) j
    obtain ⟨ha, hha⟩ : ∃ ha, ha = heldM r.hs 1 who := ⟨_, rfl⟩
    obtain ⟨hb, hhb⟩ : ∃ hb, hb = heldM r.hs 2 who := ⟨_, rfl⟩
    obtain ⟨da, hda⟩ : ∃ da, da = debtM r.hs := ⟨_, rfl⟩
    have hba : 0 ≤ ha ∧ ha ≤ 1000000000000000 := by
      have := sumH_bound (p := isAt 1 who) HG.out.ok.runM.inv.ok.ok; have := HG.out.ok.hsLen; rw [hha]; unfold heldM; omega
    have hbb : 0 ≤ hb ∧ hb ≤ 1000000000000000 := by
      have := sumH_bound (p := isAt 2 who) HG.out.ok.runM.inv.ok.ok; have := HG.out.ok.hsLen; rw [hhb]; unfold heldM; omega
    have hbd : 0 ≤ da ∧ da ≤ 1000000000000000 := by
      have := sumH_bound (p := fun _ => true) HG.out.ok.runM.inv.ok.ok; have := HG.out.ok.hsLen; rw [hda]; unfold debtM; omega
    have HR1 : Hid (∀ W, J W → Calls Try.prog 43 #[.agg #[.slice a0 n0 c0, .slice b0 m0 d0, .slice e0 k0 f0], .int .i64 1, .int .i64 who] W fun e w' => e = .returned (.int .i64 ha) ∧ J w') := Lib.hid fun W hW => (HR0.out W 1 (HJ9.out W hW)).mono fun e w' ⟨h1, h2⟩ => ⟨by rw [h1, hha], HJB.out _ _ hW h2⟩
    have HR2 : Hid (∀ W, J W → Calls Try.prog 43 #[.agg #[.slice a0 n0 c0, .slice b0 m0 d0, .slice e0 k0 f0], .int .i64 2, .int .i64 who] W fun e w' => e = .returned (.int .i64 hb) ∧ J w') := Lib.hid fun W hW => (HR0.out W 2 (HJ9.out W hW)).mono fun e w' ⟨h1, h2⟩ => ⟨by rw [h1, hhb], HJB.out _ _ hW h2⟩
    have HDR : Hid (∀ W, J W → Calls Try.prog 31 #[.agg #[.slice a0 n0 c0, .slice b0 m0 d0, .slice e0 k0 f0]] W fun e w' => e = .returned (.int .i64 da) ∧ J w') := Lib.hid fun W hW => (HD0.out W (HJ9.out W hW)).mono fun e w' ⟨h1, h2⟩ => ⟨by rw [h1, hda], HJB.out _ _ hW h2⟩
    have HX1 : Hid (∀ W, J W → Calls Try.prog 43 #[.agg #[.slice p0 p1 p2, .slice p3 p4 p5, .slice p6 p7 p8], .int .i64 1, .int .i64 who] W fun e w' => e = .returned (.int .i64 (ha - n)) ∧ J w') := Lib.hid fun W hW => (ryHeld_ok V _ _ _ 1 who W HSM.out.ok (HRX12.out.below (HJO.out W hW))).mono fun e w' ⟨h1, h2⟩ => ⟨by rw [h1, HSM.out.h1, hha], HJB.out _ _ hW h2⟩
    have HX2 : Hid (∀ W, J W → Calls Try.prog 43 #[.agg #[.slice p0 p1 p2, .slice p3 p4 p5, .slice p6 p7 p8], .int .i64 2, .int .i64 who] W fun e w' => e = .returned (.int .i64 (hb + g)) ∧ J w') := Lib.hid fun W hW => (ryHeld_ok V _ _ _ 2 who W HSM.out.ok (HRX12.out.below (HJO.out W hW))).mono fun e w' ⟨h1, h2⟩ => ⟨by rw [h1, HSM.out.h2, hhb], HJB.out _ _ hW h2⟩
    have HDX : Hid (∀ W, J W → Calls Try.prog 31 #[.agg #[.slice p0 p1 p2, .slice p3 p4 p5, .slice p6 p7 p8]] W fun e w' => e = .returned (.int .i64 (da - n + g)) ∧ J w') := Lib.hid fun W hW => (ryDebt_ok V _ _ _ W HSM.out.ok (HRX12.out.below (HJO.out W hW))).mono fun e w' ⟨h1, h2⟩ => ⟨by rw [h1, HSM.out.debt, hda], HJB.out _ _ hW h2⟩
    have HSA : Hid (∀ W, J W → Calls Try.prog 52 #[] W fun e w' => e = .returned (.bool true) ∧ J w') := Lib.hid fun W hW => (HSN.out W).mono fun e w' ⟨h1, h2⟩ => ⟨h1, HJB.out _ _ hW h2⟩
    have hg0 : 0 ≤ g := by omega
    have hg9 : g ≤ 9000 := by omega
    have hw62 : IntKind.i64.wrap (hb + g - hb) = g := by rw [show hb + g - hb = g by omega]; exact IntWalk.i64_in _ (by omega)
    have hw70 : IntKind.i64.wrap (ha - n) = ha - n := IntWalk.i64_in _ (by omega)
    have hw76 : g.tmod t1 = 0 := by rw [Int.tmod_eq_emod_of_nonneg hg0]; exact hgz
    have hu9 : ¬ (t1 = 0) := by omega
    have hw92 : IntKind.i64.wrap (g + k) = n * num / den := by rw [show g + k = n * num / den by omega]; exact IntWalk.i64_in _ (by omega)
    clear hgq hgm
    have hnn0 : 0 ≤ n * num := Int.mul_nonneg (by omega) (by omega)
    have hw99b : IntKind.i64.wrap ((n * num).tdiv den) = n * num / den := by rw [Int.tdiv_eq_ediv_of_nonneg hnn0]; exact IntWalk.i64_in _ (by omega)
    clear hnn0
    have hden0 : ¬ (den = 0) := by omega
    have hw108 : IntKind.i64.wrap (da - n) = da - n := IntWalk.i64_in _ (by omega)
    have hw110 : IntKind.i64.wrap (da - n + g) = da - n + g := IntWalk.i64_in _ (by omega)
    have egH := enters_of Try.func43 (by kernel_rfl) rfl
    have egD := enters_of Try.func31 (by kernel_rfl) rfl
    have egS := enters_of Try.func52 (by kernel_rfl) rfl
    clear hJ HJI HR0 HD0 HF2 HSN HI9 HW9 HX10 HRX HRX12 HX12 HZ12 HSM hha hhb hda HB10 HBX
    go_cut [13] (fun gv wx => gv = .int .i64 g ∧ Hid (J wx))
    case first =>
      refine wp_region_props [56, 57, 58, 59, 60, 61, 62, 13] (slotS [56, 57, 58, 59, 60, 61, 62, 13]) (readsS [56, 57, 58, 59, 60, 61, 62, 13]) (RTs [56, 57, 58, 59, 60, 61, 62, 13] [.agg #[.slice p0 p1 p2, .slice p3 p4 p5, .slice p6 p7 p8], .int .i64 who, .int .i64 (hb + g), .agg #[.slice a0 n0 c0, .slice b0 m0 d0, .slice e0 k0 f0], .int .i64 who, .int .i64 hb, .int .i64 g, .int .i64 g]) J (by kernel_rfl) (by kernel_rfl) (by kernel_rfl) (HJD.out _ HJ0.out) (fun j f q v W hq h => RTs.upd hq h) ?_ ?_
      case refine_1 =>
        intro iq hiq f W hIW hdep
        have hiq' : iq < 8 := hiq
        generalize ha1 : putsL _ [56, 57, 58, 59, 60, 61, 62, 13] f = a1
        match iq, hiq', hdep with
        | 0, _, hdep =>
          have E8 : a1.tmps[8]?.getD undef = .pointer (some ⟨bX, 0, none⟩) := by rw [← ha1]; exact (putsL_out2 _ _ _ _ (by decide)).trans rfl
          have v0 : W.cell? ⟨bX, 0, none⟩ = some (.slice p0 p1 p2) := by simpa using HCX.out W hIW 0
          have v1 : W.cell? ⟨bX, 1, none⟩ = some (.slice p3 p4 p5) := by simpa using HCX.out W hIW 1
          have v2 : W.cell? ⟨bX, 2, none⟩ = some (.slice p6 p7 p8) := by simpa using HCX.out W hIW 2
          exact wpOp_val rfl rfl (v := .agg #[.slice p0 p1 p2, .slice p3 p4 p5, .slice p6 p7 p8]) (w' := W) (by simp [execOp, go_sem, E8, v0, v1, v2]) ⟨hIW, fun _ h => h, Or.inl ⟨_, by decide, rfl, updF_same _ _ _⟩⟩
        | 1, _, hdep =>
          have E6 : a1.tmps[6]?.getD undef = .int .i64 who := by rw [← ha1]; exact (putsL_out2 _ _ _ _ (by decide)).trans rfl
          exact wpOp_val rfl rfl (v := .int .i64 who) (w' := W) (by simp [execOp, go_sem, E6]) ⟨hIW, fun _ h => h, Or.inl ⟨_, by decide, rfl, updF_same _ _ _⟩⟩
        | 2, _, hdep =>
          have E56 : a1.tmps[56]?.getD undef = .agg #[.slice p0 p1 p2, .slice p3 p4 p5, .slice p6 p7 p8] := by rw [← ha1]; exact (putsL_in2 _ _ _ _ (by decide) (show 56 < 116 from by decide)).trans (hdep 0 (by kernel_rfl))
          have E57 : a1.tmps[57]?.getD undef = .int .i64 who := by rw [← ha1]; exact (putsL_in2 _ _ _ _ (by decide) (show 57 < 116 from by decide)).trans (hdep 1 (by kernel_rfl))
          refine wpOp_call rfl rfl (n := 43) (vs := #[.agg #[.slice p0 p1 p2, .slice p3 p4 p5, .slice p6 p7 p8], .int .i64 2, .int .i64 who]) (by have := egH #[.agg #[.slice p0 p1 p2, .slice p3 p4 p5, .slice p6 p7 p8], .int .i64 2, .int .i64 who] W; simp [execOp, E56, E57, resolve, invoke, go_sem] <;> exact this) ((HX2.out W hIW).mono fun e w' h => (⟨_, h.1, rfl, h.2⟩ : ∃ v, e = .returned v ∧ (v = .int .i64 (hb + g) ∧ J w'))) ?_
          rintro v w' ⟨rfl, hI'⟩
          exact ⟨hI', fun _ h => h, Or.inl ⟨_, by decide, rfl, updF_same _ _ _⟩⟩
        | 3, _, hdep =>
          have E4 : a1.tmps[4]?.getD undef = .pointer (some ⟨bR, 0, none⟩) := by rw [← ha1]; exact (putsL_out2 _ _ _ _ (by decide)).trans rfl
          have v0 : W.cell? ⟨bR, 0, none⟩ = some (.slice a0 n0 c0) := by simpa using HCR.out W hIW 0
          have v1 : W.cell? ⟨bR, 1, none⟩ = some (.slice b0 m0 d0) := by simpa using HCR.out W hIW 1
          have v2 : W.cell? ⟨bR, 2, none⟩ = some (.slice e0 k0 f0) := by simpa using HCR.out W hIW 2
          exact wpOp_val rfl rfl (v := .agg #[.slice a0 n0 c0, .slice b0 m0 d0, .slice e0 k0 f0]) (w' := W) (by simp [execOp, go_sem, E4, v0, v1, v2]) ⟨hIW, fun _ h => h, Or.inl ⟨_, by decide, rfl, updF_same _ _ _⟩⟩
        | 4, _, hdep =>
          have E6 : a1.tmps[6]?.getD undef = .int .i64 who := by rw [← ha1]; exact (putsL_out2 _ _ _ _ (by decide)).trans rfl
          exact wpOp_val rfl rfl (v := .int .i64 who) (w' := W) (by simp [execOp, go_sem, E6]) ⟨hIW, fun _ h => h, Or.inl ⟨_, by decide, rfl, updF_same _ _ _⟩⟩
        | 5, _, hdep =>
          have E59 : a1.tmps[59]?.getD undef = .agg #[.slice a0 n0 c0, .slice b0 m0 d0, .slice e0 k0 f0] := by rw [← ha1]; exact (putsL_in2 _ _ _ _ (by decide) (show 59 < 116 from by decide)).trans (hdep 3 (by kernel_rfl))
          have E60 : a1.tmps[60]?.getD undef = .int .i64 who := by rw [← ha1]; exact (putsL_in2 _ _ _ _ (by decide) (show 60 < 116 from by decide)).trans (hdep 4 (by kernel_rfl))
          refine wpOp_call rfl rfl (n := 43) (vs := #[.agg #[.slice a0 n0 c0, .slice b0 m0 d0, .slice e0 k0 f0], .int .i64 2, .int .i64 who]) (by have := egH #[.agg #[.slice a0 n0 c0, .slice b0 m0 d0, .slice e0 k0 f0], .int .i64 2, .int .i64 who] W; simp [execOp, E59, E60, resolve, invoke, go_sem] <;> exact this) ((HR2.out W hIW).mono fun e w' h => (⟨_, h.1, rfl, h.2⟩ : ∃ v, e = .returned v ∧ (v = .int .i64 hb ∧ J w'))) ?_
          rintro v w' ⟨rfl, hI'⟩
          exact ⟨hI', fun _ h => h, Or.inl ⟨_, by decide, rfl, updF_same _ _ _⟩⟩
        | 6, _, hdep =>
          have E58 : a1.tmps[58]?.getD undef = .int .i64 (hb + g) := by rw [← ha1]; exact (putsL_in2 _ _ _ _ (by decide) (show 58 < 116 from by decide)).trans (hdep 2 (by kernel_rfl))
          have E61 : a1.tmps[61]?.getD undef = .int .i64 hb := by rw [← ha1]; exact (putsL_in2 _ _ _ _ (by decide) (show 61 < 116 from by decide)).trans (hdep 5 (by kernel_rfl))
          exact wpOp_val rfl rfl (v := .int .i64 g) (w' := W) (by simp [execOp, go_sem, E58, E61, hw62]) ⟨hIW, fun _ h => h, Or.inl ⟨_, by decide, rfl, updF_same _ _ _⟩⟩
        | 7, _, hdep =>
          have E62 : a1.tmps[62]?.getD undef = .int .i64 g := by rw [← ha1]; exact (putsL_in2 _ _ _ _ (by decide) (show 62 < 116 from by decide)).trans (hdep 6 (by kernel_rfl))
          exact wpOp_val rfl rfl (v := .int .i64 g) (w' := W) (by simp [execOp, go_sem, E62]) ⟨hIW, fun _ h => h, Or.inl ⟨_, by decide, rfl, updF_same _ _ _⟩⟩
        | iq + 8, h, _ => exact absurd h (by omega)
      case refine_2 =>
        intro f W hIW hR
        have h13 : f 13 = .int .i64 g := hR 7 (show 7 < 8 from by decide)
        simp only [putsL, List.foldl_cons, List.foldl_nil, Act.put, List.setIfInBounds_toArray, List.set_cons_zero, List.set_cons_succ]
        go_wp2
        go_meet
        exact ⟨(by first | exact h13 | rfl), Lib.hid hIW⟩
    case rest =>
    obtain ⟨rfl, HJ9⟩ := hcut
    go_upto_region 10 with fail
    refine wp_region_props [63, 64, 65, 66, 67, 68, 69, 70, 71, 72, 73, 74, 75, 76, 77, 78, 79, 80, 81, 82, 83, 84, 85, 86, 87, 88, 89, 90, 91, 92, 93, 94, 95, 96, 97, 98, 99, 100, 101, 102, 103, 104, 105, 106, 107, 108, 109, 110, 111, 112, 113, 114, 115, 2] (slotS [63, 64, 65, 66, 67, 68, 69, 70, 71, 72, 73, 74, 75, 76, 77, 78, 79, 80, 81, 82, 83, 84, 85, 86, 87, 88, 89, 90, 91, 92, 93, 94, 95, 96, 97, 98, 99, 100, 101, 102, 103, 104, 105, 106, 107, 108, 109, 110, 111, 112, 113, 114, 115, 2]) (readsS [63, 64, 65, 66, 67, 68, 69, 70, 71, 72, 73, 74, 75, 76, 77, 78, 79, 80, 81, 82, 83, 84, 85, 86, 87, 88, 89, 90, 91, 92, 93, 94, 95, 96, 97, 98, 99, 100, 101, 102, 103, 104, 105, 106, 107, 108, 109, 110, 111, 112, 113, 114, 115, 2]) (RTs [63, 64, 65, 66, 67, 68, 69, 70, 71, 72, 73, 74, 75, 76, 77, 78, 79, 80, 81, 82, 83, 84, 85, 86, 87, 88, 89, 90, 91, 92, 93, 94, 95, 96, 97, 98, 99, 100, 101, 102, 103, 104, 105, 106, 107, 108, 109, 110, 111, 112, 113, 114, 115, 2] [.agg #[.slice p0 p1 p2, .slice p3 p4 p5, .slice p6 p7 p8], .int .i64 who, .int .i64 (ha - n), .agg #[.slice a0 n0 c0, .slice b0 m0 d0, .slice e0 k0 f0], .int .i64 who, .int .i64 ha, .int .i64 n, .int .i64 (ha - n), .bool true, .bool true, .int .i64 g, .pointer (some ⟨bZ, 1, none⟩), .int .i64 t1, .int .i64 0, .bool true, .bool true, .bool true, .int .i64 k, .bool true, .bool true, .bool true, .int .i64 k, .pointer (some ⟨bZ, 1, none⟩), .int .i64 t1, .bool true, .bool true, .bool true, .int .i64 g, .int .i64 k, .int .i64 (n * num / den), .int .i64 n, .pointer (some ⟨bW, 2, none⟩), .int .i64 num, .int .i64 (n * num), .pointer (some ⟨bW, 3, none⟩), .int .i64 den, .int .i64 (n * num / den), .bool true, .bool true, .bool true, .agg #[.slice p0 p1 p2, .slice p3 p4 p5, .slice p6 p7 p8], .int .i64 (da - n + g), .agg #[.slice a0 n0 c0, .slice b0 m0 d0, .slice e0 k0 f0], .int .i64 da, .int .i64 n, .int .i64 (da - n), .int .i64 g, .int .i64 (da - n + g), .bool true, .bool true, .bool true, .bool true, .bool true, .bool true]) J (by kernel_rfl) (by kernel_rfl) (by kernel_rfl) (HJD.out _ HJ9.out) (fun j f q v W hq h => RTs.upd hq h) ?_ ?_
    case refine_1 =>
      intro iq hiq f W hIW hdep
      have hiq' : iq < 54 := hiq
      generalize ha1 : putsL _ [63, 64, 65, 66, 67, 68, 69, 70, 71, 72, 73, 74, 75, 76, 77, 78, 79, 80, 81, 82, 83, 84, 85, 86, 87, 88, 89, 90, 91, 92, 93, 94, 95, 96, 97, 98, 99, 100, 101, 102, 103, 104, 105, 106, 107, 108, 109, 110, 111, 112, 113, 114, 115, 2] f = a1
      match iq, hiq', hdep with
      | 0, _, hdep =>
        have E8 : a1.tmps[8]?.getD undef = .pointer (some ⟨bX, 0, none⟩) := by rw [← ha1]; exact (putsL_out2 _ _ _ _ (by decide)).trans rfl
        have v0 : W.cell? ⟨bX, 0, none⟩ = some (.slice p0 p1 p2) := by simpa using HCX.out W hIW 0
        have v1 : W.cell? ⟨bX, 1, none⟩ = some (.slice p3 p4 p5) := by simpa using HCX.out W hIW 1
        have v2 : W.cell? ⟨bX, 2, none⟩ = some (.slice p6 p7 p8) := by simpa using HCX.out W hIW 2
        exact wpOp_val rfl rfl (v := .agg #[.slice p0 p1 p2, .slice p3 p4 p5, .slice p6 p7 p8]) (w' := W) (by simp [execOp, go_sem, E8, v0, v1, v2]) ⟨hIW, fun _ h => h, Or.inl ⟨_, by decide, rfl, updF_same _ _ _⟩⟩
      | 1, _, hdep =>
        have E6 : a1.tmps[6]?.getD undef = .int .i64 who := by rw [← ha1]; exact (putsL_out2 _ _ _ _ (by decide)).trans rfl
        exact wpOp_val rfl rfl (v := .int .i64 who) (w' := W) (by simp [execOp, go_sem, E6]) ⟨hIW, fun _ h => h, Or.inl ⟨_, by decide, rfl, updF_same _ _ _⟩⟩
      | 2, _, hdep =>
        have E63 : a1.tmps[63]?.getD undef = .agg #[.slice p0 p1 p2, .slice p3 p4 p5, .slice p6 p7 p8] := by rw [← ha1]; exact (putsL_in2 _ _ _ _ (by decide) (show 63 < 116 from by decide)).trans (hdep 0 (by kernel_rfl))
        have E64 : a1.tmps[64]?.getD undef = .int .i64 who := by rw [← ha1]; exact (putsL_in2 _ _ _ _ (by decide) (show 64 < 116 from by decide)).trans (hdep 1 (by kernel_rfl))
        refine wpOp_call rfl rfl (n := 43) (vs := #[.agg #[.slice p0 p1 p2, .slice p3 p4 p5, .slice p6 p7 p8], .int .i64 1, .int .i64 who]) (by have := egH #[.agg #[.slice p0 p1 p2, .slice p3 p4 p5, .slice p6 p7 p8], .int .i64 1, .int .i64 who] W; simp [execOp, E63, E64, resolve, invoke, go_sem] <;> exact this) ((HX1.out W hIW).mono fun e w' h => (⟨_, h.1, rfl, h.2⟩ : ∃ v, e = .returned v ∧ (v = .int .i64 (ha - n) ∧ J w'))) ?_
        rintro v w' ⟨rfl, hI'⟩
        exact ⟨hI', fun _ h => h, Or.inl ⟨_, by decide, rfl, updF_same _ _ _⟩⟩
      | 3, _, hdep =>
        have E4 : a1.tmps[4]?.getD undef = .pointer (some ⟨bR, 0, none⟩) := by rw [← ha1]; exact (putsL_out2 _ _ _ _ (by decide)).trans rfl
        have v0 : W.cell? ⟨bR, 0, none⟩ = some (.slice a0 n0 c0) := by simpa using HCR.out W hIW 0
        have v1 : W.cell? ⟨bR, 1, none⟩ = some (.slice b0 m0 d0) := by simpa using HCR.out W hIW 1
        have v2 : W.cell? ⟨bR, 2, none⟩ = some (.slice e0 k0 f0) := by simpa using HCR.out W hIW 2
        exact wpOp_val rfl rfl (v := .agg #[.slice a0 n0 c0, .slice b0 m0 d0, .slice e0 k0 f0]) (w' := W) (by simp [execOp, go_sem, E4, v0, v1, v2]) ⟨hIW, fun _ h => h, Or.inl ⟨_, by decide, rfl, updF_same _ _ _⟩⟩
      | 4, _, hdep =>
        have E6 : a1.tmps[6]?.getD undef = .int .i64 who := by rw [← ha1]; exact (putsL_out2 _ _ _ _ (by decide)).trans rfl
        exact wpOp_val rfl rfl (v := .int .i64 who) (w' := W) (by simp [execOp, go_sem, E6]) ⟨hIW, fun _ h => h, Or.inl ⟨_, by decide, rfl, updF_same _ _ _⟩⟩
      | 5, _, hdep =>
        have E66 : a1.tmps[66]?.getD undef = .agg #[.slice a0 n0 c0, .slice b0 m0 d0, .slice e0 k0 f0] := by rw [← ha1]; exact (putsL_in2 _ _ _ _ (by decide) (show 66 < 116 from by decide)).trans (hdep 3 (by kernel_rfl))
        have E67 : a1.tmps[67]?.getD undef = .int .i64 who := by rw [← ha1]; exact (putsL_in2 _ _ _ _ (by decide) (show 67 < 116 from by decide)).trans (hdep 4 (by kernel_rfl))
        refine wpOp_call rfl rfl (n := 43) (vs := #[.agg #[.slice a0 n0 c0, .slice b0 m0 d0, .slice e0 k0 f0], .int .i64 1, .int .i64 who]) (by have := egH #[.agg #[.slice a0 n0 c0, .slice b0 m0 d0, .slice e0 k0 f0], .int .i64 1, .int .i64 who] W; simp [execOp, E66, E67, resolve, invoke, go_sem] <;> exact this) ((HR1.out W hIW).mono fun e w' h => (⟨_, h.1, rfl, h.2⟩ : ∃ v, e = .returned v ∧ (v = .int .i64 ha ∧ J w'))) ?_
        rintro v w' ⟨rfl, hI'⟩
        exact ⟨hI', fun _ h => h, Or.inl ⟨_, by decide, rfl, updF_same _ _ _⟩⟩
      | 6, _, hdep =>
        have E7 : a1.tmps[7]?.getD undef = .int .i64 n := by rw [← ha1]; exact (putsL_out2 _ _ _ _ (by decide)).trans rfl
        exact wpOp_val rfl rfl (v := .int .i64 n) (w' := W) (by simp [execOp, go_sem, E7]) ⟨hIW, fun _ h => h, Or.inl ⟨_, by decide, rfl, updF_same _ _ _⟩⟩
      | 7, _, hdep =>
        have E68 : a1.tmps[68]?.getD undef = .int .i64 ha := by rw [← ha1]; exact (putsL_in2 _ _ _ _ (by decide) (show 68 < 116 from by decide)).trans (hdep 5 (by kernel_rfl))
        have E69 : a1.tmps[69]?.getD undef = .int .i64 n := by rw [← ha1]; exact (putsL_in2 _ _ _ _ (by decide) (show 69 < 116 from by decide)).trans (hdep 6 (by kernel_rfl))
        exact wpOp_val rfl rfl (v := .int .i64 (ha - n)) (w' := W) (by simp [execOp, go_sem, E68, E69, hw70]) ⟨hIW, fun _ h => h, Or.inl ⟨_, by decide, rfl, updF_same _ _ _⟩⟩
      | 8, _, hdep =>
        have E65 : a1.tmps[65]?.getD undef = .int .i64 (ha - n) := by rw [← ha1]; exact (putsL_in2 _ _ _ _ (by decide) (show 65 < 116 from by decide)).trans (hdep 2 (by kernel_rfl))
        have E70 : a1.tmps[70]?.getD undef = .int .i64 (ha - n) := by rw [← ha1]; exact (putsL_in2 _ _ _ _ (by decide) (show 70 < 116 from by decide)).trans (hdep 7 (by kernel_rfl))
        exact wpOp_val rfl rfl (v := .bool true) (w' := W) (by simp [execOp, go_sem, E65, E70]) ⟨hIW, fun _ h => h, Or.inl ⟨_, by decide, rfl, updF_same _ _ _⟩⟩
      | 9, _, hdep =>
        have E71 : a1.tmps[71]?.getD undef = .bool true := by rw [← ha1]; exact (putsL_in2 _ _ _ _ (by decide) (show 71 < 116 from by decide)).trans (hdep 8 (by kernel_rfl))
        exact wpOp_val rfl rfl (v := .bool true) (w' := W) (by simp [execOp, go_sem, E71]) ⟨hIW, fun _ h => h, Or.inl ⟨_, by decide, rfl, updF_same _ _ _⟩⟩
      | 10, _, hdep =>
        have G9 : a1.tmps[72]? = some (.bool true) := by rw [← ha1]; exact (putsL_some _ _ _ _ (by decide) (show 72 < 116 from by decide)).trans (congrArg some (hdep 9 (by kernel_rfl)))
        have E13 : a1.tmps[13]?.getD undef = .int .i64 g := by rw [← ha1]; exact (putsL_out2 _ _ _ _ (by decide)).trans rfl
        exact wpOp_valG rfl rfl (yielded_of rfl G9) (v := .int .i64 g) (w' := W) (by simp [execOp, go_sem, E13]) ⟨hIW, fun _ h => h, Or.inl ⟨_, by decide, rfl, updF_same _ _ _⟩⟩
      | 11, _, hdep =>
        have G9 : a1.tmps[72]? = some (.bool true) := by rw [← ha1]; exact (putsL_some _ _ _ _ (by decide) (show 72 < 116 from by decide)).trans (congrArg some (hdep 9 (by kernel_rfl)))
        have E11 : a1.tmps[11]?.getD undef = .pointer (some ⟨bZ, 0, none⟩) := by rw [← ha1]; exact (putsL_out2 _ _ _ _ (by decide)).trans rfl
        exact wpOp_valG rfl rfl (yielded_of rfl G9) (v := .pointer (some ⟨bZ, 1, none⟩)) (w' := W) (by simp [execOp, go_sem, E11]) ⟨hIW, fun _ h => h, Or.inl ⟨_, by decide, rfl, updF_same _ _ _⟩⟩
      | 12, _, hdep =>
        have G9 : a1.tmps[72]? = some (.bool true) := by rw [← ha1]; exact (putsL_some _ _ _ _ (by decide) (show 72 < 116 from by decide)).trans (congrArg some (hdep 9 (by kernel_rfl)))
        have E74 : a1.tmps[74]?.getD undef = .pointer (some ⟨bZ, 1, none⟩) := by rw [← ha1]; exact (putsL_in2 _ _ _ _ (by decide) (show 74 < 116 from by decide)).trans (hdep 11 (by kernel_rfl))
        have v1 : W.cell? ⟨bZ, 1, none⟩ = some (.int .i64 t1) := by simpa using HCZ.out W hIW 1
        exact wpOp_valG rfl rfl (yielded_of rfl G9) (v := .int .i64 t1) (w' := W) (by simp [execOp, go_sem, E74, v1]) ⟨hIW, fun _ h => h, Or.inl ⟨_, by decide, rfl, updF_same _ _ _⟩⟩
      | 13, _, hdep =>
        have G9 : a1.tmps[72]? = some (.bool true) := by rw [← ha1]; exact (putsL_some _ _ _ _ (by decide) (show 72 < 116 from by decide)).trans (congrArg some (hdep 9 (by kernel_rfl)))
        have E73 : a1.tmps[73]?.getD undef = .int .i64 g := by rw [← ha1]; exact (putsL_in2 _ _ _ _ (by decide) (show 73 < 116 from by decide)).trans (hdep 10 (by kernel_rfl))
        have E75 : a1.tmps[75]?.getD undef = .int .i64 t1 := by rw [← ha1]; exact (putsL_in2 _ _ _ _ (by decide) (show 75 < 116 from by decide)).trans (hdep 12 (by kernel_rfl))
        exact wpOp_valG rfl rfl (yielded_of rfl G9) (v := .int .i64 0) (w' := W) (by simp [execOp, go_sem, E73, E75, hw76, hu9]) ⟨hIW, fun _ h => h, Or.inl ⟨_, by decide, rfl, updF_same _ _ _⟩⟩
      | 14, _, hdep =>
        have G9 : a1.tmps[72]? = some (.bool true) := by rw [← ha1]; exact (putsL_some _ _ _ _ (by decide) (show 72 < 116 from by decide)).trans (congrArg some (hdep 9 (by kernel_rfl)))
        have E76 : a1.tmps[76]?.getD undef = .int .i64 0 := by rw [← ha1]; exact (putsL_in2 _ _ _ _ (by decide) (show 76 < 116 from by decide)).trans (hdep 13 (by kernel_rfl))
        exact wpOp_valG rfl rfl (yielded_of rfl G9) (v := .bool true) (w' := W) (by simp [execOp, go_sem, E76]) ⟨hIW, fun _ h => h, Or.inl ⟨_, by decide, rfl, updF_same _ _ _⟩⟩
      | 15, _, hdep =>
        have E72 : a1.tmps[72]?.getD undef = .bool true := by rw [← ha1]; exact (putsL_in2 _ _ _ _ (by decide) (show 72 < 116 from by decide)).trans (hdep 9 (by kernel_rfl))
        have E77 : a1.tmps[77]?.getD undef = .bool true := by rw [← ha1]; exact (putsL_in2 _ _ _ _ (by decide) (show 77 < 116 from by decide)).trans (hdep 14 (by kernel_rfl))
        exact wpOp_val rfl rfl (v := .bool true) (w' := W) (by simp [execOp, go_sem, E72, E77]) ⟨hIW, fun _ h => h, Or.inl ⟨_, by decide, rfl, updF_same _ _ _⟩⟩
      | 16, _, hdep =>
        have E78 : a1.tmps[78]?.getD undef = .bool true := by rw [← ha1]; exact (putsL_in2 _ _ _ _ (by decide) (show 78 < 116 from by decide)).trans (hdep 15 (by kernel_rfl))
        exact wpOp_val rfl rfl (v := .bool true) (w' := W) (by simp [execOp, go_sem, E78]) ⟨hIW, fun _ h => h, Or.inl ⟨_, by decide, rfl, updF_same _ _ _⟩⟩
      | 17, _, hdep =>
        have G16 : a1.tmps[79]? = some (.bool true) := by rw [← ha1]; exact (putsL_some _ _ _ _ (by decide) (show 79 < 116 from by decide)).trans (congrArg some (hdep 16 (by kernel_rfl)))
        have E9 : a1.tmps[9]?.getD undef = .int .i64 k := by rw [← ha1]; exact (putsL_out2 _ _ _ _ (by decide)).trans rfl
        exact wpOp_valG rfl rfl (yielded_of rfl G16) (v := .int .i64 k) (w' := W) (by simp [execOp, go_sem, E9]) ⟨hIW, fun _ h => h, Or.inl ⟨_, by decide, rfl, updF_same _ _ _⟩⟩
      | 18, _, hdep =>
        have G16 : a1.tmps[79]? = some (.bool true) := by rw [← ha1]; exact (putsL_some _ _ _ _ (by decide) (show 79 < 116 from by decide)).trans (congrArg some (hdep 16 (by kernel_rfl)))
        have E80 : a1.tmps[80]?.getD undef = .int .i64 k := by rw [← ha1]; exact (putsL_in2 _ _ _ _ (by decide) (show 80 < 116 from by decide)).trans (hdep 17 (by kernel_rfl))
        exact wpOp_valG rfl rfl (yielded_of rfl G16) (v := .bool true) (w' := W) (by simp [execOp, go_sem, E80, hc0]) ⟨hIW, fun _ h => h, Or.inl ⟨_, by decide, rfl, updF_same _ _ _⟩⟩
      | 19, _, hdep =>
        have E79 : a1.tmps[79]?.getD undef = .bool true := by rw [← ha1]; exact (putsL_in2 _ _ _ _ (by decide) (show 79 < 116 from by decide)).trans (hdep 16 (by kernel_rfl))
        have E81 : a1.tmps[81]?.getD undef = .bool true := by rw [← ha1]; exact (putsL_in2 _ _ _ _ (by decide) (show 81 < 116 from by decide)).trans (hdep 18 (by kernel_rfl))
        exact wpOp_val rfl rfl (v := .bool true) (w' := W) (by simp [execOp, go_sem, E79, E81]) ⟨hIW, fun _ h => h, Or.inl ⟨_, by decide, rfl, updF_same _ _ _⟩⟩
      | 20, _, hdep =>
        have E82 : a1.tmps[82]?.getD undef = .bool true := by rw [← ha1]; exact (putsL_in2 _ _ _ _ (by decide) (show 82 < 116 from by decide)).trans (hdep 19 (by kernel_rfl))
        exact wpOp_val rfl rfl (v := .bool true) (w' := W) (by simp [execOp, go_sem, E82]) ⟨hIW, fun _ h => h, Or.inl ⟨_, by decide, rfl, updF_same _ _ _⟩⟩
      | 21, _, hdep =>
        have G20 : a1.tmps[83]? = some (.bool true) := by rw [← ha1]; exact (putsL_some _ _ _ _ (by decide) (show 83 < 116 from by decide)).trans (congrArg some (hdep 20 (by kernel_rfl)))
        have E9 : a1.tmps[9]?.getD undef = .int .i64 k := by rw [← ha1]; exact (putsL_out2 _ _ _ _ (by decide)).trans rfl
        exact wpOp_valG rfl rfl (yielded_of rfl G20) (v := .int .i64 k) (w' := W) (by simp [execOp, go_sem, E9]) ⟨hIW, fun _ h => h, Or.inl ⟨_, by decide, rfl, updF_same _ _ _⟩⟩
      | 22, _, hdep =>
        have G20 : a1.tmps[83]? = some (.bool true) := by rw [← ha1]; exact (putsL_some _ _ _ _ (by decide) (show 83 < 116 from by decide)).trans (congrArg some (hdep 20 (by kernel_rfl)))
        have E11 : a1.tmps[11]?.getD undef = .pointer (some ⟨bZ, 0, none⟩) := by rw [← ha1]; exact (putsL_out2 _ _ _ _ (by decide)).trans rfl
        exact wpOp_valG rfl rfl (yielded_of rfl G20) (v := .pointer (some ⟨bZ, 1, none⟩)) (w' := W) (by simp [execOp, go_sem, E11]) ⟨hIW, fun _ h => h, Or.inl ⟨_, by decide, rfl, updF_same _ _ _⟩⟩
      | 23, _, hdep =>
        have G20 : a1.tmps[83]? = some (.bool true) := by rw [← ha1]; exact (putsL_some _ _ _ _ (by decide) (show 83 < 116 from by decide)).trans (congrArg some (hdep 20 (by kernel_rfl)))
        have E85 : a1.tmps[85]?.getD undef = .pointer (some ⟨bZ, 1, none⟩) := by rw [← ha1]; exact (putsL_in2 _ _ _ _ (by decide) (show 85 < 116 from by decide)).trans (hdep 22 (by kernel_rfl))
        have v1 : W.cell? ⟨bZ, 1, none⟩ = some (.int .i64 t1) := by simpa using HCZ.out W hIW 1
        exact wpOp_valG rfl rfl (yielded_of rfl G20) (v := .int .i64 t1) (w' := W) (by simp [execOp, go_sem, E85, v1]) ⟨hIW, fun _ h => h, Or.inl ⟨_, by decide, rfl, updF_same _ _ _⟩⟩
      | 24, _, hdep =>
        have G20 : a1.tmps[83]? = some (.bool true) := by rw [← ha1]; exact (putsL_some _ _ _ _ (by decide) (show 83 < 116 from by decide)).trans (congrArg some (hdep 20 (by kernel_rfl)))
        have E84 : a1.tmps[84]?.getD undef = .int .i64 k := by rw [← ha1]; exact (putsL_in2 _ _ _ _ (by decide) (show 84 < 116 from by decide)).trans (hdep 21 (by kernel_rfl))
        have E86 : a1.tmps[86]?.getD undef = .int .i64 t1 := by rw [← ha1]; exact (putsL_in2 _ _ _ _ (by decide) (show 86 < 116 from by decide)).trans (hdep 23 (by kernel_rfl))
        exact wpOp_valG rfl rfl (yielded_of rfl G20) (v := .bool true) (w' := W) (by simp [execOp, go_sem, E84, E86, hc1]) ⟨hIW, fun _ h => h, Or.inl ⟨_, by decide, rfl, updF_same _ _ _⟩⟩
      | 25, _, hdep =>
        have E83 : a1.tmps[83]?.getD undef = .bool true := by rw [← ha1]; exact (putsL_in2 _ _ _ _ (by decide) (show 83 < 116 from by decide)).trans (hdep 20 (by kernel_rfl))
        have E87 : a1.tmps[87]?.getD undef = .bool true := by rw [← ha1]; exact (putsL_in2 _ _ _ _ (by decide) (show 87 < 116 from by decide)).trans (hdep 24 (by kernel_rfl))
        exact wpOp_val rfl rfl (v := .bool true) (w' := W) (by simp [execOp, go_sem, E83, E87]) ⟨hIW, fun _ h => h, Or.inl ⟨_, by decide, rfl, updF_same _ _ _⟩⟩
      | 26, _, hdep =>
        have E88 : a1.tmps[88]?.getD undef = .bool true := by rw [← ha1]; exact (putsL_in2 _ _ _ _ (by decide) (show 88 < 116 from by decide)).trans (hdep 25 (by kernel_rfl))
        exact wpOp_val rfl rfl (v := .bool true) (w' := W) (by simp [execOp, go_sem, E88]) ⟨hIW, fun _ h => h, Or.inl ⟨_, by decide, rfl, updF_same _ _ _⟩⟩
      | 27, _, hdep =>
        have G26 : a1.tmps[89]? = some (.bool true) := by rw [← ha1]; exact (putsL_some _ _ _ _ (by decide) (show 89 < 116 from by decide)).trans (congrArg some (hdep 26 (by kernel_rfl)))
        have E13 : a1.tmps[13]?.getD undef = .int .i64 g := by rw [← ha1]; exact (putsL_out2 _ _ _ _ (by decide)).trans rfl
        exact wpOp_valG rfl rfl (yielded_of rfl G26) (v := .int .i64 g) (w' := W) (by simp [execOp, go_sem, E13]) ⟨hIW, fun _ h => h, Or.inl ⟨_, by decide, rfl, updF_same _ _ _⟩⟩
      | 28, _, hdep =>
        have G26 : a1.tmps[89]? = some (.bool true) := by rw [← ha1]; exact (putsL_some _ _ _ _ (by decide) (show 89 < 116 from by decide)).trans (congrArg some (hdep 26 (by kernel_rfl)))
        have E9 : a1.tmps[9]?.getD undef = .int .i64 k := by rw [← ha1]; exact (putsL_out2 _ _ _ _ (by decide)).trans rfl
        exact wpOp_valG rfl rfl (yielded_of rfl G26) (v := .int .i64 k) (w' := W) (by simp [execOp, go_sem, E9]) ⟨hIW, fun _ h => h, Or.inl ⟨_, by decide, rfl, updF_same _ _ _⟩⟩
      | 29, _, hdep =>
        have G26 : a1.tmps[89]? = some (.bool true) := by rw [← ha1]; exact (putsL_some _ _ _ _ (by decide) (show 89 < 116 from by decide)).trans (congrArg some (hdep 26 (by kernel_rfl)))
        have E90 : a1.tmps[90]?.getD undef = .int .i64 g := by rw [← ha1]; exact (putsL_in2 _ _ _ _ (by decide) (show 90 < 116 from by decide)).trans (hdep 27 (by kernel_rfl))
        have E91 : a1.tmps[91]?.getD undef = .int .i64 k := by rw [← ha1]; exact (putsL_in2 _ _ _ _ (by decide) (show 91 < 116 from by decide)).trans (hdep 28 (by kernel_rfl))
        exact wpOp_valG rfl rfl (yielded_of rfl G26) (v := .int .i64 (n * num / den)) (w' := W) (by simp [execOp, go_sem, E90, E91, hw92]) ⟨hIW, fun _ h => h, Or.inl ⟨_, by decide, rfl, updF_same _ _ _⟩⟩
      | 30, _, hdep =>
        have G26 : a1.tmps[89]? = some (.bool true) := by rw [← ha1]; exact (putsL_some _ _ _ _ (by decide) (show 89 < 116 from by decide)).trans (congrArg some (hdep 26 (by kernel_rfl)))
        have E7 : a1.tmps[7]?.getD undef = .int .i64 n := by rw [← ha1]; exact (putsL_out2 _ _ _ _ (by decide)).trans rfl
        exact wpOp_valG rfl rfl (yielded_of rfl G26) (v := .int .i64 n) (w' := W) (by simp [execOp, go_sem, E7]) ⟨hIW, fun _ h => h, Or.inl ⟨_, by decide, rfl, updF_same _ _ _⟩⟩
      | 31, _, hdep =>
        have G26 : a1.tmps[89]? = some (.bool true) := by rw [← ha1]; exact (putsL_some _ _ _ _ (by decide) (show 89 < 116 from by decide)).trans (congrArg some (hdep 26 (by kernel_rfl)))
        have E5 : a1.tmps[5]?.getD undef = .pointer (some ⟨bW, 0, none⟩) := by rw [← ha1]; exact (putsL_out2 _ _ _ _ (by decide)).trans rfl
        exact wpOp_valG rfl rfl (yielded_of rfl G26) (v := .pointer (some ⟨bW, 2, none⟩)) (w' := W) (by simp [execOp, go_sem, E5]) ⟨hIW, fun _ h => h, Or.inl ⟨_, by decide, rfl, updF_same _ _ _⟩⟩
      | 32, _, hdep =>
        have G26 : a1.tmps[89]? = some (.bool true) := by rw [← ha1]; exact (putsL_some _ _ _ _ (by decide) (show 89 < 116 from by decide)).trans (congrArg some (hdep 26 (by kernel_rfl)))
        have E94 : a1.tmps[94]?.getD undef = .pointer (some ⟨bW, 2, none⟩) := by rw [← ha1]; exact (putsL_in2 _ _ _ _ (by decide) (show 94 < 116 from by decide)).trans (hdep 31 (by kernel_rfl))
        have v2 : W.cell? ⟨bW, 2, none⟩ = some (.int .i64 num) := by simpa using HCW.out W hIW 2
        exact wpOp_valG rfl rfl (yielded_of rfl G26) (v := .int .i64 num) (w' := W) (by simp [execOp, go_sem, E94, v2]) ⟨hIW, fun _ h => h, Or.inl ⟨_, by decide, rfl, updF_same _ _ _⟩⟩
      | 33, _, hdep =>
        have G26 : a1.tmps[89]? = some (.bool true) := by rw [← ha1]; exact (putsL_some _ _ _ _ (by decide) (show 89 < 116 from by decide)).trans (congrArg some (hdep 26 (by kernel_rfl)))
        have E93 : a1.tmps[93]?.getD undef = .int .i64 n := by rw [← ha1]; exact (putsL_in2 _ _ _ _ (by decide) (show 93 < 116 from by decide)).trans (hdep 30 (by kernel_rfl))
        have E95 : a1.tmps[95]?.getD undef = .int .i64 num := by rw [← ha1]; exact (putsL_in2 _ _ _ _ (by decide) (show 95 < 116 from by decide)).trans (hdep 32 (by kernel_rfl))
        exact wpOp_valG rfl rfl (yielded_of rfl G26) (v := .int .i64 (n * num)) (w' := W) (by simp [execOp, go_sem, E93, E95, hw96]) ⟨hIW, fun _ h => h, Or.inl ⟨_, by decide, rfl, updF_same _ _ _⟩⟩
      | 34, _, hdep =>
        have G26 : a1.tmps[89]? = some (.bool true) := by rw [← ha1]; exact (putsL_some _ _ _ _ (by decide) (show 89 < 116 from by decide)).trans (congrArg some (hdep 26 (by kernel_rfl)))
        have E5 : a1.tmps[5]?.getD undef = .pointer (some ⟨bW, 0, none⟩) := by rw [← ha1]; exact (putsL_out2 _ _ _ _ (by decide)).trans rfl
        exact wpOp_valG rfl rfl (yielded_of rfl G26) (v := .pointer (some ⟨bW, 3, none⟩)) (w' := W) (by simp [execOp, go_sem, E5]) ⟨hIW, fun _ h => h, Or.inl ⟨_, by decide, rfl, updF_same _ _ _⟩⟩
      | 35, _, hdep =>
        have G26 : a1.tmps[89]? = some (.bool true) := by rw [← ha1]; exact (putsL_some _ _ _ _ (by decide) (show 89 < 116 from by decide)).trans (congrArg some (hdep 26 (by kernel_rfl)))
        have E97 : a1.tmps[97]?.getD undef = .pointer (some ⟨bW, 3, none⟩) := by rw [← ha1]; exact (putsL_in2 _ _ _ _ (by decide) (show 97 < 116 from by decide)).trans (hdep 34 (by kernel_rfl))
        have v3 : W.cell? ⟨bW, 3, none⟩ = some (.int .i64 den) := by simpa using HCW.out W hIW 3
        exact wpOp_valG rfl rfl (yielded_of rfl G26) (v := .int .i64 den) (w' := W) (by simp [execOp, go_sem, E97, v3]) ⟨hIW, fun _ h => h, Or.inl ⟨_, by decide, rfl, updF_same _ _ _⟩⟩
      | 36, _, hdep =>
        have G26 : a1.tmps[89]? = some (.bool true) := by rw [← ha1]; exact (putsL_some _ _ _ _ (by decide) (show 89 < 116 from by decide)).trans (congrArg some (hdep 26 (by kernel_rfl)))
        have E96 : a1.tmps[96]?.getD undef = .int .i64 (n * num) := by rw [← ha1]; exact (putsL_in2 _ _ _ _ (by decide) (show 96 < 116 from by decide)).trans (hdep 33 (by kernel_rfl))
        have E98 : a1.tmps[98]?.getD undef = .int .i64 den := by rw [← ha1]; exact (putsL_in2 _ _ _ _ (by decide) (show 98 < 116 from by decide)).trans (hdep 35 (by kernel_rfl))
        exact wpOp_valG rfl rfl (yielded_of rfl G26) (v := .int .i64 (n * num / den)) (w' := W) (by simp [execOp, go_sem, E96, E98, hw99b, hden0]) ⟨hIW, fun _ h => h, Or.inl ⟨_, by decide, rfl, updF_same _ _ _⟩⟩
      | 37, _, hdep =>
        have G26 : a1.tmps[89]? = some (.bool true) := by rw [← ha1]; exact (putsL_some _ _ _ _ (by decide) (show 89 < 116 from by decide)).trans (congrArg some (hdep 26 (by kernel_rfl)))
        have E92 : a1.tmps[92]?.getD undef = .int .i64 (n * num / den) := by rw [← ha1]; exact (putsL_in2 _ _ _ _ (by decide) (show 92 < 116 from by decide)).trans (hdep 29 (by kernel_rfl))
        have E99 : a1.tmps[99]?.getD undef = .int .i64 (n * num / den) := by rw [← ha1]; exact (putsL_in2 _ _ _ _ (by decide) (show 99 < 116 from by decide)).trans (hdep 36 (by kernel_rfl))
        exact wpOp_valG rfl rfl (yielded_of rfl G26) (v := .bool true) (w' := W) (by simp [execOp, go_sem, E92, E99]) ⟨hIW, fun _ h => h, Or.inl ⟨_, by decide, rfl, updF_same _ _ _⟩⟩
      | 38, _, hdep =>
        have E89 : a1.tmps[89]?.getD undef = .bool true := by rw [← ha1]; exact (putsL_in2 _ _ _ _ (by decide) (show 89 < 116 from by decide)).trans (hdep 26 (by kernel_rfl))
        have E100 : a1.tmps[100]?.getD undef = .bool true := by rw [← ha1]; exact (putsL_in2 _ _ _ _ (by decide) (show 100 < 116 from by decide)).trans (hdep 37 (by kernel_rfl))
        exact wpOp_val rfl rfl (v := .bool true) (w' := W) (by simp [execOp, go_sem, E89, E100]) ⟨hIW, fun _ h => h, Or.inl ⟨_, by decide, rfl, updF_same _ _ _⟩⟩
      | 39, _, hdep =>
        have E101 : a1.tmps[101]?.getD undef = .bool true := by rw [← ha1]; exact (putsL_in2 _ _ _ _ (by decide) (show 101 < 116 from by decide)).trans (hdep 38 (by kernel_rfl))
        exact wpOp_val rfl rfl (v := .bool true) (w' := W) (by simp [execOp, go_sem, E101]) ⟨hIW, fun _ h => h, Or.inl ⟨_, by decide, rfl, updF_same _ _ _⟩⟩
      | 40, _, hdep =>
        have G39 : a1.tmps[102]? = some (.bool true) := by rw [← ha1]; exact (putsL_some _ _ _ _ (by decide) (show 102 < 116 from by decide)).trans (congrArg some (hdep 39 (by kernel_rfl)))
        have E8 : a1.tmps[8]?.getD undef = .pointer (some ⟨bX, 0, none⟩) := by rw [← ha1]; exact (putsL_out2 _ _ _ _ (by decide)).trans rfl
        have v0 : W.cell? ⟨bX, 0, none⟩ = some (.slice p0 p1 p2) := by simpa using HCX.out W hIW 0
        have v1 : W.cell? ⟨bX, 1, none⟩ = some (.slice p3 p4 p5) := by simpa using HCX.out W hIW 1
        have v2 : W.cell? ⟨bX, 2, none⟩ = some (.slice p6 p7 p8) := by simpa using HCX.out W hIW 2
        exact wpOp_valG rfl rfl (yielded_of rfl G39) (v := .agg #[.slice p0 p1 p2, .slice p3 p4 p5, .slice p6 p7 p8]) (w' := W) (by simp [execOp, go_sem, E8, v0, v1, v2]) ⟨hIW, fun _ h => h, Or.inl ⟨_, by decide, rfl, updF_same _ _ _⟩⟩
      | 41, _, hdep =>
        have G39 : a1.tmps[102]? = some (.bool true) := by rw [← ha1]; exact (putsL_some _ _ _ _ (by decide) (show 102 < 116 from by decide)).trans (congrArg some (hdep 39 (by kernel_rfl)))
        have E103 : a1.tmps[103]?.getD undef = .agg #[.slice p0 p1 p2, .slice p3 p4 p5, .slice p6 p7 p8] := by rw [← ha1]; exact (putsL_in2 _ _ _ _ (by decide) (show 103 < 116 from by decide)).trans (hdep 40 (by kernel_rfl))
        refine wpOp_callG rfl rfl (yielded_of rfl G39) (n := 31) (vs := #[.agg #[.slice p0 p1 p2, .slice p3 p4 p5, .slice p6 p7 p8]]) (by have := egD #[.agg #[.slice p0 p1 p2, .slice p3 p4 p5, .slice p6 p7 p8]] W; simp [execOp, E103, resolve, invoke, go_sem] <;> exact this) ((HDX.out W hIW).mono fun e w' h => (⟨_, h.1, rfl, h.2⟩ : ∃ v, e = .returned v ∧ (v = .int .i64 (da - n + g) ∧ J w'))) ?_
        rintro v w' ⟨rfl, hI'⟩
        exact ⟨hI', fun _ h => h, Or.inl ⟨_, by decide, rfl, updF_same _ _ _⟩⟩
      | 42, _, hdep =>
        have G39 : a1.tmps[102]? = some (.bool true) := by rw [← ha1]; exact (putsL_some _ _ _ _ (by decide) (show 102 < 116 from by decide)).trans (congrArg some (hdep 39 (by kernel_rfl)))
        have E4 : a1.tmps[4]?.getD undef = .pointer (some ⟨bR, 0, none⟩) := by rw [← ha1]; exact (putsL_out2 _ _ _ _ (by decide)).trans rfl
        have v0 : W.cell? ⟨bR, 0, none⟩ = some (.slice a0 n0 c0) := by simpa using HCR.out W hIW 0
        have v1 : W.cell? ⟨bR, 1, none⟩ = some (.slice b0 m0 d0) := by simpa using HCR.out W hIW 1
        have v2 : W.cell? ⟨bR, 2, none⟩ = some (.slice e0 k0 f0) := by simpa using HCR.out W hIW 2
        exact wpOp_valG rfl rfl (yielded_of rfl G39) (v := .agg #[.slice a0 n0 c0, .slice b0 m0 d0, .slice e0 k0 f0]) (w' := W) (by simp [execOp, go_sem, E4, v0, v1, v2]) ⟨hIW, fun _ h => h, Or.inl ⟨_, by decide, rfl, updF_same _ _ _⟩⟩
      | 43, _, hdep =>
        have G39 : a1.tmps[102]? = some (.bool true) := by rw [← ha1]; exact (putsL_some _ _ _ _ (by decide) (show 102 < 116 from by decide)).trans (congrArg some (hdep 39 (by kernel_rfl)))
        have E105 : a1.tmps[105]?.getD undef = .agg #[.slice a0 n0 c0, .slice b0 m0 d0, .slice e0 k0 f0] := by rw [← ha1]; exact (putsL_in2 _ _ _ _ (by decide) (show 105 < 116 from by decide)).trans (hdep 42 (by kernel_rfl))
        refine wpOp_callG rfl rfl (yielded_of rfl G39) (n := 31) (vs := #[.agg #[.slice a0 n0 c0, .slice b0 m0 d0, .slice e0 k0 f0]]) (by have := egD #[.agg #[.slice a0 n0 c0, .slice b0 m0 d0, .slice e0 k0 f0]] W; simp [execOp, E105, resolve, invoke, go_sem] <;> exact this) ((HDR.out W hIW).mono fun e w' h => (⟨_, h.1, rfl, h.2⟩ : ∃ v, e = .returned v ∧ (v = .int .i64 da ∧ J w'))) ?_
        rintro v w' ⟨rfl, hI'⟩
        exact ⟨hI', fun _ h => h, Or.inl ⟨_, by decide, rfl, updF_same _ _ _⟩⟩
      | 44, _, hdep =>
        have G39 : a1.tmps[102]? = some (.bool true) := by rw [← ha1]; exact (putsL_some _ _ _ _ (by decide) (show 102 < 116 from by decide)).trans (congrArg some (hdep 39 (by kernel_rfl)))
        have E7 : a1.tmps[7]?.getD undef = .int .i64 n := by rw [← ha1]; exact (putsL_out2 _ _ _ _ (by decide)).trans rfl
        exact wpOp_valG rfl rfl (yielded_of rfl G39) (v := .int .i64 n) (w' := W) (by simp [execOp, go_sem, E7]) ⟨hIW, fun _ h => h, Or.inl ⟨_, by decide, rfl, updF_same _ _ _⟩⟩
      | 45, _, hdep =>
        have G39 : a1.tmps[102]? = some (.bool true) := by rw [← ha1]; exact (putsL_some _ _ _ _ (by decide) (show 102 < 116 from by decide)).trans (congrArg some (hdep 39 (by kernel_rfl)))
        have E106 : a1.tmps[106]?.getD undef = .int .i64 da := by rw [← ha1]; exact (putsL_in2 _ _ _ _ (by decide) (show 106 < 116 from by decide)).trans (hdep 43 (by kernel_rfl))
        have E107 : a1.tmps[107]?.getD undef = .int .i64 n := by rw [← ha1]; exact (putsL_in2 _ _ _ _ (by decide) (show 107 < 116 from by decide)).trans (hdep 44 (by kernel_rfl))
        exact wpOp_valG rfl rfl (yielded_of rfl G39) (v := .int .i64 (da - n)) (w' := W) (by simp [execOp, go_sem, E106, E107, hw108]) ⟨hIW, fun _ h => h, Or.inl ⟨_, by decide, rfl, updF_same _ _ _⟩⟩
      | 46, _, hdep =>
        have G39 : a1.tmps[102]? = some (.bool true) := by rw [← ha1]; exact (putsL_some _ _ _ _ (by decide) (show 102 < 116 from by decide)).trans (congrArg some (hdep 39 (by kernel_rfl)))
        have E13 : a1.tmps[13]?.getD undef = .int .i64 g := by rw [← ha1]; exact (putsL_out2 _ _ _ _ (by decide)).trans rfl
        exact wpOp_valG rfl rfl (yielded_of rfl G39) (v := .int .i64 g) (w' := W) (by simp [execOp, go_sem, E13]) ⟨hIW, fun _ h => h, Or.inl ⟨_, by decide, rfl, updF_same _ _ _⟩⟩
      | 47, _, hdep =>
        have G39 : a1.tmps[102]? = some (.bool true) := by rw [← ha1]; exact (putsL_some _ _ _ _ (by decide) (show 102 < 116 from by decide)).trans (congrArg some (hdep 39 (by kernel_rfl)))
        have E108 : a1.tmps[108]?.getD undef = .int .i64 (da - n) := by rw [← ha1]; exact (putsL_in2 _ _ _ _ (by decide) (show 108 < 116 from by decide)).trans (hdep 45 (by kernel_rfl))
        have E109 : a1.tmps[109]?.getD undef = .int .i64 g := by rw [← ha1]; exact (putsL_in2 _ _ _ _ (by decide) (show 109 < 116 from by decide)).trans (hdep 46 (by kernel_rfl))
        exact wpOp_valG rfl rfl (yielded_of rfl G39) (v := .int .i64 (da - n + g)) (w' := W) (by simp [execOp, go_sem, E108, E109, hw110]) ⟨hIW, fun _ h => h, Or.inl ⟨_, by decide, rfl, updF_same _ _ _⟩⟩
      | 48, _, hdep =>
        have G39 : a1.tmps[102]? = some (.bool true) := by rw [← ha1]; exact (putsL_some _ _ _ _ (by decide) (show 102 < 116 from by decide)).trans (congrArg some (hdep 39 (by kernel_rfl)))
        have E104 : a1.tmps[104]?.getD undef = .int .i64 (da - n + g) := by rw [← ha1]; exact (putsL_in2 _ _ _ _ (by decide) (show 104 < 116 from by decide)).trans (hdep 41 (by kernel_rfl))
        have E110 : a1.tmps[110]?.getD undef = .int .i64 (da - n + g) := by rw [← ha1]; exact (putsL_in2 _ _ _ _ (by decide) (show 110 < 116 from by decide)).trans (hdep 47 (by kernel_rfl))
        exact wpOp_valG rfl rfl (yielded_of rfl G39) (v := .bool true) (w' := W) (by simp [execOp, go_sem, E104, E110]) ⟨hIW, fun _ h => h, Or.inl ⟨_, by decide, rfl, updF_same _ _ _⟩⟩
      | 49, _, hdep =>
        have E102 : a1.tmps[102]?.getD undef = .bool true := by rw [← ha1]; exact (putsL_in2 _ _ _ _ (by decide) (show 102 < 116 from by decide)).trans (hdep 39 (by kernel_rfl))
        have E111 : a1.tmps[111]?.getD undef = .bool true := by rw [← ha1]; exact (putsL_in2 _ _ _ _ (by decide) (show 111 < 116 from by decide)).trans (hdep 48 (by kernel_rfl))
        exact wpOp_val rfl rfl (v := .bool true) (w' := W) (by simp [execOp, go_sem, E102, E111]) ⟨hIW, fun _ h => h, Or.inl ⟨_, by decide, rfl, updF_same _ _ _⟩⟩
      | 50, _, hdep =>
        have E112 : a1.tmps[112]?.getD undef = .bool true := by rw [← ha1]; exact (putsL_in2 _ _ _ _ (by decide) (show 112 < 116 from by decide)).trans (hdep 49 (by kernel_rfl))
        exact wpOp_val rfl rfl (v := .bool true) (w' := W) (by simp [execOp, go_sem, E112]) ⟨hIW, fun _ h => h, Or.inl ⟨_, by decide, rfl, updF_same _ _ _⟩⟩
      | 51, _, hdep =>
        have G50 : a1.tmps[113]? = some (.bool true) := by rw [← ha1]; exact (putsL_some _ _ _ _ (by decide) (show 113 < 116 from by decide)).trans (congrArg some (hdep 50 (by kernel_rfl)))
        refine wpOp_callG rfl rfl (yielded_of rfl G50) (n := 52) (vs := #[]) (by have := egS #[] W; simp [execOp, go_sem, resolve, invoke, go_sem] <;> exact this) ((HSA.out W hIW).mono fun e w' h => (⟨_, h.1, rfl, h.2⟩ : ∃ v, e = .returned v ∧ (v = .bool true ∧ J w'))) ?_
        rintro v w' ⟨rfl, hI'⟩
        exact ⟨hI', fun _ h => h, Or.inl ⟨_, by decide, rfl, updF_same _ _ _⟩⟩
      | 52, _, hdep =>
        have E113 : a1.tmps[113]?.getD undef = .bool true := by rw [← ha1]; exact (putsL_in2 _ _ _ _ (by decide) (show 113 < 116 from by decide)).trans (hdep 50 (by kernel_rfl))
        have E114 : a1.tmps[114]?.getD undef = .bool true := by rw [← ha1]; exact (putsL_in2 _ _ _ _ (by decide) (show 114 < 116 from by decide)).trans (hdep 51 (by kernel_rfl))
        exact wpOp_val rfl rfl (v := .bool true) (w' := W) (by simp [execOp, go_sem, E113, E114]) ⟨hIW, fun _ h => h, Or.inl ⟨_, by decide, rfl, updF_same _ _ _⟩⟩
      | 53, _, hdep =>
        have E115 : a1.tmps[115]?.getD undef = .bool true := by rw [← ha1]; exact (putsL_in2 _ _ _ _ (by decide) (show 115 < 116 from by decide)).trans (hdep 52 (by kernel_rfl))
        exact wpOp_val rfl rfl (v := .bool true) (w' := W) (by simp [execOp, go_sem, E115]) ⟨hIW, fun _ h => h, Or.inl ⟨_, by decide, rfl, updF_same _ _ _⟩⟩
      | iq + 54, h, _ => exact absurd h (by omega)
    case refine_2 =>
      intro f W hIW hR
      have h2 : f 2 = .bool true := hR 53 (show 53 < 54 from by decide)
      simp only [putsL, List.foldl_cons, List.foldl_nil, Act.put, List.setIfInBounds_toArray, List.set_cons_zero, List.set_cons_succ]
      have HE := Lib.hid (HJO.out W hIW)
      go_wp2
      refine bodyPost_ret (v := .bool true) (by simp [results, Try.results10, go_sem, h2]) rfl ⟨rfl, HFIN.out _ (HSI.out HE.out)⟩


end Go.Proofs.Ytnfllgeneehjjaa
