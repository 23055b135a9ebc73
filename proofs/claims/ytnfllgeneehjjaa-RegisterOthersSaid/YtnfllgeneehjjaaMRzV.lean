/- A transfer moves just its amount, and a transfer back leads to the same holdings: for every tape. -/
import Derived.Test.YtnfllgeneehjjaaMRzS
import Derived.Test.YtnfllgeneehjjaaMRegInv
set_option linter.unusedSimpArgs false
set_option linter.unusedVariables false
set_option linter.unusedSimpArgs false
set_option linter.unusedVariables false
namespace Go.Proofs.Ytnfllgeneehjjaa
open Go.RowKit Go.Lib Go.Proofs

theorem faultM_is {secs : List Sec} {l : List Hld} {bd : Int} {m : Mv} : faultM secs l bd m ≠ 78 ∧ faultM secs l bd m ≠ 3 := by
  unfold faultM
  split
  · decide
  · unfold faultS
    generalize (if m.kind = 3 then (36000 : Int) else _) = q
    split
    · decide
    · split
      · decide
      · split
        · decide
        · split
          · decide
          · split <;> decide
/-- What a transfer does, and the transfer back. -/
structure MovesM (r r2 : Reg) (day id a b n : Int) : Prop where
  ok : RegOk r2
  back : addE r2 ⟨0, day, 2, id, b, a, n⟩ = 0
  same : (addV r2 ⟨0, day, 2, id, b, a, n⟩).hs = r.hs
  ha : heldM r2.hs id a = heldM r.hs id a - n
  hb : heldM r2.hs id b = heldM r.hs id b + n
  debt : debtM r2.hs = debtM r.hs
  amt : 1 ≤ n ∧ n ≤ 1000000000000
theorem moves_of {r : Reg} (h : RegOk r) {day id a b n : Int} (hl : r.ms.length < 100) (he : addE r ⟨0, day, 2, id, a, b, n⟩ = 0) : MovesM r (addV r ⟨0, day, 2, id, a, b, n⟩) day id a b n := by
  have hv : addV r ⟨0, day, 2, id, a, b, n⟩ = addM r (numM r ⟨0, day, 2, id, a, b, n⟩) := by unfold addV; rw [if_pos he]
  have hok := add_ok h he
  have hf := addE_ok h ⟨0, day, 2, id, a, b, n⟩
  rw [he, if_neg (by omega)] at hf
  obtain ⟨s, hm⟩ := fault_zero (fun s hs => (h.secs.bound s hs).2.2) hf.symm
  have hne := hm.ne rfl
  simp only [numM] at hne
  rw [hv]
  have hl2 : (addM r (numM r ⟨0, day, 2, id, a, b, n⟩)).ms.length = r.ms.length + 1 := by simp [addM]
  have hnm : numM (addM r (numM r ⟨0, day, 2, id, a, b, n⟩)) ⟨0, day, 2, id, b, a, n⟩ = swapM (numM r ⟨0, day, 2, id, a, b, n⟩) ((r.ms.length : Int) + 2) := by
    unfold numM swapM
    rw [show ((addM r ⟨(r.ms.length : Int) + 1, day, 2, id, a, b, n⟩).ms.length : Int) = (r.ms.length : Int) + 1 from by simp [addM]]
    simp only [Mv.mk.injEq, and_true, true_and]
    omega
  have hb2 : addE (addM r (numM r ⟨0, day, 2, id, a, b, n⟩)) ⟨0, day, 2, id, b, a, n⟩ = 0 := by
    rw [addE_ok hok, if_neg (by rw [hl2]; omega), hnm]
    have h1 := back_fault (n := (r.ms.length : Int) + 2) h (m := numM r ⟨0, day, 2, id, a, b, n⟩) rfl hf.symm
    have e : lastM Mv.zero (addM r (numM r ⟨0, day, 2, id, a, b, n⟩)).ms = numM r ⟨0, day, 2, id, a, b, n⟩ := by unfold addM; exact lastM_snoc _ _ _
    rw [e]
    exact h1
  refine ⟨hok, hb2, ?_, ?_, ?_, ?_, hm.amt⟩
  · unfold addV
    rw [if_pos hb2, hnm]
    exact back_same (n := (r.ms.length : Int) + 2) h (m := numM r ⟨0, day, 2, id, a, b, n⟩) rfl (by omega) rfl rfl hf.symm
  · rw [show (addM r (numM r ⟨0, day, 2, id, a, b, n⟩)).hs = carryM r.hs (numM r ⟨0, day, 2, id, a, b, n⟩) from rfl, heldM_carry]
    unfold effM numM
    simp [Ne.symm hne]
    omega
  · rw [show (addM r (numM r ⟨0, day, 2, id, a, b, n⟩)).hs = carryM r.hs (numM r ⟨0, day, 2, id, a, b, n⟩) from rfl, heldM_carry]
    unfold effM numM
    simp [hne]
  · rw [show (addM r (numM r ⟨0, day, 2, id, a, b, n⟩)).hs = carryM r.hs (numM r ⟨0, day, 2, id, a, b, n⟩) from rfl, debtM_carry]
    unfold issM numM
    simp

set_option maxRecDepth 100000 in
set_option maxHeartbeats 16000000 in
theorem rhmoves_any (v : Value) (n : Nat) (w : World) (hi : IntsAt w v n w.heap.size) (hn : n ≤ 9223372036854775807) :
    Calls Try.prog 4 #[v] w fun e w' => e = .returned (.bool true) ∧ Below w.heap.size w w' := by
  have HNEW := Lib.hid (sNew_any v n w hi hn)
  have HSN := Lib.hid sane33_true
  clear hi hn
  go_enter Try.func4, Try.ntmps4
  go_wp2_with fail
  refine (HNEW.out).mono ?_
  rintro e w1 ⟨rfl, t1, b1⟩
  obtain ⟨tb, htb⟩ : ∃ tb, tb = w.heap.size := ⟨_, rfl⟩
  rw [← htb] at t1 ⊢
  have HRG := Lib.hid (sRegister_any tb 8 w1 t1 (by omega))
  have HFIN : Hid (∀ W, SI w1 tb W → Below w.heap.size w W) := Lib.hid fun W hW => b1.grown hW.old b1.size (fun q e => by injection e with e; omega)
  clear t1 b1 HNEW htb
  go_wp2_with fail
  with_reducible refine Calls.mono HRG.out ?_
  rintro e w2 ⟨x, y, z, r, d, rfl, hG, hs0, hs1, hml, hd, hra, hsi⟩
  obtain ⟨a0, n0, c0, b0, m0, d0, e0, k0, f0, rfl, rfl, rfl⟩ := hra.slices
  obtain ⟨bR, hbR⟩ : ∃ b, b = w2.heap.size := ⟨_, rfl⟩
  obtain ⟨w3, hw3⟩ : ∃ W, W = w2.alloc (.cells #[.slice a0 n0 c0, .slice b0 m0 d0, .slice e0 k0 f0] 29) := ⟨_, rfl⟩
  have HI3 : Hid (RgI w1 tb bR (.slice a0 n0 c0) (.slice b0 m0 d0) (.slice e0 k0 f0) r w3) := Lib.hid (by
    rw [hw3, hbR]
    have hlt := hsi.lt
    have hsz := hsi.old.size
    exact ⟨hsi.alloc _, heap_alloc_new _ _, hra.below (below_alloc _ _), by omega, hsz⟩)
  have HG := Lib.hid hG
  have HML : Hid (r.ms.length < 100) := Lib.hid (by omega)
  clear hG hra hsi hml HRG
  go_upto_region 3 with fail
  rw [← hw3, ← hbR]
  clear hw3 hbR
  go_wp2_with fail
  with_reducible refine Calls.mono (range_in HI3.out.si 1 3 (by omega) (by omega) (by omega)) ?_
  rintro e w4 ⟨id, rfl, i0, i1, hi4, hg4⟩
  have HI4 := Lib.hid (HI3.out.turn hi4.src hg4)
  clear hi4 hg4 HI3
  go_wp2_with fail
  with_reducible refine Calls.mono (range_in HI4.out.si 1 4 (by omega) (by omega) (by omega)) ?_
  rintro e w5 ⟨a, rfl, i2, i3, hi5, hg5⟩
  have HI5 := Lib.hid (HI4.out.turn hi5.src hg5)
  clear hi5 hg5 HI4
  go_wp2_with fail
  with_reducible refine Calls.mono (range_in HI5.out.si 1 4 (by omega) (by omega) (by omega)) ?_
  rintro e w6 ⟨b, rfl, i4, i5, hi6, hg6⟩
  have HI6 := Lib.hid (HI5.out.turn hi6.src hg6)
  clear hi6 hg6 HI5
  go_wp2_with fail
  with_reducible refine Calls.mono (pick_in _ [100, 300, 1000] _ _ rfl HI6.out.si (by simp) (by simp) _ rfl _ (by simp)) ?_
  rintro e w7 ⟨n, rfl, hn, hi7, hg7⟩
  have HI7 := Lib.hid ((HI6.out.below (below_alloc _ _)).turn hi7.src hg7)
  clear hi7 hg7 HI6 hn i0 i1 i2 i3 i4 i5
  have hA := HI7.out.box
  have r0 := obj_cell hA 0
  have r1 := obj_cell hA 1
  have r2' := obj_cell hA 2
  simp at r0 r1 r2'
  clear hA
  go_wp2_with fail
  with_reducible refine Calls.mono (rxTransfer_any r _ _ _ d id a b n _ HG.out.ok.regS HI7.out.reg) ?_
  rintro e w8 ⟨x', y', z', rfl, hr8, hb8⟩
  obtain ⟨p0, q0, u0, p1, q1, u1, p2, q2, u2, rfl, rfl, rfl⟩ := hr8.slices
  have HI8 := Lib.hid (HI7.out.below hb8)
  have HR8 := Lib.hid hr8
  have HMM := Lib.hid (fun he => moves_of (day := d) (id := id) (a := a) (b := b) (n := n) HG.out.ok HML.out he)
  have HEE : Hid (addE r ⟨0, d, 2, id, a, b, n⟩ ≠ 78 ∧ addE r ⟨0, d, 2, id, a, b, n⟩ ≠ 3) := Lib.hid (by
    rw [addE_ok HG.out.ok, if_neg (by have := HML.out; omega)]; exact faultM_is)
  obtain ⟨er, her⟩ : ∃ er, er = addE r ⟨0, d, 2, id, a, b, n⟩ := ⟨_, rfl⟩
  obtain ⟨r2, hr2⟩ : ∃ r2, r2 = addV r ⟨0, d, 2, id, a, b, n⟩ := ⟨_, rfl⟩
  rw [← her] at HMM HEE ⊢
  rw [← hr2] at HMM HR8
  clear hr8 hb8 her hr2 r0 r1 r2' HI7
  by_cases he : er = 0
  case neg =>
    have hen : (er != 0) = true := by simpa using he
    have hen1 : (er != 78) = true := by simpa using HEE.out.1
    have hen2 : (er != 3) = true := by simpa using HEE.out.2
    have HW9 : Hid (SI w1 tb (w8.alloc (.cells #[.slice p0 q0 u0, .slice p1 q1 u1, .slice p2 q2 u2] 29))) := Lib.hid (HI8.out.si.alloc _)
    go_wp2_with fail
    refine (HSN.out _).mono ?_
    rintro e w10 ⟨rfl, hb10⟩
    have HE := Lib.hid (HFIN.out _ (HW9.out.below hb10))
    clear hb10
    go_wp2
    go_ret
    exact ⟨rfl, HE.out⟩
  subst he
  have HM := Lib.hid (HMM.out rfl)
  clear HMM HEE
  obtain ⟨bX, hbX⟩ : ∃ b, b = w8.heap.size := ⟨_, rfl⟩
  obtain ⟨w9, hw9⟩ : ∃ W, W = w8.alloc (.cells #[.slice p0 q0 u0, .slice p1 q1 u1, .slice p2 q2 u2] 29) := ⟨_, rfl⟩
  have HI9 : Hid (RgI w1 tb bR (.slice a0 n0 c0) (.slice b0 m0 d0) (.slice e0 k0 f0) r w9) := Lib.hid (by rw [hw9]; exact HI8.out.below (below_alloc _ _))
  have HR9 : Hid (RegAt w9 (.slice p0 q0 u0) (.slice p1 q1 u1) (.slice p2 q2 u2) r2) := Lib.hid (by rw [hw9]; exact HR8.out.below (below_alloc _ _))
  have HX9 : Hid (w9.heap[bX]? = some (.cells #[.slice p0 q0 u0, .slice p1 q1 u1, .slice p2 q2 u2] 29 (0, 0))) := Lib.hid (by rw [hw9, hbX]; exact heap_alloc_new _ _)
  have hX := HX9.out
  have x0 := obj_cell hX 0
  have x1 := obj_cell hX 1
  have x2 := obj_cell hX 2
  simp at x0 x1 x2
  clear hX HI8 HR8
  go_upto_region 7 with fail
  rw [← hw9, ← hbX]
  clear hw9 hbX
  go_wp2_with fail
  with_reducible refine Calls.mono (rxTransfer_any r2 _ _ _ d id b a n _ HM.out.ok.regS HR9.out) ?_
  rintro e w10 ⟨x', y', z', rfl, hr10, hb10⟩
  rw [HM.out.back]
  obtain ⟨s0, t0, l0, s1, t1, l1, s2, t2, l2, rfl, rfl, rfl⟩ := hr10.slices
  have HI10 := Lib.hid (HI9.out.below hb10)
  have HX10 := Lib.hid (obj_below HX9.out hb10)
  have HR10 := Lib.hid (HR9.out.below hb10)
  have HS10 : Hid (ListAt hldC 3 w10 (.slice s1 t1 l1) r.hs) := Lib.hid (by have := hr10.hs; rwa [HM.out.same] at this)
  clear hr10 hb10 x0 x1 x2 HI9 HX9 HR9
  obtain ⟨bY, hbY⟩ : ∃ b, b = w10.heap.size := ⟨_, rfl⟩
  obtain ⟨w11, hw11⟩ : ∃ W, W = w10.alloc (.cells #[.slice s0 t0 l0, .slice s1 t1 l1, .slice s2 t2 l2] 29) := ⟨_, rfl⟩
  have HI11 : Hid (RgI w1 tb bR (.slice a0 n0 c0) (.slice b0 m0 d0) (.slice e0 k0 f0) r w11) := Lib.hid (by rw [hw11]; exact HI10.out.below (below_alloc _ _))
  have HR11 : Hid (RegAt w11 (.slice p0 q0 u0) (.slice p1 q1 u1) (.slice p2 q2 u2) r2) := Lib.hid (by rw [hw11]; exact HR10.out.below (below_alloc _ _))
  have HX11 : Hid (w11.heap[bX]? = some (.cells #[.slice p0 q0 u0, .slice p1 q1 u1, .slice p2 q2 u2] 29 (0, 0))) := Lib.hid (by rw [hw11]; exact obj_below HX10.out (below_alloc _ _))
  have HY11 : Hid (w11.heap[bY]? = some (.cells #[.slice s0 t0 l0, .slice s1 t1 l1, .slice s2 t2 l2] 29 (0, 0))) := Lib.hid (by rw [hw11, hbY]; exact heap_alloc_new _ _)
  have HS11 : Hid (ListAt hldC 3 w11 (.slice s1 t1 l1) r.hs) := Lib.hid (by rw [hw11]; exact HS10.out.below (below_alloc _ _))
  go_upto_region 8 with fail
  rw [← hw11, ← hbY]
  clear hw11 hbY HI10 HX10 HR10 HS10
  have HSI := Lib.hid HI11.out.si
  obtain ⟨J, hJ⟩ : ∃ J, J = fun W : World => Below w11.heap.size w11 W := ⟨_, rfl⟩
  have HJO : Hid (∀ W, J W → Below w11.heap.size w11 W) := Lib.hid fun W hW => by rw [hJ] at hW; exact hW
  have HJI : Hid (∀ W, Below w11.heap.size w11 W → J W) := Lib.hid fun W hW => by rw [hJ]; exact hW
  have HJD : Hid (∀ W, J W → J W.drew) := Lib.hid fun W hW => HJI.out _ ((HJO.out W hW).drew)
  have HJ0 : Hid (J w11) := Lib.hid (HJI.out _ (Below.refl _ _))
  have HJB : Hid (∀ W W', J W → Below W.heap.size W W' → J W') := Lib.hid fun W W' hW hb => HJI.out _ ((HJO.out W hW).trans (hb.mono (HJO.out W hW).size))
  have HCR : Hid (∀ W, J W → ∀ j, W.cell? ⟨bR, j, none⟩ = #[.slice a0 n0 c0, .slice b0 m0 d0, .slice e0 k0 f0][j]?) := Lib.hid fun W hW j => obj_cell (obj_below HI11.out.box (HJO.out W hW)) j
  have HCX : Hid (∀ W, J W → ∀ j, W.cell? ⟨bX, j, none⟩ = #[.slice p0 q0 u0, .slice p1 q1 u1, .slice p2 q2 u2][j]?) := Lib.hid fun W hW j => obj_cell (obj_below HX11.out (HJO.out W hW)) j
  have HCY : Hid (∀ W, J W → ∀ j, W.cell? ⟨bY, j, none⟩ = #[.slice s0 t0 l0, .slice s1 t1 l1, .slice s2 t2 l2][j]?) := Lib.hid fun W hW j => obj_cell (obj_below HY11.out (HJO.out W hW)) j
  obtain ⟨ha, hha⟩ : ∃ ha, ha = heldM r.hs id a := ⟨_, rfl⟩
  obtain ⟨hb, hhb⟩ : ∃ hb, hb = heldM r.hs id b := ⟨_, rfl⟩
  obtain ⟨db, hdb⟩ : ∃ db, db = debtM r.hs := ⟨_, rfl⟩
  have hba : 0 ≤ ha ∧ ha ≤ 1000000000000000 := by
    have := sumH_bound (p := isAt id a) HG.out.ok.runM.inv.ok.ok; have := HG.out.ok.hsLen; rw [hha]; unfold heldM; omega
  have hbb : 0 ≤ hb ∧ hb ≤ 1000000000000000 := by
    have := sumH_bound (p := isAt id b) HG.out.ok.runM.inv.ok.ok; have := HG.out.ok.hsLen; rw [hhb]; unfold heldM; omega
  have hnb := HM.out.amt
  have hwA : IntKind.i64.wrap (ha - n) = ha - n := IntWalk.i64_in _ (by omega)
  have hwB : IntKind.i64.wrap (hb + n) = hb + n := IntWalk.i64_in _ (by omega)
  have HEQ : Hid (∀ W, J W → Calls Try.prog 21 #[.slice s1 t1 l1, .slice b0 m0 d0] W fun e w' => e = .returned (.bool true) ∧ J w') := Lib.hid fun W hW => by
    have hl := HG.out.ok.hsLen
    refine (eqRyH_any _ _ r.hs r.hs W (HS11.out.below (HJO.out W hW)) (HI11.out.reg.hs.below (HJO.out W hW)) (by omega) (by omega)).mono ?_
    rintro e w' ⟨rfl, hb'⟩
    exact ⟨by rw [decide_eq_true rfl], HJB.out _ _ hW hb'⟩
  have HHR : Hid (∀ who W, J W → Calls Try.prog 22 #[.agg #[.slice a0 n0 c0, .slice b0 m0 d0, .slice e0 k0 f0], .int .i64 id, .int .i64 who] W fun e w' => e = .returned (.int .i64 (heldM r.hs id who)) ∧ J w') := Lib.hid fun who W hW => by
    refine (rxHeld_any r _ _ _ id who W HG.out.ok.regS (HI11.out.reg.below (HJO.out W hW))).mono ?_
    rintro e w' ⟨rfl, hb'⟩
    exact ⟨by unfold heldR; rw [if_pos (checkR_ok HG.out.ok)], HJB.out _ _ hW hb'⟩
  have HHX : Hid (∀ who W, J W → Calls Try.prog 22 #[.agg #[.slice p0 q0 u0, .slice p1 q1 u1, .slice p2 q2 u2], .int .i64 id, .int .i64 who] W fun e w' => e = .returned (.int .i64 (heldM r2.hs id who)) ∧ J w') := Lib.hid fun who W hW => by
    refine (rxHeld_any r2 _ _ _ id who W HM.out.ok.regS (HR11.out.below (HJO.out W hW))).mono ?_
    rintro e w' ⟨rfl, hb'⟩
    exact ⟨by unfold heldR; rw [if_pos (checkR_ok HM.out.ok)], HJB.out _ _ hW hb'⟩
  have HRA := Lib.hid (HHR.out a)
  have HRB := Lib.hid (HHR.out b)
  have HXA := Lib.hid (HHX.out a)
  have HXB := Lib.hid (HHX.out b)
  rw [← hha] at HRA
  rw [← hhb] at HRB
  rw [HM.out.ha, ← hha] at HXA
  rw [HM.out.hb, ← hhb] at HXB
  have HDR : Hid (∀ W, J W → Calls Try.prog 16 #[.agg #[.slice a0 n0 c0, .slice b0 m0 d0, .slice e0 k0 f0]] W fun e w' => e = .returned (.int .i64 db) ∧ J w') := Lib.hid fun W hW => by
    refine (rxDebt_any r _ _ _ W HG.out.ok.regS (HI11.out.reg.below (HJO.out W hW))).mono ?_
    rintro e w' ⟨rfl, hb'⟩
    exact ⟨by unfold debtR; rw [if_pos (checkR_ok HG.out.ok), hdb], HJB.out _ _ hW hb'⟩
  have HDX : Hid (∀ W, J W → Calls Try.prog 16 #[.agg #[.slice p0 q0 u0, .slice p1 q1 u1, .slice p2 q2 u2]] W fun e w' => e = .returned (.int .i64 db) ∧ J w') := Lib.hid fun W hW => by
    refine (rxDebt_any r2 _ _ _ W HM.out.ok.regS (HR11.out.below (HJO.out W hW))).mono ?_
    rintro e w' ⟨rfl, hb'⟩
    exact ⟨by unfold debtR; rw [if_pos (checkR_ok HM.out.ok), HM.out.debt, hdb], HJB.out _ _ hW hb'⟩
  have HSA : Hid (∀ W, J W → Calls Try.prog 17 #[] W fun e w' => e = .returned (.bool true) ∧ J w') := Lib.hid fun W hW => (HSN.out W).mono fun e w' ⟨h1, h2⟩ => ⟨h1, HJB.out _ _ hW h2⟩
  have egO := enters_of Try.func21 (by kernel_rfl) rfl
  have egH := enters_of Try.func22 (by kernel_rfl) rfl
  have egD := enters_of Try.func16 (by kernel_rfl) rfl
  have egS := enters_of Try.func17 (by kernel_rfl) rfl
  have hcA : (ha - n == ha - n) = true := by simp
  have hcB : (hb + n == hb + n) = true := by simp
  clear hJ HHR HHX hha hhb hdb
  refine wp_region_props [61, 62, 63, 64, 65, 66, 67, 68, 69, 70, 71, 72, 73, 74, 75, 76, 77, 78, 79, 80, 81, 82, 83, 84, 85, 86, 87, 88, 89, 90, 91, 92, 93, 94, 95, 96, 97, 98, 99, 100, 101, 102, 103, 104, 105, 2] (slotS [61, 62, 63, 64, 65, 66, 67, 68, 69, 70, 71, 72, 73, 74, 75, 76, 77, 78, 79, 80, 81, 82, 83, 84, 85, 86, 87, 88, 89, 90, 91, 92, 93, 94, 95, 96, 97, 98, 99, 100, 101, 102, 103, 104, 105, 2]) (readsS [61, 62, 63, 64, 65, 66, 67, 68, 69, 70, 71, 72, 73, 74, 75, 76, 77, 78, 79, 80, 81, 82, 83, 84, 85, 86, 87, 88, 89, 90, 91, 92, 93, 94, 95, 96, 97, 98, 99, 100, 101, 102, 103, 104, 105, 2]) (RTs [61, 62, 63, 64, 65, 66, 67, 68, 69, 70, 71, 72, 73, 74, 75, 76, 77, 78, 79, 80, 81, 82, 83, 84, 85, 86, 87, 88, 89, 90, 91, 92, 93, 94, 95, 96, 97, 98, 99, 100, 101, 102, 103, 104, 105, 2] [.int .i64 0, .bool true, .bool true, .pointer (some ⟨bY, 1, none⟩), .slice s1 t1 l1, .pointer (some ⟨bR, 1, none⟩), .slice b0 m0 d0, .bool true, .bool true, .bool true, .agg #[.slice p0 q0 u0, .slice p1 q1 u1, .slice p2 q2 u2], .int .i64 id, .int .i64 a, .int .i64 (ha - n), .agg #[.slice a0 n0 c0, .slice b0 m0 d0, .slice e0 k0 f0], .int .i64 id, .int .i64 a, .int .i64 ha, .int .i64 n, .int .i64 (ha - n), .bool true, .bool true, .bool true, .agg #[.slice p0 q0 u0, .slice p1 q1 u1, .slice p2 q2 u2], .int .i64 id, .int .i64 b, .int .i64 (hb + n), .agg #[.slice a0 n0 c0, .slice b0 m0 d0, .slice e0 k0 f0], .int .i64 id, .int .i64 b, .int .i64 hb, .int .i64 n, .int .i64 (hb + n), .bool true, .bool true, .bool true, .agg #[.slice p0 q0 u0, .slice p1 q1 u1, .slice p2 q2 u2], .int .i64 db, .agg #[.slice a0 n0 c0, .slice b0 m0 d0, .slice e0 k0 f0], .int .i64 db, .bool true, .bool true, .bool true, .bool true, .bool true, .bool true]) J (by kernel_rfl) (by kernel_rfl) (by kernel_rfl) (HJD.out _ HJ0.out) (fun j f q v W hq h => RTs.upd hq h) ?_ ?_
  case refine_1 =>
    intro iq hiq f W hIW hdep
    have hiq' : iq < 46 := hiq
    generalize ha1 : putsL _ [61, 62, 63, 64, 65, 66, 67, 68, 69, 70, 71, 72, 73, 74, 75, 76, 77, 78, 79, 80, 81, 82, 83, 84, 85, 86, 87, 88, 89, 90, 91, 92, 93, 94, 95, 96, 97, 98, 99, 100, 101, 102, 103, 104, 105, 2] f = a1
    match iq, hiq', hdep with
    | 0, _, hdep =>
      have E13 : a1.tmps[13]?.getD undef = .int .i64 0 := by rw [← ha1]; exact (putsL_out2 _ _ _ _ (by decide)).trans rfl
      exact wpOp_val rfl rfl (v := .int .i64 0) (w' := W) (by simp [execOp, go_sem, E13]) ⟨hIW, fun _ h => h, Or.inl ⟨_, by decide, rfl, updF_same _ _ _⟩⟩
    | 1, _, hdep =>
      have E61 : a1.tmps[61]?.getD undef = .int .i64 0 := by rw [← ha1]; exact (putsL_in2 _ _ _ _ (by decide) (show 61 < 106 from by decide)).trans (hdep 0 (by kernel_rfl))
      exact wpOp_val rfl rfl (v := .bool true) (w' := W) (by simp [execOp, go_sem, E61]) ⟨hIW, fun _ h => h, Or.inl ⟨_, by decide, rfl, updF_same _ _ _⟩⟩
    | 2, _, hdep =>
      have E62 : a1.tmps[62]?.getD undef = .bool true := by rw [← ha1]; exact (putsL_in2 _ _ _ _ (by decide) (show 62 < 106 from by decide)).trans (hdep 1 (by kernel_rfl))
      exact wpOp_val rfl rfl (v := .bool true) (w' := W) (by simp [execOp, go_sem, E62]) ⟨hIW, fun _ h => h, Or.inl ⟨_, by decide, rfl, updF_same _ _ _⟩⟩
    | 3, _, hdep =>
      have G2 : a1.tmps[63]? = some (.bool true) := by rw [← ha1]; exact (putsL_some _ _ _ _ (by decide) (show 63 < 106 from by decide)).trans (congrArg some (hdep 2 (by kernel_rfl)))
      have E12 : a1.tmps[12]?.getD undef = .pointer (some ⟨bY, 0, none⟩) := by rw [← ha1]; exact (putsL_out2 _ _ _ _ (by decide)).trans rfl
      exact wpOp_valG rfl rfl (yielded_of rfl G2) (v := .pointer (some ⟨bY, 1, none⟩)) (w' := W) (by simp [execOp, go_sem, E12]) ⟨hIW, fun _ h => h, Or.inl ⟨_, by decide, rfl, updF_same _ _ _⟩⟩
    | 4, _, hdep =>
      have G2 : a1.tmps[63]? = some (.bool true) := by rw [← ha1]; exact (putsL_some _ _ _ _ (by decide) (show 63 < 106 from by decide)).trans (congrArg some (hdep 2 (by kernel_rfl)))
      have E64 : a1.tmps[64]?.getD undef = .pointer (some ⟨bY, 1, none⟩) := by rw [← ha1]; exact (putsL_in2 _ _ _ _ (by decide) (show 64 < 106 from by decide)).trans (hdep 3 (by kernel_rfl))
      have v1 : W.cell? ⟨bY, 1, none⟩ = some (.slice s1 t1 l1) := by simpa using HCY.out W hIW 1
      exact wpOp_valG rfl rfl (yielded_of rfl G2) (v := .slice s1 t1 l1) (w' := W) (by simp [execOp, go_sem, E64, v1]) ⟨hIW, fun _ h => h, Or.inl ⟨_, by decide, rfl, updF_same _ _ _⟩⟩
    | 5, _, hdep =>
      have G2 : a1.tmps[63]? = some (.bool true) := by rw [← ha1]; exact (putsL_some _ _ _ _ (by decide) (show 63 < 106 from by decide)).trans (congrArg some (hdep 2 (by kernel_rfl)))
      have E4 : a1.tmps[4]?.getD undef = .pointer (some ⟨bR, 0, none⟩) := by rw [← ha1]; exact (putsL_out2 _ _ _ _ (by decide)).trans rfl
      exact wpOp_valG rfl rfl (yielded_of rfl G2) (v := .pointer (some ⟨bR, 1, none⟩)) (w' := W) (by simp [execOp, go_sem, E4]) ⟨hIW, fun _ h => h, Or.inl ⟨_, by decide, rfl, updF_same _ _ _⟩⟩
    | 6, _, hdep =>
      have G2 : a1.tmps[63]? = some (.bool true) := by rw [← ha1]; exact (putsL_some _ _ _ _ (by decide) (show 63 < 106 from by decide)).trans (congrArg some (hdep 2 (by kernel_rfl)))
      have E66 : a1.tmps[66]?.getD undef = .pointer (some ⟨bR, 1, none⟩) := by rw [← ha1]; exact (putsL_in2 _ _ _ _ (by decide) (show 66 < 106 from by decide)).trans (hdep 5 (by kernel_rfl))
      have v1 : W.cell? ⟨bR, 1, none⟩ = some (.slice b0 m0 d0) := by simpa using HCR.out W hIW 1
      exact wpOp_valG rfl rfl (yielded_of rfl G2) (v := .slice b0 m0 d0) (w' := W) (by simp [execOp, go_sem, E66, v1]) ⟨hIW, fun _ h => h, Or.inl ⟨_, by decide, rfl, updF_same _ _ _⟩⟩
    | 7, _, hdep =>
      have G2 : a1.tmps[63]? = some (.bool true) := by rw [← ha1]; exact (putsL_some _ _ _ _ (by decide) (show 63 < 106 from by decide)).trans (congrArg some (hdep 2 (by kernel_rfl)))
      have E65 : a1.tmps[65]?.getD undef = .slice s1 t1 l1 := by rw [← ha1]; exact (putsL_in2 _ _ _ _ (by decide) (show 65 < 106 from by decide)).trans (hdep 4 (by kernel_rfl))
      have E67 : a1.tmps[67]?.getD undef = .slice b0 m0 d0 := by rw [← ha1]; exact (putsL_in2 _ _ _ _ (by decide) (show 67 < 106 from by decide)).trans (hdep 6 (by kernel_rfl))
      refine wpOp_callG rfl rfl (yielded_of rfl G2) (n := 21) (vs := #[.slice s1 t1 l1, .slice b0 m0 d0]) (by have := egO #[.slice s1 t1 l1, .slice b0 m0 d0] W; simp [execOp, E65, E67, resolve, invoke, go_sem] <;> exact this) ((HEQ.out W hIW).mono fun e w' h => (⟨_, h.1, rfl, h.2⟩ : ∃ v, e = .returned v ∧ (v = .bool true ∧ J w'))) ?_
      rintro v w' ⟨rfl, hI'⟩
      exact ⟨hI', fun _ h => h, Or.inl ⟨_, by decide, rfl, updF_same _ _ _⟩⟩
    | 8, _, hdep =>
      have E63 : a1.tmps[63]?.getD undef = .bool true := by rw [← ha1]; exact (putsL_in2 _ _ _ _ (by decide) (show 63 < 106 from by decide)).trans (hdep 2 (by kernel_rfl))
      have E68 : a1.tmps[68]?.getD undef = .bool true := by rw [← ha1]; exact (putsL_in2 _ _ _ _ (by decide) (show 68 < 106 from by decide)).trans (hdep 7 (by kernel_rfl))
      exact wpOp_val rfl rfl (v := .bool true) (w' := W) (by simp [execOp, go_sem, E63, E68]) ⟨hIW, fun _ h => h, Or.inl ⟨_, by decide, rfl, updF_same _ _ _⟩⟩
    | 9, _, hdep =>
      have E69 : a1.tmps[69]?.getD undef = .bool true := by rw [← ha1]; exact (putsL_in2 _ _ _ _ (by decide) (show 69 < 106 from by decide)).trans (hdep 8 (by kernel_rfl))
      exact wpOp_val rfl rfl (v := .bool true) (w' := W) (by simp [execOp, go_sem, E69]) ⟨hIW, fun _ h => h, Or.inl ⟨_, by decide, rfl, updF_same _ _ _⟩⟩
    | 10, _, hdep =>
      have G9 : a1.tmps[70]? = some (.bool true) := by rw [← ha1]; exact (putsL_some _ _ _ _ (by decide) (show 70 < 106 from by decide)).trans (congrArg some (hdep 9 (by kernel_rfl)))
      have E10 : a1.tmps[10]?.getD undef = .pointer (some ⟨bX, 0, none⟩) := by rw [← ha1]; exact (putsL_out2 _ _ _ _ (by decide)).trans rfl
      have v0 : W.cell? ⟨bX, 0, none⟩ = some (.slice p0 q0 u0) := by simpa using HCX.out W hIW 0
      have v1 : W.cell? ⟨bX, 1, none⟩ = some (.slice p1 q1 u1) := by simpa using HCX.out W hIW 1
      have v2 : W.cell? ⟨bX, 2, none⟩ = some (.slice p2 q2 u2) := by simpa using HCX.out W hIW 2
      exact wpOp_valG rfl rfl (yielded_of rfl G9) (v := .agg #[.slice p0 q0 u0, .slice p1 q1 u1, .slice p2 q2 u2]) (w' := W) (by simp [execOp, go_sem, E10, v0, v1, v2]) ⟨hIW, fun _ h => h, Or.inl ⟨_, by decide, rfl, updF_same _ _ _⟩⟩
    | 11, _, hdep =>
      have G9 : a1.tmps[70]? = some (.bool true) := by rw [← ha1]; exact (putsL_some _ _ _ _ (by decide) (show 70 < 106 from by decide)).trans (congrArg some (hdep 9 (by kernel_rfl)))
      have E6 : a1.tmps[6]?.getD undef = .int .i64 id := by rw [← ha1]; exact (putsL_out2 _ _ _ _ (by decide)).trans rfl
      exact wpOp_valG rfl rfl (yielded_of rfl G9) (v := .int .i64 id) (w' := W) (by simp [execOp, go_sem, E6]) ⟨hIW, fun _ h => h, Or.inl ⟨_, by decide, rfl, updF_same _ _ _⟩⟩
    | 12, _, hdep =>
      have G9 : a1.tmps[70]? = some (.bool true) := by rw [← ha1]; exact (putsL_some _ _ _ _ (by decide) (show 70 < 106 from by decide)).trans (congrArg some (hdep 9 (by kernel_rfl)))
      have E7 : a1.tmps[7]?.getD undef = .int .i64 a := by rw [← ha1]; exact (putsL_out2 _ _ _ _ (by decide)).trans rfl
      exact wpOp_valG rfl rfl (yielded_of rfl G9) (v := .int .i64 a) (w' := W) (by simp [execOp, go_sem, E7]) ⟨hIW, fun _ h => h, Or.inl ⟨_, by decide, rfl, updF_same _ _ _⟩⟩
    | 13, _, hdep =>
      have G9 : a1.tmps[70]? = some (.bool true) := by rw [← ha1]; exact (putsL_some _ _ _ _ (by decide) (show 70 < 106 from by decide)).trans (congrArg some (hdep 9 (by kernel_rfl)))
      have E71 : a1.tmps[71]?.getD undef = .agg #[.slice p0 q0 u0, .slice p1 q1 u1, .slice p2 q2 u2] := by rw [← ha1]; exact (putsL_in2 _ _ _ _ (by decide) (show 71 < 106 from by decide)).trans (hdep 10 (by kernel_rfl))
      have E72 : a1.tmps[72]?.getD undef = .int .i64 id := by rw [← ha1]; exact (putsL_in2 _ _ _ _ (by decide) (show 72 < 106 from by decide)).trans (hdep 11 (by kernel_rfl))
      have E73 : a1.tmps[73]?.getD undef = .int .i64 a := by rw [← ha1]; exact (putsL_in2 _ _ _ _ (by decide) (show 73 < 106 from by decide)).trans (hdep 12 (by kernel_rfl))
      refine wpOp_callG rfl rfl (yielded_of rfl G9) (n := 22) (vs := #[.agg #[.slice p0 q0 u0, .slice p1 q1 u1, .slice p2 q2 u2], .int .i64 id, .int .i64 a]) (by have := egH #[.agg #[.slice p0 q0 u0, .slice p1 q1 u1, .slice p2 q2 u2], .int .i64 id, .int .i64 a] W; simp [execOp, E71, E72, E73, resolve, invoke, go_sem] <;> exact this) ((HXA.out W hIW).mono fun e w' h => (⟨_, h.1, rfl, h.2⟩ : ∃ v, e = .returned v ∧ (v = .int .i64 (ha - n) ∧ J w'))) ?_
      rintro v w' ⟨rfl, hI'⟩
      exact ⟨hI', fun _ h => h, Or.inl ⟨_, by decide, rfl, updF_same _ _ _⟩⟩
    | 14, _, hdep =>
      have G9 : a1.tmps[70]? = some (.bool true) := by rw [← ha1]; exact (putsL_some _ _ _ _ (by decide) (show 70 < 106 from by decide)).trans (congrArg some (hdep 9 (by kernel_rfl)))
      have E4 : a1.tmps[4]?.getD undef = .pointer (some ⟨bR, 0, none⟩) := by rw [← ha1]; exact (putsL_out2 _ _ _ _ (by decide)).trans rfl
      have v0 : W.cell? ⟨bR, 0, none⟩ = some (.slice a0 n0 c0) := by simpa using HCR.out W hIW 0
      have v1 : W.cell? ⟨bR, 1, none⟩ = some (.slice b0 m0 d0) := by simpa using HCR.out W hIW 1
      have v2 : W.cell? ⟨bR, 2, none⟩ = some (.slice e0 k0 f0) := by simpa using HCR.out W hIW 2
      exact wpOp_valG rfl rfl (yielded_of rfl G9) (v := .agg #[.slice a0 n0 c0, .slice b0 m0 d0, .slice e0 k0 f0]) (w' := W) (by simp [execOp, go_sem, E4, v0, v1, v2]) ⟨hIW, fun _ h => h, Or.inl ⟨_, by decide, rfl, updF_same _ _ _⟩⟩
    | 15, _, hdep =>
      have G9 : a1.tmps[70]? = some (.bool true) := by rw [← ha1]; exact (putsL_some _ _ _ _ (by decide) (show 70 < 106 from by decide)).trans (congrArg some (hdep 9 (by kernel_rfl)))
      have E6 : a1.tmps[6]?.getD undef = .int .i64 id := by rw [← ha1]; exact (putsL_out2 _ _ _ _ (by decide)).trans rfl
      exact wpOp_valG rfl rfl (yielded_of rfl G9) (v := .int .i64 id) (w' := W) (by simp [execOp, go_sem, E6]) ⟨hIW, fun _ h => h, Or.inl ⟨_, by decide, rfl, updF_same _ _ _⟩⟩
    | 16, _, hdep =>
      have G9 : a1.tmps[70]? = some (.bool true) := by rw [← ha1]; exact (putsL_some _ _ _ _ (by decide) (show 70 < 106 from by decide)).trans (congrArg some (hdep 9 (by kernel_rfl)))
      have E7 : a1.tmps[7]?.getD undef = .int .i64 a := by rw [← ha1]; exact (putsL_out2 _ _ _ _ (by decide)).trans rfl
      exact wpOp_valG rfl rfl (yielded_of rfl G9) (v := .int .i64 a) (w' := W) (by simp [execOp, go_sem, E7]) ⟨hIW, fun _ h => h, Or.inl ⟨_, by decide, rfl, updF_same _ _ _⟩⟩
    | 17, _, hdep =>
      have G9 : a1.tmps[70]? = some (.bool true) := by rw [← ha1]; exact (putsL_some _ _ _ _ (by decide) (show 70 < 106 from by decide)).trans (congrArg some (hdep 9 (by kernel_rfl)))
      have E75 : a1.tmps[75]?.getD undef = .agg #[.slice a0 n0 c0, .slice b0 m0 d0, .slice e0 k0 f0] := by rw [← ha1]; exact (putsL_in2 _ _ _ _ (by decide) (show 75 < 106 from by decide)).trans (hdep 14 (by kernel_rfl))
      have E76 : a1.tmps[76]?.getD undef = .int .i64 id := by rw [← ha1]; exact (putsL_in2 _ _ _ _ (by decide) (show 76 < 106 from by decide)).trans (hdep 15 (by kernel_rfl))
      have E77 : a1.tmps[77]?.getD undef = .int .i64 a := by rw [← ha1]; exact (putsL_in2 _ _ _ _ (by decide) (show 77 < 106 from by decide)).trans (hdep 16 (by kernel_rfl))
      refine wpOp_callG rfl rfl (yielded_of rfl G9) (n := 22) (vs := #[.agg #[.slice a0 n0 c0, .slice b0 m0 d0, .slice e0 k0 f0], .int .i64 id, .int .i64 a]) (by have := egH #[.agg #[.slice a0 n0 c0, .slice b0 m0 d0, .slice e0 k0 f0], .int .i64 id, .int .i64 a] W; simp [execOp, E75, E76, E77, resolve, invoke, go_sem] <;> exact this) ((HRA.out W hIW).mono fun e w' h => (⟨_, h.1, rfl, h.2⟩ : ∃ v, e = .returned v ∧ (v = .int .i64 ha ∧ J w'))) ?_
      rintro v w' ⟨rfl, hI'⟩
      exact ⟨hI', fun _ h => h, Or.inl ⟨_, by decide, rfl, updF_same _ _ _⟩⟩
    | 18, _, hdep =>
      have G9 : a1.tmps[70]? = some (.bool true) := by rw [← ha1]; exact (putsL_some _ _ _ _ (by decide) (show 70 < 106 from by decide)).trans (congrArg some (hdep 9 (by kernel_rfl)))
      have E9 : a1.tmps[9]?.getD undef = .int .i64 n := by rw [← ha1]; exact (putsL_out2 _ _ _ _ (by decide)).trans rfl
      exact wpOp_valG rfl rfl (yielded_of rfl G9) (v := .int .i64 n) (w' := W) (by simp [execOp, go_sem, E9]) ⟨hIW, fun _ h => h, Or.inl ⟨_, by decide, rfl, updF_same _ _ _⟩⟩
    | 19, _, hdep =>
      have G9 : a1.tmps[70]? = some (.bool true) := by rw [← ha1]; exact (putsL_some _ _ _ _ (by decide) (show 70 < 106 from by decide)).trans (congrArg some (hdep 9 (by kernel_rfl)))
      have E78 : a1.tmps[78]?.getD undef = .int .i64 ha := by rw [← ha1]; exact (putsL_in2 _ _ _ _ (by decide) (show 78 < 106 from by decide)).trans (hdep 17 (by kernel_rfl))
      have E79 : a1.tmps[79]?.getD undef = .int .i64 n := by rw [← ha1]; exact (putsL_in2 _ _ _ _ (by decide) (show 79 < 106 from by decide)).trans (hdep 18 (by kernel_rfl))
      exact wpOp_valG rfl rfl (yielded_of rfl G9) (v := .int .i64 (ha - n)) (w' := W) (by simp [execOp, go_sem, E78, E79, hwA]) ⟨hIW, fun _ h => h, Or.inl ⟨_, by decide, rfl, updF_same _ _ _⟩⟩
    | 20, _, hdep =>
      have G9 : a1.tmps[70]? = some (.bool true) := by rw [← ha1]; exact (putsL_some _ _ _ _ (by decide) (show 70 < 106 from by decide)).trans (congrArg some (hdep 9 (by kernel_rfl)))
      have E74 : a1.tmps[74]?.getD undef = .int .i64 (ha - n) := by rw [← ha1]; exact (putsL_in2 _ _ _ _ (by decide) (show 74 < 106 from by decide)).trans (hdep 13 (by kernel_rfl))
      have E80 : a1.tmps[80]?.getD undef = .int .i64 (ha - n) := by rw [← ha1]; exact (putsL_in2 _ _ _ _ (by decide) (show 80 < 106 from by decide)).trans (hdep 19 (by kernel_rfl))
      exact wpOp_valG rfl rfl (yielded_of rfl G9) (v := .bool true) (w' := W) (by simp [execOp, go_sem, E74, E80, hcA]) ⟨hIW, fun _ h => h, Or.inl ⟨_, by decide, rfl, updF_same _ _ _⟩⟩
    | 21, _, hdep =>
      have E70 : a1.tmps[70]?.getD undef = .bool true := by rw [← ha1]; exact (putsL_in2 _ _ _ _ (by decide) (show 70 < 106 from by decide)).trans (hdep 9 (by kernel_rfl))
      have E81 : a1.tmps[81]?.getD undef = .bool true := by rw [← ha1]; exact (putsL_in2 _ _ _ _ (by decide) (show 81 < 106 from by decide)).trans (hdep 20 (by kernel_rfl))
      exact wpOp_val rfl rfl (v := .bool true) (w' := W) (by simp [execOp, go_sem, E70, E81]) ⟨hIW, fun _ h => h, Or.inl ⟨_, by decide, rfl, updF_same _ _ _⟩⟩
    | 22, _, hdep =>
      have E82 : a1.tmps[82]?.getD undef = .bool true := by rw [← ha1]; exact (putsL_in2 _ _ _ _ (by decide) (show 82 < 106 from by decide)).trans (hdep 21 (by kernel_rfl))
      exact wpOp_val rfl rfl (v := .bool true) (w' := W) (by simp [execOp, go_sem, E82]) ⟨hIW, fun _ h => h, Or.inl ⟨_, by decide, rfl, updF_same _ _ _⟩⟩
    | 23, _, hdep =>
      have G22 : a1.tmps[83]? = some (.bool true) := by rw [← ha1]; exact (putsL_some _ _ _ _ (by decide) (show 83 < 106 from by decide)).trans (congrArg some (hdep 22 (by kernel_rfl)))
      have E10 : a1.tmps[10]?.getD undef = .pointer (some ⟨bX, 0, none⟩) := by rw [← ha1]; exact (putsL_out2 _ _ _ _ (by decide)).trans rfl
      have v0 : W.cell? ⟨bX, 0, none⟩ = some (.slice p0 q0 u0) := by simpa using HCX.out W hIW 0
      have v1 : W.cell? ⟨bX, 1, none⟩ = some (.slice p1 q1 u1) := by simpa using HCX.out W hIW 1
      have v2 : W.cell? ⟨bX, 2, none⟩ = some (.slice p2 q2 u2) := by simpa using HCX.out W hIW 2
      exact wpOp_valG rfl rfl (yielded_of rfl G22) (v := .agg #[.slice p0 q0 u0, .slice p1 q1 u1, .slice p2 q2 u2]) (w' := W) (by simp [execOp, go_sem, E10, v0, v1, v2]) ⟨hIW, fun _ h => h, Or.inl ⟨_, by decide, rfl, updF_same _ _ _⟩⟩
    | 24, _, hdep =>
      have G22 : a1.tmps[83]? = some (.bool true) := by rw [← ha1]; exact (putsL_some _ _ _ _ (by decide) (show 83 < 106 from by decide)).trans (congrArg some (hdep 22 (by kernel_rfl)))
      have E6 : a1.tmps[6]?.getD undef = .int .i64 id := by rw [← ha1]; exact (putsL_out2 _ _ _ _ (by decide)).trans rfl
      exact wpOp_valG rfl rfl (yielded_of rfl G22) (v := .int .i64 id) (w' := W) (by simp [execOp, go_sem, E6]) ⟨hIW, fun _ h => h, Or.inl ⟨_, by decide, rfl, updF_same _ _ _⟩⟩
    | 25, _, hdep =>
      have G22 : a1.tmps[83]? = some (.bool true) := by rw [← ha1]; exact (putsL_some _ _ _ _ (by decide) (show 83 < 106 from by decide)).trans (congrArg some (hdep 22 (by kernel_rfl)))
      have E8 : a1.tmps[8]?.getD undef = .int .i64 b := by rw [← ha1]; exact (putsL_out2 _ _ _ _ (by decide)).trans rfl
      exact wpOp_valG rfl rfl (yielded_of rfl G22) (v := .int .i64 b) (w' := W) (by simp [execOp, go_sem, E8]) ⟨hIW, fun _ h => h, Or.inl ⟨_, by decide, rfl, updF_same _ _ _⟩⟩
    | 26, _, hdep =>
      have G22 : a1.tmps[83]? = some (.bool true) := by rw [← ha1]; exact (putsL_some _ _ _ _ (by decide) (show 83 < 106 from by decide)).trans (congrArg some (hdep 22 (by kernel_rfl)))
      have E84 : a1.tmps[84]?.getD undef = .agg #[.slice p0 q0 u0, .slice p1 q1 u1, .slice p2 q2 u2] := by rw [← ha1]; exact (putsL_in2 _ _ _ _ (by decide) (show 84 < 106 from by decide)).trans (hdep 23 (by kernel_rfl))
      have E85 : a1.tmps[85]?.getD undef = .int .i64 id := by rw [← ha1]; exact (putsL_in2 _ _ _ _ (by decide) (show 85 < 106 from by decide)).trans (hdep 24 (by kernel_rfl))
      have E86 : a1.tmps[86]?.getD undef = .int .i64 b := by rw [← ha1]; exact (putsL_in2 _ _ _ _ (by decide) (show 86 < 106 from by decide)).trans (hdep 25 (by kernel_rfl))
      refine wpOp_callG rfl rfl (yielded_of rfl G22) (n := 22) (vs := #[.agg #[.slice p0 q0 u0, .slice p1 q1 u1, .slice p2 q2 u2], .int .i64 id, .int .i64 b]) (by have := egH #[.agg #[.slice p0 q0 u0, .slice p1 q1 u1, .slice p2 q2 u2], .int .i64 id, .int .i64 b] W; simp [execOp, E84, E85, E86, resolve, invoke, go_sem] <;> exact this) ((HXB.out W hIW).mono fun e w' h => (⟨_, h.1, rfl, h.2⟩ : ∃ v, e = .returned v ∧ (v = .int .i64 (hb + n) ∧ J w'))) ?_
      rintro v w' ⟨rfl, hI'⟩
      exact ⟨hI', fun _ h => h, Or.inl ⟨_, by decide, rfl, updF_same _ _ _⟩⟩
    | 27, _, hdep =>
      have G22 : a1.tmps[83]? = some (.bool true) := by rw [← ha1]; exact (putsL_some _ _ _ _ (by decide) (show 83 < 106 from by decide)).trans (congrArg some (hdep 22 (by kernel_rfl)))
      have E4 : a1.tmps[4]?.getD undef = .pointer (some ⟨bR, 0, none⟩) := by rw [← ha1]; exact (putsL_out2 _ _ _ _ (by decide)).trans rfl
      have v0 : W.cell? ⟨bR, 0, none⟩ = some (.slice a0 n0 c0) := by simpa using HCR.out W hIW 0
      have v1 : W.cell? ⟨bR, 1, none⟩ = some (.slice b0 m0 d0) := by simpa using HCR.out W hIW 1
      have v2 : W.cell? ⟨bR, 2, none⟩ = some (.slice e0 k0 f0) := by simpa using HCR.out W hIW 2
      exact wpOp_valG rfl rfl (yielded_of rfl G22) (v := .agg #[.slice a0 n0 c0, .slice b0 m0 d0, .slice e0 k0 f0]) (w' := W) (by simp [execOp, go_sem, E4, v0, v1, v2]) ⟨hIW, fun _ h => h, Or.inl ⟨_, by decide, rfl, updF_same _ _ _⟩⟩
    | 28, _, hdep =>
      have G22 : a1.tmps[83]? = some (.bool true) := by rw [← ha1]; exact (putsL_some _ _ _ _ (by decide) (show 83 < 106 from by decide)).trans (congrArg some (hdep 22 (by kernel_rfl)))
      have E6 : a1.tmps[6]?.getD undef = .int .i64 id := by rw [← ha1]; exact (putsL_out2 _ _ _ _ (by decide)).trans rfl
      exact wpOp_valG rfl rfl (yielded_of rfl G22) (v := .int .i64 id) (w' := W) (by simp [execOp, go_sem, E6]) ⟨hIW, fun _ h => h, Or.inl ⟨_, by decide, rfl, updF_same _ _ _⟩⟩
    | 29, _, hdep =>
      have G22 : a1.tmps[83]? = some (.bool true) := by rw [← ha1]; exact (putsL_some _ _ _ _ (by decide) (show 83 < 106 from by decide)).trans (congrArg some (hdep 22 (by kernel_rfl)))
      have E8 : a1.tmps[8]?.getD undef = .int .i64 b := by rw [← ha1]; exact (putsL_out2 _ _ _ _ (by decide)).trans rfl
      exact wpOp_valG rfl rfl (yielded_of rfl G22) (v := .int .i64 b) (w' := W) (by simp [execOp, go_sem, E8]) ⟨hIW, fun _ h => h, Or.inl ⟨_, by decide, rfl, updF_same _ _ _⟩⟩
    | 30, _, hdep =>
      have G22 : a1.tmps[83]? = some (.bool true) := by rw [← ha1]; exact (putsL_some _ _ _ _ (by decide) (show 83 < 106 from by decide)).trans (congrArg some (hdep 22 (by kernel_rfl)))
      have E88 : a1.tmps[88]?.getD undef = .agg #[.slice a0 n0 c0, .slice b0 m0 d0, .slice e0 k0 f0] := by rw [← ha1]; exact (putsL_in2 _ _ _ _ (by decide) (show 88 < 106 from by decide)).trans (hdep 27 (by kernel_rfl))
      have E89 : a1.tmps[89]?.getD undef = .int .i64 id := by rw [← ha1]; exact (putsL_in2 _ _ _ _ (by decide) (show 89 < 106 from by decide)).trans (hdep 28 (by kernel_rfl))
      have E90 : a1.tmps[90]?.getD undef = .int .i64 b := by rw [← ha1]; exact (putsL_in2 _ _ _ _ (by decide) (show 90 < 106 from by decide)).trans (hdep 29 (by kernel_rfl))
      refine wpOp_callG rfl rfl (yielded_of rfl G22) (n := 22) (vs := #[.agg #[.slice a0 n0 c0, .slice b0 m0 d0, .slice e0 k0 f0], .int .i64 id, .int .i64 b]) (by have := egH #[.agg #[.slice a0 n0 c0, .slice b0 m0 d0, .slice e0 k0 f0], .int .i64 id, .int .i64 b] W; simp [execOp, E88, E89, E90, resolve, invoke, go_sem] <;> exact this) ((HRB.out W hIW).mono fun e w' h => (⟨_, h.1, rfl, h.2⟩ : ∃ v, e = .returned v ∧ (v = .int .i64 hb ∧ J w'))) ?_
      rintro v w' ⟨rfl, hI'⟩
      exact ⟨hI', fun _ h => h, Or.inl ⟨_, by decide, rfl, updF_same _ _ _⟩⟩
    | 31, _, hdep =>
      have G22 : a1.tmps[83]? = some (.bool true) := by rw [← ha1]; exact (putsL_some _ _ _ _ (by decide) (show 83 < 106 from by decide)).trans (congrArg some (hdep 22 (by kernel_rfl)))
      have E9 : a1.tmps[9]?.getD undef = .int .i64 n := by rw [← ha1]; exact (putsL_out2 _ _ _ _ (by decide)).trans rfl
      exact wpOp_valG rfl rfl (yielded_of rfl G22) (v := .int .i64 n) (w' := W) (by simp [execOp, go_sem, E9]) ⟨hIW, fun _ h => h, Or.inl ⟨_, by decide, rfl, updF_same _ _ _⟩⟩
    | 32, _, hdep =>
      have G22 : a1.tmps[83]? = some (.bool true) := by rw [← ha1]; exact (putsL_some _ _ _ _ (by decide) (show 83 < 106 from by decide)).trans (congrArg some (hdep 22 (by kernel_rfl)))
      have E91 : a1.tmps[91]?.getD undef = .int .i64 hb := by rw [← ha1]; exact (putsL_in2 _ _ _ _ (by decide) (show 91 < 106 from by decide)).trans (hdep 30 (by kernel_rfl))
      have E92 : a1.tmps[92]?.getD undef = .int .i64 n := by rw [← ha1]; exact (putsL_in2 _ _ _ _ (by decide) (show 92 < 106 from by decide)).trans (hdep 31 (by kernel_rfl))
      exact wpOp_valG rfl rfl (yielded_of rfl G22) (v := .int .i64 (hb + n)) (w' := W) (by simp [execOp, go_sem, E91, E92, hwB]) ⟨hIW, fun _ h => h, Or.inl ⟨_, by decide, rfl, updF_same _ _ _⟩⟩
    | 33, _, hdep =>
      have G22 : a1.tmps[83]? = some (.bool true) := by rw [← ha1]; exact (putsL_some _ _ _ _ (by decide) (show 83 < 106 from by decide)).trans (congrArg some (hdep 22 (by kernel_rfl)))
      have E87 : a1.tmps[87]?.getD undef = .int .i64 (hb + n) := by rw [← ha1]; exact (putsL_in2 _ _ _ _ (by decide) (show 87 < 106 from by decide)).trans (hdep 26 (by kernel_rfl))
      have E93 : a1.tmps[93]?.getD undef = .int .i64 (hb + n) := by rw [← ha1]; exact (putsL_in2 _ _ _ _ (by decide) (show 93 < 106 from by decide)).trans (hdep 32 (by kernel_rfl))
      exact wpOp_valG rfl rfl (yielded_of rfl G22) (v := .bool true) (w' := W) (by simp [execOp, go_sem, E87, E93, hcB]) ⟨hIW, fun _ h => h, Or.inl ⟨_, by decide, rfl, updF_same _ _ _⟩⟩
    | 34, _, hdep =>
      have E83 : a1.tmps[83]?.getD undef = .bool true := by rw [← ha1]; exact (putsL_in2 _ _ _ _ (by decide) (show 83 < 106 from by decide)).trans (hdep 22 (by kernel_rfl))
      have E94 : a1.tmps[94]?.getD undef = .bool true := by rw [← ha1]; exact (putsL_in2 _ _ _ _ (by decide) (show 94 < 106 from by decide)).trans (hdep 33 (by kernel_rfl))
      exact wpOp_val rfl rfl (v := .bool true) (w' := W) (by simp [execOp, go_sem, E83, E94]) ⟨hIW, fun _ h => h, Or.inl ⟨_, by decide, rfl, updF_same _ _ _⟩⟩
    | 35, _, hdep =>
      have E95 : a1.tmps[95]?.getD undef = .bool true := by rw [← ha1]; exact (putsL_in2 _ _ _ _ (by decide) (show 95 < 106 from by decide)).trans (hdep 34 (by kernel_rfl))
      exact wpOp_val rfl rfl (v := .bool true) (w' := W) (by simp [execOp, go_sem, E95]) ⟨hIW, fun _ h => h, Or.inl ⟨_, by decide, rfl, updF_same _ _ _⟩⟩
    | 36, _, hdep =>
      have G35 : a1.tmps[96]? = some (.bool true) := by rw [← ha1]; exact (putsL_some _ _ _ _ (by decide) (show 96 < 106 from by decide)).trans (congrArg some (hdep 35 (by kernel_rfl)))
      have E10 : a1.tmps[10]?.getD undef = .pointer (some ⟨bX, 0, none⟩) := by rw [← ha1]; exact (putsL_out2 _ _ _ _ (by decide)).trans rfl
      have v0 : W.cell? ⟨bX, 0, none⟩ = some (.slice p0 q0 u0) := by simpa using HCX.out W hIW 0
      have v1 : W.cell? ⟨bX, 1, none⟩ = some (.slice p1 q1 u1) := by simpa using HCX.out W hIW 1
      have v2 : W.cell? ⟨bX, 2, none⟩ = some (.slice p2 q2 u2) := by simpa using HCX.out W hIW 2
      exact wpOp_valG rfl rfl (yielded_of rfl G35) (v := .agg #[.slice p0 q0 u0, .slice p1 q1 u1, .slice p2 q2 u2]) (w' := W) (by simp [execOp, go_sem, E10, v0, v1, v2]) ⟨hIW, fun _ h => h, Or.inl ⟨_, by decide, rfl, updF_same _ _ _⟩⟩
    | 37, _, hdep =>
      have G35 : a1.tmps[96]? = some (.bool true) := by rw [← ha1]; exact (putsL_some _ _ _ _ (by decide) (show 96 < 106 from by decide)).trans (congrArg some (hdep 35 (by kernel_rfl)))
      have E97 : a1.tmps[97]?.getD undef = .agg #[.slice p0 q0 u0, .slice p1 q1 u1, .slice p2 q2 u2] := by rw [← ha1]; exact (putsL_in2 _ _ _ _ (by decide) (show 97 < 106 from by decide)).trans (hdep 36 (by kernel_rfl))
      refine wpOp_callG rfl rfl (yielded_of rfl G35) (n := 16) (vs := #[.agg #[.slice p0 q0 u0, .slice p1 q1 u1, .slice p2 q2 u2]]) (by have := egD #[.agg #[.slice p0 q0 u0, .slice p1 q1 u1, .slice p2 q2 u2]] W; simp [execOp, E97, resolve, invoke, go_sem] <;> exact this) ((HDX.out W hIW).mono fun e w' h => (⟨_, h.1, rfl, h.2⟩ : ∃ v, e = .returned v ∧ (v = .int .i64 db ∧ J w'))) ?_
      rintro v w' ⟨rfl, hI'⟩
      exact ⟨hI', fun _ h => h, Or.inl ⟨_, by decide, rfl, updF_same _ _ _⟩⟩
    | 38, _, hdep =>
      have G35 : a1.tmps[96]? = some (.bool true) := by rw [← ha1]; exact (putsL_some _ _ _ _ (by decide) (show 96 < 106 from by decide)).trans (congrArg some (hdep 35 (by kernel_rfl)))
      have E4 : a1.tmps[4]?.getD undef = .pointer (some ⟨bR, 0, none⟩) := by rw [← ha1]; exact (putsL_out2 _ _ _ _ (by decide)).trans rfl
      have v0 : W.cell? ⟨bR, 0, none⟩ = some (.slice a0 n0 c0) := by simpa using HCR.out W hIW 0
      have v1 : W.cell? ⟨bR, 1, none⟩ = some (.slice b0 m0 d0) := by simpa using HCR.out W hIW 1
      have v2 : W.cell? ⟨bR, 2, none⟩ = some (.slice e0 k0 f0) := by simpa using HCR.out W hIW 2
      exact wpOp_valG rfl rfl (yielded_of rfl G35) (v := .agg #[.slice a0 n0 c0, .slice b0 m0 d0, .slice e0 k0 f0]) (w' := W) (by simp [execOp, go_sem, E4, v0, v1, v2]) ⟨hIW, fun _ h => h, Or.inl ⟨_, by decide, rfl, updF_same _ _ _⟩⟩
    | 39, _, hdep =>
      have G35 : a1.tmps[96]? = some (.bool true) := by rw [← ha1]; exact (putsL_some _ _ _ _ (by decide) (show 96 < 106 from by decide)).trans (congrArg some (hdep 35 (by kernel_rfl)))
      have E99 : a1.tmps[99]?.getD undef = .agg #[.slice a0 n0 c0, .slice b0 m0 d0, .slice e0 k0 f0] := by rw [← ha1]; exact (putsL_in2 _ _ _ _ (by decide) (show 99 < 106 from by decide)).trans (hdep 38 (by kernel_rfl))
      refine wpOp_callG rfl rfl (yielded_of rfl G35) (n := 16) (vs := #[.agg #[.slice a0 n0 c0, .slice b0 m0 d0, .slice e0 k0 f0]]) (by have := egD #[.agg #[.slice a0 n0 c0, .slice b0 m0 d0, .slice e0 k0 f0]] W; simp [execOp, E99, resolve, invoke, go_sem] <;> exact this) ((HDR.out W hIW).mono fun e w' h => (⟨_, h.1, rfl, h.2⟩ : ∃ v, e = .returned v ∧ (v = .int .i64 db ∧ J w'))) ?_
      rintro v w' ⟨rfl, hI'⟩
      exact ⟨hI', fun _ h => h, Or.inl ⟨_, by decide, rfl, updF_same _ _ _⟩⟩
    | 40, _, hdep =>
      have G35 : a1.tmps[96]? = some (.bool true) := by rw [← ha1]; exact (putsL_some _ _ _ _ (by decide) (show 96 < 106 from by decide)).trans (congrArg some (hdep 35 (by kernel_rfl)))
      have E98 : a1.tmps[98]?.getD undef = .int .i64 db := by rw [← ha1]; exact (putsL_in2 _ _ _ _ (by decide) (show 98 < 106 from by decide)).trans (hdep 37 (by kernel_rfl))
      have E100 : a1.tmps[100]?.getD undef = .int .i64 db := by rw [← ha1]; exact (putsL_in2 _ _ _ _ (by decide) (show 100 < 106 from by decide)).trans (hdep 39 (by kernel_rfl))
      exact wpOp_valG rfl rfl (yielded_of rfl G35) (v := .bool true) (w' := W) (by simp [execOp, go_sem, E98, E100]) ⟨hIW, fun _ h => h, Or.inl ⟨_, by decide, rfl, updF_same _ _ _⟩⟩
    | 41, _, hdep =>
      have E96 : a1.tmps[96]?.getD undef = .bool true := by rw [← ha1]; exact (putsL_in2 _ _ _ _ (by decide) (show 96 < 106 from by decide)).trans (hdep 35 (by kernel_rfl))
      have E101 : a1.tmps[101]?.getD undef = .bool true := by rw [← ha1]; exact (putsL_in2 _ _ _ _ (by decide) (show 101 < 106 from by decide)).trans (hdep 40 (by kernel_rfl))
      exact wpOp_val rfl rfl (v := .bool true) (w' := W) (by simp [execOp, go_sem, E96, E101]) ⟨hIW, fun _ h => h, Or.inl ⟨_, by decide, rfl, updF_same _ _ _⟩⟩
    | 42, _, hdep =>
      have E102 : a1.tmps[102]?.getD undef = .bool true := by rw [← ha1]; exact (putsL_in2 _ _ _ _ (by decide) (show 102 < 106 from by decide)).trans (hdep 41 (by kernel_rfl))
      exact wpOp_val rfl rfl (v := .bool true) (w' := W) (by simp [execOp, go_sem, E102]) ⟨hIW, fun _ h => h, Or.inl ⟨_, by decide, rfl, updF_same _ _ _⟩⟩
    | 43, _, hdep =>
      have G42 : a1.tmps[103]? = some (.bool true) := by rw [← ha1]; exact (putsL_some _ _ _ _ (by decide) (show 103 < 106 from by decide)).trans (congrArg some (hdep 42 (by kernel_rfl)))
      refine wpOp_callG rfl rfl (yielded_of rfl G42) (n := 17) (vs := #[]) (by have := egS #[] W; simp [execOp, go_sem, resolve, invoke, go_sem] <;> exact this) ((HSA.out W hIW).mono fun e w' h => (⟨_, h.1, rfl, h.2⟩ : ∃ v, e = .returned v ∧ (v = .bool true ∧ J w'))) ?_
      rintro v w' ⟨rfl, hI'⟩
      exact ⟨hI', fun _ h => h, Or.inl ⟨_, by decide, rfl, updF_same _ _ _⟩⟩
    | 44, _, hdep =>
      have E103 : a1.tmps[103]?.getD undef = .bool true := by rw [← ha1]; exact (putsL_in2 _ _ _ _ (by decide) (show 103 < 106 from by decide)).trans (hdep 42 (by kernel_rfl))
      have E104 : a1.tmps[104]?.getD undef = .bool true := by rw [← ha1]; exact (putsL_in2 _ _ _ _ (by decide) (show 104 < 106 from by decide)).trans (hdep 43 (by kernel_rfl))
      exact wpOp_val rfl rfl (v := .bool true) (w' := W) (by simp [execOp, go_sem, E103, E104]) ⟨hIW, fun _ h => h, Or.inl ⟨_, by decide, rfl, updF_same _ _ _⟩⟩
    | 45, _, hdep =>
      have E105 : a1.tmps[105]?.getD undef = .bool true := by rw [← ha1]; exact (putsL_in2 _ _ _ _ (by decide) (show 105 < 106 from by decide)).trans (hdep 44 (by kernel_rfl))
      exact wpOp_val rfl rfl (v := .bool true) (w' := W) (by simp [execOp, go_sem, E105]) ⟨hIW, fun _ h => h, Or.inl ⟨_, by decide, rfl, updF_same _ _ _⟩⟩
    | iq + 46, h, _ => exact absurd h (by omega)
  case refine_2 =>
    intro f W hIW hR
    have h2 : f 2 = .bool true := hR 45 (show 45 < 46 from by decide)
    simp only [putsL, List.foldl_cons, List.foldl_nil, Act.put, List.setIfInBounds_toArray, List.set_cons_zero, List.set_cons_succ]
    have HE := Lib.hid (HJO.out W hIW)
    go_wp2
    refine bodyPost_ret (v := .bool true) (by simp [results, Try.results4, go_sem, h2]) rfl ⟨rfl, HFIN.out _ (HSI.out.below (HE.out))⟩

end Go.Proofs.Ytnfllgeneehjjaa
