/- risk.Project of a right register and a valid path: the service of each year. -/
import Derived.Test.YtblidmkkbcobgaaMRkC
import Derived.Test.YtblidmkkbcobgaaMRzD
import Derived.Test.YtblidmkkbcobgaaMRkL
import Derived.Test.YtblidmkkbcobgaaMG12
import Derived.Test.YtblidmkkbcobgaaMG9
import Derived.Deep.DeepCutAuto
set_option linter.unusedSimpArgs false
set_option linter.unusedVariables false
set_option linter.unusedSimpArgs false
set_option linter.unusedVariables false
namespace Go.Proofs.Ytblidmkkbcobgaa
open Go.RowKit Go.Lib Go.Proofs

set_option maxHeartbeats 1000000 in
theorem riinterest_ok (a q : Int) (w : World) (h : 0 ≤ a ∧ a ≤ 20000000000000 ∧ 0 ≤ q ∧ q ≤ 20000) :
    Calls Try.prog 50 #[.int .i64 a, .int .i64 q] w fun e w' => e = .returned (.int .i64 (intM a q)) ∧ Below w.heap.size w w' := by
  obtain ⟨h1, h2, h3, h4⟩ := intM_in h.1 h.2.1 h.2.2.1 h.2.2.2
  have hw1 : IntKind.i64.wrap (2 * a) = 2 * a := IntWalk.i64_in _ (by omega)
  have hw2 : IntKind.i64.wrap (2 * a * q) = 2 * a * q := IntWalk.i64_in _ (by omega)
  have hw3 : IntKind.i64.wrap (2 * a * q + 100000) = 2 * a * q + 100000 := IntWalk.i64_in _ (by omega)
  have hw4 : wrap64 ((2 * a * q + 100000).tdiv 200000) = intM a q := by
    rw [Int.tdiv_eq_ediv_of_nonneg (by omega)]
    exact IntWalk.wrap64_in _ (by unfold intM at h3 h4; omega)
  generalize intM a q = res at *
  clear h1 h2 h3 h4 h
  go_enter Try.func50, Try.ntmps50
  go_wp2
  go_ret
  exact ⟨by rw [← hw4]; rfl, Below.refl _ _⟩

theorem Try.infoSrv : (Try.prog.info? 38).map (fun i => (i.zero, i.size, i.bytes)) = some (some (.agg #[.int .i64 0, .int .i64 0, .int .i64 0, .int .i64 0]), 4, 32) := by kernel_rfl
/-- What Project hands back. -/
def ProjPost (r : Reg) (first : Int) (rates : List Int) (w : World) (e : Ending) (w' : World) : Prop := ∃ u, e = .returned (.tuple #[u, .int .i64 0]) ∧ w'.ownsRow w.heap.size 38 4 u rates.length (cellsL srvC (projL r first rates rates.length)) ∧ Below w.heap.size w w'

set_option maxRecDepth 100000 in
set_option maxHeartbeats 16000000 in
theorem riProject_ok (r : Reg) (x y z v : Value) (first : Int) (rates : List Int) (w : World) (h : RegOk r) (hr : RegAt w x y z r) (hv : ListAt intC 1 w v rates) (hf : 0 ≤ first ∧ first ≤ 100) (hn : 1 ≤ rates.length ∧ rates.length ≤ 60) (hq : RatesOk rates) :
    Calls Try.prog 13 #[.agg #[x, y, z], .int .i64 first, v] w (ProjPost r first rates w) := by
  obtain ⟨rx0, rx1, rx2, ry0, ry1, ry2, rz0, rz1, rz2, rfl, rfl, rfl⟩ := hr.slices
  obtain ⟨i0, hi0, hz0, hz1, hz2⟩ := info_parts Try.infoSrv
  obtain ⟨vo, vc, rfl, hvc, hvcell⟩ := hv.shape intF
  have HRT : Hid (∀ k (h : k < rates.length), ∃ b o, vo = some ⟨b, o, none⟩ ∧ b < w.heap.size ∧ w.cell? ⟨b, o + k, none⟩ = some (.int .i64 (rateAt rates (k + 1)))) := Lib.hid fun k hk => by
    obtain ⟨b, o, hb0, hb1, hb2⟩ := hvcell (by omega)
    refine ⟨b, o, hb0, hb1, ?_⟩
    have := hb2 k hk 0 (by omega)
    rw [Nat.mul_one, Nat.add_zero] at this
    rw [this]
    show some (Value.int .i64 rates[k]) = some (.int .i64 (rates.getD k 0))
    simp [List.getD, hk]
  have HB0 := Lib.hid (below_alloc w (.cells #[.slice rx0 rx1 rx2, .slice ry0 ry1 ry2, .slice rz0 rz1 rz2] 29))
  have HX0 := Lib.hid (heap_alloc_new w (.cells #[.slice rx0 rx1 rx2, .slice ry0 ry1 ry2, .slice rz0 rz1 rz2] 29))
  obtain ⟨w0, hw0⟩ : ∃ w0, w0 = w.alloc (.cells #[.slice rx0 rx1 rx2, .slice ry0 ry1 ry2, .slice rz0 rz1 rz2] 29) := ⟨_, rfl⟩
  rw [← hw0] at HB0 HX0
  have HCK := Lib.hid (rxCheck_any r _ _ _ w0 h.regS (hr.below HB0.out))
  rw [checkR_ok h] at HCK
  have HPA := Lib.hid (fun W (hW : Below w.heap.size w W) => riPath_ok rates (.slice vo rates.length vc) W (hv.below hW) hn hq)
  have HIF := Lib.hid (fun W => riisFirst_yes (n := first) W hf.1 hf.2)
  obtain ⟨n, hnn⟩ : ∃ n, n = rates.length := ⟨_, rfl⟩
  have HNN0 := Lib.hid hnn
  rw [← hnn] at HPA HRT hvc hn ⊢
  have HPC0 := Lib.hid (fun W (hW : Below w.heap.size w W) => ricoupons_ok r _ _ _ first n W h (hr.below hW) hf hn)
  have HPF0 := Lib.hid (fun W (hW : Below w.heap.size w W) => rifalls_ok r _ _ _ first n W h (hr.below hW) hf hn)
  have HPL0 := Lib.hid (fun q W (hW : Below w.heap.size w W) hq => rilater_ok r _ _ _ q W h (hr.below hW) hq)
  have HRK := Lib.hid h
  have HQ := Lib.hid hq
  have hx := HX0.out
  have a0 := obj_cell hx 0
  have a1 := obj_cell hx 1
  have a2 := obj_cell hx 2
  simp at a0 a1 a2
  have hlen : ∀ (c : Nat), True := fun _ => trivial
  unfold ProjPost
  rw [← hnn]
  clear h hr hx hv hvcell hq hnn hlen
  go_enter Try.func13, Try.ntmps13
  go_upto_region 1 with fail
  rw [← hw0]
  clear hw0
  go_wp2_with fail
  refine HCK.out.mono ?_
  rintro e w1 ⟨rfl, hb1⟩
  have HB1 := Lib.hid (HB0.out.trans (hb1.mono HB0.out.size))
  have HX1 := Lib.hid (obj_below HX0.out hb1)
  clear a0 a1 a2 hb1 HCK HX0 HB0
  go_wp2_with fail
  refine (HPA.out _ HB1.out).mono ?_
  rintro e w2 ⟨rfl, hb2⟩
  have HB2 := Lib.hid (HB1.out.trans (hb2.mono HB1.out.size))
  have hx2 := obj_below HX1.out hb2
  have d0 := obj_cell hx2 0
  have d1 := obj_cell hx2 1
  have d2 := obj_cell hx2 2
  simp at d0 d1 d2
  clear hx2 hb2 HX1 HB1 HPA
  go_wp2_with fail
  refine (HIF.out _).mono ?_
  rintro e w' ⟨rfl, rfl⟩
  obtain ⟨bD, hbD⟩ : ∃ b, b = w2.heap.size := ⟨_, rfl⟩
  obtain ⟨w3, hw3⟩ : ∃ W, W = w2.alloc (.cells #[.slice rx0 rx1 rx2, .slice ry0 ry1 ry2, .slice rz0 rz1 rz2] 93) := ⟨_, rfl⟩
  have HX3 : Hid (w3.heap[bD]? = some (.cells #[.slice rx0 rx1 rx2, .slice ry0 ry1 ry2, .slice rz0 rz1 rz2] 93 (0, 0))) := Lib.hid (by rw [hw3, hbD]; exact heap_alloc_new _ _)
  have HB3 : Hid (Below w.heap.size w w3) := Lib.hid (by rw [hw3]; exact HB2.out.alloc HB2.out.size _)
  go_upto_region 9 with fail
  rw [← hw3, ← hbD]
  clear hw3 hbD d0 d1 d2 HB2 HIF
  obtain ⟨J, hJ⟩ : ∃ J, J = fun W : World => Below w3.heap.size w3 W := ⟨_, rfl⟩
  have HJO : Hid (∀ W, J W → Below w3.heap.size w3 W) := Lib.hid fun W hW => by rw [hJ] at hW; exact hW
  have HJI : Hid (∀ W, Below w3.heap.size w3 W → J W) := Lib.hid fun W hW => by rw [hJ]; exact hW
  have HJD : Hid (∀ W, J W → J W.drew) := Lib.hid fun W hW => HJI.out _ ((HJO.out W hW).drew)
  have HJ0 : Hid (J w3) := Lib.hid (HJI.out _ (Below.refl _ _))
  have HJB : Hid (∀ W W', J W → Below W.heap.size W W' → J W') := Lib.hid fun W W' hW hb => HJI.out _ ((HJO.out W hW).trans (hb.mono (HJO.out W hW).size))
  have HJW : Hid (∀ W, J W → Below w.heap.size w W) := Lib.hid fun W hW => HB3.out.trans ((HJO.out W hW).mono HB3.out.size)
  have HCD : Hid (∀ W, J W → ∀ j, W.cell? ⟨bD, j, none⟩ = #[.slice rx0 rx1 rx2, .slice ry0 ry1 ry2, .slice rz0 rz1 rz2][j]?) := Lib.hid fun W hW j => obj_cell (obj_below HX3.out (HJO.out W hW)) j
  have HPC : Hid (∀ W, J W → Calls Try.prog 48 #[.agg #[.slice rx0 rx1 rx2, .slice ry0 ry1 ry2, .slice rz0 rz1 rz2], .int .i64 first, .int .i64 (n : Int)] W fun e w' => ∃ u1, e = .returned u1 ∧ ListAt intC 1 w' u1 (cpnL r first n) ∧ J w' ∧ Below W.heap.size W w') := Lib.hid fun W hW =>
    (HPC0.out W (HJW.out W hW)).mono fun e w' ⟨u, h1, h2, h3⟩ => ⟨u, h1, by unfold ListAt; rw [cpnL_len, cellsL_int]; exact RowG.owns h2, HJB.out _ _ hW h3, h3⟩
  have HPF : Hid (∀ W, J W → Calls Try.prog 49 #[.agg #[.slice rx0 rx1 rx2, .slice ry0 ry1 ry2, .slice rz0 rz1 rz2], .int .i64 first, .int .i64 (n : Int)] W fun e w' => ∃ u2, e = .returned u2 ∧ ListAt intC 1 w' u2 (fallsL r first n) ∧ J w' ∧ Below W.heap.size W w') := Lib.hid fun W hW =>
    (HPF0.out W (HJW.out W hW)).mono fun e w' ⟨u, h1, h2, h3⟩ => ⟨u, h1, by unfold ListAt; rw [fallsL_len, cellsL_int]; exact RowG.owns h2, HJB.out _ _ hW h3, h3⟩
  have egC := enters_of Try.func48 (by kernel_rfl) rfl
  have egF := enters_of Try.func49 (by kernel_rfl) rfl
  have hlen : True := trivial
  clear hJ HJI HPC0 HPF0
  obtain ⟨P, hP⟩ : ∃ P : Nat → Value → World → Prop, P = fun j v W => match j with | 0 => (v = .agg #[.slice rx0 rx1 rx2, .slice ry0 ry1 ry2, .slice rz0 rz1 rz2]) | 1 => (v = .int .i64 first) | 2 => (v = .slice vo n vc) | 3 => (v = .int .i64 (n : Int)) | 4 => (∃ u1, v = u1 ∧ ListAt intC 1 W u1 (cpnL r first n)) | 5 => (v = .agg #[.slice rx0 rx1 rx2, .slice ry0 ry1 ry2, .slice rz0 rz1 rz2]) | 6 => (v = .int .i64 first) | 7 => (v = .slice vo n vc) | 8 => (v = .int .i64 (n : Int)) | 9 => (∃ u2, v = u2 ∧ ListAt intC 1 W u2 (fallsL r first n)) | 10 => (∃ u1, v = u1 ∧ ListAt intC 1 W u1 (cpnL r first n)) | 11 => (∃ u2, v = u2 ∧ ListAt intC 1 W u2 (fallsL r first n)) | _ => True := ⟨_, rfl⟩
  have HPI0 : Hid (∀ v W, P 0 v W ↔ (v = .agg #[.slice rx0 rx1 rx2, .slice ry0 ry1 ry2, .slice rz0 rz1 rz2])) := Lib.hid fun v W => by rw [hP] <;> exact Iff.rfl
  have HPI1 : Hid (∀ v W, P 1 v W ↔ (v = .int .i64 first)) := Lib.hid fun v W => by rw [hP] <;> exact Iff.rfl
  have HPI2 : Hid (∀ v W, P 2 v W ↔ (v = .slice vo n vc)) := Lib.hid fun v W => by rw [hP] <;> exact Iff.rfl
  have HPI3 : Hid (∀ v W, P 3 v W ↔ (v = .int .i64 (n : Int))) := Lib.hid fun v W => by rw [hP] <;> exact Iff.rfl
  have HPI4 : Hid (∀ v W, P 4 v W ↔ (∃ u1, v = u1 ∧ ListAt intC 1 W u1 (cpnL r first n))) := Lib.hid fun v W => by rw [hP] <;> exact Iff.rfl
  have HPI5 : Hid (∀ v W, P 5 v W ↔ (v = .agg #[.slice rx0 rx1 rx2, .slice ry0 ry1 ry2, .slice rz0 rz1 rz2])) := Lib.hid fun v W => by rw [hP] <;> exact Iff.rfl
  have HPI6 : Hid (∀ v W, P 6 v W ↔ (v = .int .i64 first)) := Lib.hid fun v W => by rw [hP] <;> exact Iff.rfl
  have HPI7 : Hid (∀ v W, P 7 v W ↔ (v = .slice vo n vc)) := Lib.hid fun v W => by rw [hP] <;> exact Iff.rfl
  have HPI8 : Hid (∀ v W, P 8 v W ↔ (v = .int .i64 (n : Int))) := Lib.hid fun v W => by rw [hP] <;> exact Iff.rfl
  have HPI9 : Hid (∀ v W, P 9 v W ↔ (∃ u2, v = u2 ∧ ListAt intC 1 W u2 (fallsL r first n))) := Lib.hid fun v W => by rw [hP] <;> exact Iff.rfl
  have HPI10 : Hid (∀ v W, P 10 v W ↔ (∃ u1, v = u1 ∧ ListAt intC 1 W u1 (cpnL r first n))) := Lib.hid fun v W => by rw [hP] <;> exact Iff.rfl
  have HPI11 : Hid (∀ v W, P 11 v W ↔ (∃ u2, v = u2 ∧ ListAt intC 1 W u2 (fallsL r first n))) := Lib.hid fun v W => by rw [hP] <;> exact Iff.rfl
  have HKP : Hid (∀ (j : Nat) v W W', Below W.heap.size W W' → P j v W → P j v W') := Lib.hid (by
    rw [hP]
    intro j v W W' hb h
    match j, h with
    | 0, h => exact h
    | 1, h => exact h
    | 2, h => exact h
    | 3, h => exact h
    | 4, ⟨u1, e, s0⟩ => exact ⟨u1, e, s0.below hb⟩
    | 5, h => exact h
    | 6, h => exact h
    | 7, h => exact h
    | 8, h => exact h
    | 9, ⟨u2, e, s0⟩ => exact ⟨u2, e, s0.below hb⟩
    | 10, ⟨u1, e, s0⟩ => exact ⟨u1, e, s0.below hb⟩
    | 11, ⟨u2, e, s0⟩ => exact ⟨u2, e, s0.below hb⟩
    | j + 12, _ => trivial)
  clear hP
  go_cut [10, 11] (fun pv qv wx => Hid (J wx) ∧ Hid (ListAt intC 1 wx pv (cpnL r first n)) ∧ Hid (ListAt intC 1 wx qv (fallsL r first n)))
  case first =>
    refine wp_region_props [32, 33, 34, 35, 36, 37, 38, 39, 40, 41, 10, 11] (slotS [32, 33, 34, 35, 36, 37, 38, 39, 40, 41, 10, 11]) (readsS [32, 33, 34, 35, 36, 37, 38, 39, 40, 41, 10, 11]) (RP [32, 33, 34, 35, 36, 37, 38, 39, 40, 41, 10, 11] P) J (by kernel_rfl) (by kernel_rfl) (by kernel_rfl) (HJD.out _ HJ0.out) (fun j f q v W hq h => RP.upd hq h) ?_ ?_
    case refine_1 =>
      intro iq hiq f W hIW hdep0
      have hiq' : iq < 12 := hiq
      have hdep : ∀ j, depB _ iq j = true → P j (f (slotS [32, 33, 34, 35, 36, 37, 38, 39, 40, 41, 10, 11] j)) W := hdep0
      clear hdep0
      generalize ha1 : putsL _ [32, 33, 34, 35, 36, 37, 38, 39, 40, 41, 10, 11] f = a1
      match iq, hiq', hdep with
      | 0, _, hdep0 =>
        have E9 : a1.tmps[9]?.getD undef = .pointer (some ⟨bD, 0, none⟩) := by rw [← ha1]; exact (putsL_out2 _ _ _ _ (by decide)).trans rfl
        have v0 : W.cell? ⟨bD, 0, none⟩ = some (.slice rx0 rx1 rx2) := by simpa using HCD.out W hIW 0
        have v1 : W.cell? ⟨bD, 1, none⟩ = some (.slice ry0 ry1 ry2) := by simpa using HCD.out W hIW 1
        have v2 : W.cell? ⟨bD, 2, none⟩ = some (.slice rz0 rz1 rz2) := by simpa using HCD.out W hIW 2
        exact wpOp_val rfl rfl (v := .agg #[.slice rx0 rx1 rx2, .slice ry0 ry1 ry2, .slice rz0 rz1 rz2]) (w' := W) (by simp [execOp, go_sem, E9, v0, v1, v2]) ⟨hIW, fun _ h => h, Or.inl ⟨_, by decide, rfl, RP.set ((HPI0.out _ _).2 rfl)⟩⟩
      | 1, _, hdep0 =>
        have E1 : a1.tmps[1]?.getD undef = .int .i64 first := by rw [← ha1]; exact (putsL_out2 _ _ _ _ (by decide)).trans rfl
        exact wpOp_val rfl rfl (v := .int .i64 first) (w' := W) (by simp [execOp, go_sem, E1]) ⟨hIW, fun _ h => h, Or.inl ⟨_, by decide, rfl, RP.set ((HPI1.out _ _).2 rfl)⟩⟩
      | 2, _, hdep0 =>
        have E2 : a1.tmps[2]?.getD undef = .slice vo n vc := by rw [← ha1]; exact (putsL_out2 _ _ _ _ (by decide)).trans rfl
        exact wpOp_val rfl rfl (v := .slice vo n vc) (w' := W) (by simp [execOp, go_sem, E2]) ⟨hIW, fun _ h => h, Or.inl ⟨_, by decide, rfl, RP.set ((HPI2.out _ _).2 rfl)⟩⟩
      | 3, _, hdep0 =>
        have hd2 := (HPI2.out _ _).1 (hdep0 2 (by kernel_rfl))
        have E34 : a1.tmps[34]?.getD undef = .slice vo n vc := by rw [← ha1]; exact (putsL_in2 _ _ _ _ (by decide) (show 34 < 84 from by decide)).trans hd2
        exact wpOp_val rfl rfl (v := .int .i64 (n : Int)) (w' := W) (by simp [execOp, go_sem, E34, hlen]) ⟨hIW, fun _ h => h, Or.inl ⟨_, by decide, rfl, RP.set ((HPI3.out _ _).2 rfl)⟩⟩
      | 4, _, hdep0 =>
        have hd0 := (HPI0.out _ _).1 (hdep0 0 (by kernel_rfl))
        have hd1 := (HPI1.out _ _).1 (hdep0 1 (by kernel_rfl))
        have hd3 := (HPI3.out _ _).1 (hdep0 3 (by kernel_rfl))
        have E32 : a1.tmps[32]?.getD undef = .agg #[.slice rx0 rx1 rx2, .slice ry0 ry1 ry2, .slice rz0 rz1 rz2] := by rw [← ha1]; exact (putsL_in2 _ _ _ _ (by decide) (show 32 < 84 from by decide)).trans hd0
        have E33 : a1.tmps[33]?.getD undef = .int .i64 first := by rw [← ha1]; exact (putsL_in2 _ _ _ _ (by decide) (show 33 < 84 from by decide)).trans hd1
        have E35 : a1.tmps[35]?.getD undef = .int .i64 (n : Int) := by rw [← ha1]; exact (putsL_in2 _ _ _ _ (by decide) (show 35 < 84 from by decide)).trans hd3
        refine wpOp_call rfl rfl (n := 48) (vs := #[.agg #[.slice rx0 rx1 rx2, .slice ry0 ry1 ry2, .slice rz0 rz1 rz2], .int .i64 first, .int .i64 (n : Int)]) (by have := egC #[.agg #[.slice rx0 rx1 rx2, .slice ry0 ry1 ry2, .slice rz0 rz1 rz2], .int .i64 first, .int .i64 (n : Int)] W; simp [execOp, E32, E33, E35, resolve, invoke, go_sem] <;> exact this) ((HPC.out W hIW).mono fun e w' hh => (by obtain ⟨u1, rfl, p0, hJ', hb'⟩ := hh; exact ⟨_, rfl, (HPI4.out _ _).2 ⟨_, rfl, p0⟩, hJ', hb'⟩ : ∃ v, e = .returned v ∧ (P 4 v w' ∧ J w' ∧ Below W.heap.size W w'))) ?_
        rintro v w' ⟨hv, hI', hb'⟩
        exact ⟨hI', fun j h => HKP.out j _ _ _ hb' h, Or.inl ⟨_, by decide, rfl, RP.set hv⟩⟩
      | 5, _, hdep0 =>
        have E9 : a1.tmps[9]?.getD undef = .pointer (some ⟨bD, 0, none⟩) := by rw [← ha1]; exact (putsL_out2 _ _ _ _ (by decide)).trans rfl
        have v0 : W.cell? ⟨bD, 0, none⟩ = some (.slice rx0 rx1 rx2) := by simpa using HCD.out W hIW 0
        have v1 : W.cell? ⟨bD, 1, none⟩ = some (.slice ry0 ry1 ry2) := by simpa using HCD.out W hIW 1
        have v2 : W.cell? ⟨bD, 2, none⟩ = some (.slice rz0 rz1 rz2) := by simpa using HCD.out W hIW 2
        exact wpOp_val rfl rfl (v := .agg #[.slice rx0 rx1 rx2, .slice ry0 ry1 ry2, .slice rz0 rz1 rz2]) (w' := W) (by simp [execOp, go_sem, E9, v0, v1, v2]) ⟨hIW, fun _ h => h, Or.inl ⟨_, by decide, rfl, RP.set ((HPI5.out _ _).2 rfl)⟩⟩
      | 6, _, hdep0 =>
        have E1 : a1.tmps[1]?.getD undef = .int .i64 first := by rw [← ha1]; exact (putsL_out2 _ _ _ _ (by decide)).trans rfl
        exact wpOp_val rfl rfl (v := .int .i64 first) (w' := W) (by simp [execOp, go_sem, E1]) ⟨hIW, fun _ h => h, Or.inl ⟨_, by decide, rfl, RP.set ((HPI6.out _ _).2 rfl)⟩⟩
      | 7, _, hdep0 =>
        have E2 : a1.tmps[2]?.getD undef = .slice vo n vc := by rw [← ha1]; exact (putsL_out2 _ _ _ _ (by decide)).trans rfl
        exact wpOp_val rfl rfl (v := .slice vo n vc) (w' := W) (by simp [execOp, go_sem, E2]) ⟨hIW, fun _ h => h, Or.inl ⟨_, by decide, rfl, RP.set ((HPI7.out _ _).2 rfl)⟩⟩
      | 8, _, hdep0 =>
        have hd7 := (HPI7.out _ _).1 (hdep0 7 (by kernel_rfl))
        have E39 : a1.tmps[39]?.getD undef = .slice vo n vc := by rw [← ha1]; exact (putsL_in2 _ _ _ _ (by decide) (show 39 < 84 from by decide)).trans hd7
        exact wpOp_val rfl rfl (v := .int .i64 (n : Int)) (w' := W) (by simp [execOp, go_sem, E39, hlen]) ⟨hIW, fun _ h => h, Or.inl ⟨_, by decide, rfl, RP.set ((HPI8.out _ _).2 rfl)⟩⟩
      | 9, _, hdep0 =>
        have hd5 := (HPI5.out _ _).1 (hdep0 5 (by kernel_rfl))
        have hd6 := (HPI6.out _ _).1 (hdep0 6 (by kernel_rfl))
        have hd8 := (HPI8.out _ _).1 (hdep0 8 (by kernel_rfl))
        have E37 : a1.tmps[37]?.getD undef = .agg #[.slice rx0 rx1 rx2, .slice ry0 ry1 ry2, .slice rz0 rz1 rz2] := by rw [← ha1]; exact (putsL_in2 _ _ _ _ (by decide) (show 37 < 84 from by decide)).trans hd5
        have E38 : a1.tmps[38]?.getD undef = .int .i64 first := by rw [← ha1]; exact (putsL_in2 _ _ _ _ (by decide) (show 38 < 84 from by decide)).trans hd6
        have E40 : a1.tmps[40]?.getD undef = .int .i64 (n : Int) := by rw [← ha1]; exact (putsL_in2 _ _ _ _ (by decide) (show 40 < 84 from by decide)).trans hd8
        refine wpOp_call rfl rfl (n := 49) (vs := #[.agg #[.slice rx0 rx1 rx2, .slice ry0 ry1 ry2, .slice rz0 rz1 rz2], .int .i64 first, .int .i64 (n : Int)]) (by have := egF #[.agg #[.slice rx0 rx1 rx2, .slice ry0 ry1 ry2, .slice rz0 rz1 rz2], .int .i64 first, .int .i64 (n : Int)] W; simp [execOp, E37, E38, E40, resolve, invoke, go_sem] <;> exact this) ((HPF.out W hIW).mono fun e w' hh => (by obtain ⟨u2, rfl, p0, hJ', hb'⟩ := hh; exact ⟨_, rfl, (HPI9.out _ _).2 ⟨_, rfl, p0⟩, hJ', hb'⟩ : ∃ v, e = .returned v ∧ (P 9 v w' ∧ J w' ∧ Below W.heap.size W w'))) ?_
        rintro v w' ⟨hv, hI', hb'⟩
        exact ⟨hI', fun j h => HKP.out j _ _ _ hb' h, Or.inl ⟨_, by decide, rfl, RP.set hv⟩⟩
      | 10, _, hdep0 =>
        have hd4 := (HPI4.out _ _).1 (hdep0 4 (by kernel_rfl))
        obtain ⟨u1, q4, r4_0⟩ := hd4
        have E36 : a1.tmps[36]?.getD undef = u1 := by rw [← ha1]; exact (putsL_in2 _ _ _ _ (by decide) (show 36 < 84 from by decide)).trans q4
        exact wpOp_val rfl rfl (v := u1) (w' := W) (by simp [execOp, go_sem, E36]) ⟨hIW, fun _ h => h, Or.inl ⟨_, by decide, rfl, RP.set ((HPI10.out _ _).2 ⟨_, rfl, r4_0⟩)⟩⟩
      | 11, _, hdep0 =>
        have hd9 := (HPI9.out _ _).1 (hdep0 9 (by kernel_rfl))
        obtain ⟨u2, q9, r9_0⟩ := hd9
        have E41 : a1.tmps[41]?.getD undef = u2 := by rw [← ha1]; exact (putsL_in2 _ _ _ _ (by decide) (show 41 < 84 from by decide)).trans q9
        exact wpOp_val rfl rfl (v := u2) (w' := W) (by simp [execOp, go_sem, E41]) ⟨hIW, fun _ h => h, Or.inl ⟨_, by decide, rfl, RP.set ((HPI11.out _ _).2 ⟨_, rfl, r9_0⟩)⟩⟩
      | iq + 12, h, _ => exact absurd h (by omega)
    case refine_2 =>
      intro f W hIW hR
      have h10 := (HPI10.out _ _).1 (hR 10 (show 10 < 12 from by decide))
      have h11 := (HPI11.out _ _).1 (hR 11 (show 11 < 12 from by decide))
      simp only [putsL, List.foldl_cons, List.foldl_nil, Act.put, List.setIfInBounds_toArray, List.set_cons_zero, List.set_cons_succ]
      obtain ⟨u1, e1, l1⟩ := h10
      obtain ⟨u2, e2, l2⟩ := h11
      go_wp2
      go_meet
      have e1' : f 10 = u1 := e1
      have e2' : f 11 = u2 := e2
      exact ⟨Lib.hid hIW, Lib.hid (by rw [e1']; exact l1), Lib.hid (by rw [e2']; exact l2)⟩
  case rest =>
    obtain ⟨HJ9, HL1, HL2⟩ := hcut
    generalize wc = w9 at *
    have HB9 := Lib.hid (HJW.out _ HJ9.out)
    have HX9 := Lib.hid (obj_below HX3.out (HJO.out _ HJ9.out))
    clear HPC HPF HJB HJD HJ0 HCD HJ9 HJO HJW HX3 HB3 egC egF
    have hL1 := HL1.out
    have hL2 := HL2.out
    obtain ⟨a1, c1, rfl, hc1, hs1⟩ := hL1.shape intF
    obtain ⟨a2, c2, rfl, hc2, hs2⟩ := hL2.shape intF
    rw [cpnL_len] at hc1 ⊢
    rw [fallsL_len] at hc2 ⊢
    obtain ⟨b1, o1, rfl, hb1, hcc1⟩ := hs1 (by rw [cpnL_len]; omega)
    obtain ⟨b2, o2, rfl, hb2, hcc2⟩ := hs2 (by rw [fallsL_len]; omega)
    have HC1 : Hid (∀ W k, Below w9.heap.size w9 W → k < n → W.cell? ⟨b1, o1 + k, none⟩ = some (.int .i64 (cpnM r (first + (k : Int))))) := Lib.hid fun W k hW hk => by
      have := hcc1 k (by rw [cpnL_len]; exact hk) 0 (by omega)
      rw [Nat.mul_one, Nat.add_zero] at this
      rw [hW.cell hb1, this]
      simp [intC, cpnL]
    have HC2 : Hid (∀ W k, Below w9.heap.size w9 W → k < n → W.cell? ⟨b2, o2 + k, none⟩ = some (.int .i64 (fallsM r (first + (k : Int))))) := Lib.hid fun W k hW hk => by
      have := hcc2 k (by rw [fallsL_len]; exact hk) 0 (by omega)
      rw [Nat.mul_one, Nat.add_zero] at this
      rw [hW.cell hb2, this]
      simp [intC, fallsL]
    clear hs1 hs2 hcc1 hcc2 hL1 hL2 HL1 HL2 hb1 hb2
    have HROW0 : Hid (w9.ownsRow w9.heap.size 38 4 (.slice none 0 0) 0 (cellsL srvC (projL r first rates 0))) := Lib.hid (World.ownsRow_nil _ _ _ _)
    have hn0 : (0 : Int) ≤ (n : Int) := by omega
    have hn1 : (n : Int) ≤ 60 := by omega
    go_wp2
    go_loopw [12, 13, 14, 44] (fun sv av qv iv W => ∃ k : Nat, iv = .int .i64 (k : Int) ∧ k ≤ n ∧ av = .int .i64 (raisedM r first k) ∧ qv = .int .i64 (rateAt rates k) ∧ Hid (W.ownsRow w9.heap.size 38 4 sv k (cellsL srvC (projL r first rates k))) ∧ Hid (Below w9.heap.size w9 W)) (fun _ _ _ iv _ => n - (RowKit.intOf iv).toNat)
    case atStart => exact ⟨0, rfl, by omega, rfl, rfl, HROW0, Lib.hid (Below.refl _ _)⟩
    case round =>
      clear HROW0
      obtain ⟨k, rfl, hkn, rfl, rfl, HOW, HBW⟩ := hrel
      obtain ⟨sa, scap, rfl, hscap, hsa⟩ := owns_gen HOW.out
      by_cases hlk : k < n
      · obtain ⟨N, hN⟩ : ∃ N, N = wr.heap.size := ⟨_, rfl⟩
        obtain ⟨I, hI⟩ : ∃ I, I = fun W : World => Below N wr W := ⟨_, rfl⟩
        have HIO : Hid (∀ W, I W → Below N wr W) := Lib.hid fun W hW => by rw [hI] at hW; exact hW
        have HII : Hid (∀ W, Below N wr W → I W) := Lib.hid fun W hW => by rw [hI]; exact hW
        have HNN : Hid (∀ W, I W → N ≤ W.heap.size) := Lib.hid fun W hW => by have := (HIO.out W hW).size; omega
        have HIB : Hid (∀ W W', I W → Below W.heap.size W W' → I W') := Lib.hid fun W W' hW hb => HII.out _ ((HIO.out W hW).trans (hb.mono (HNN.out W hW)))
        have HID : Hid (∀ W, I W → I W.drew) := Lib.hid fun W hW => HIB.out _ _ hW (Below.refl _ _).drew
        have HIA : Hid (∀ W o, I W → I (W.alloc o)) := Lib.hid fun W o hW => HIB.out _ _ hW (below_alloc W o)
        have HI0 : Hid (I wr) := Lib.hid (HII.out _ (Below.refl _ _))
        have HIW : Hid (∀ W, I W → Below w9.heap.size w9 W) := Lib.hid fun W hW => HBW.out.trans ((HIO.out W hW).mono (by have := HBW.out.size; omega))
        obtain ⟨cq, hcq⟩ : ∃ cq, cq = cpnM r (first + (k : Int)) := ⟨_, rfl⟩
        obtain ⟨fq, hfq⟩ : ∃ fq, fq = fallsM r (first + (k : Int)) := ⟨_, rfl⟩
        obtain ⟨rq, hrq⟩ : ∃ rq, rq = raisedM r first k := ⟨_, rfl⟩
        obtain ⟨pq, hpq⟩ : ∃ pq, pq = rateAt rates k := ⟨_, rfl⟩
        obtain ⟨ti, hti⟩ : ∃ ti, ti = intM rq pq := ⟨_, rfl⟩
        obtain ⟨lq, hlq⟩ : ∃ lq, lq = laterM r (first + (k : Int)) := ⟨_, rfl⟩
        have hfr : raisedM r first (k + 1) = fq + rq := by rw [hfq, hrq]; rfl
        have HSRV : Hid (srvM r first rates k = ⟨first + (k : Int), cq + ti, fq + rq, lq + (fq + rq)⟩) := Lib.hid (by unfold srvM; rw [hfr, hcq, hti, hrq, hpq, hlq])
        have b1' := cpn_in HRK.out (first + (k : Int))
        have b2' := raised_in HRK.out first k
        have b3' := raised_in HRK.out first (k + 1)
        have b4' := HRK.out.debt_in
        have b5' := later_in HRK.out (first + (k : Int))
        have b6' := rateAt_in HQ.out k
        have b7' := intM_in b2'.1 (by omega) b6'.1 b6'.2
        rw [hfr] at b3'
        rw [← hcq] at b1'
        rw [← hlq] at b5'
        rw [← hrq] at b2' b7' ⊢
        rw [← hpq] at b6' b7' ⊢
        rw [← hti] at b7'
        have HC1k : Hid (∀ W, I W → W.cell? ⟨b1, o1 + k, none⟩ = some (.int .i64 cq)) := Lib.hid fun W hW => by rw [hcq]; exact HC1.out W k (HIW.out W hW) hlk
        have HC2k : Hid (∀ W, I W → W.cell? ⟨b2, o2 + k, none⟩ = some (.int .i64 fq)) := Lib.hid fun W hW => by rw [hfq]; exact HC2.out W k (HIW.out W hW) hlk
        have HPI : Hid (∀ W, I W → Calls Try.prog 50 #[.int .i64 rq, .int .i64 pq] W fun e w' => e = .returned (.int .i64 ti) ∧ I w' ∧ Below W.heap.size W w') := Lib.hid fun W hW =>
          (riinterest_ok rq pq W ⟨b2'.1, by omega, b6'.1, b6'.2⟩).mono fun e w' ⟨h1, h2⟩ => ⟨by rw [h1, hti], HIB.out _ _ hW h2, h2⟩
        have hwa : IntKind.i64.wrap (first + (k : Int)) = first + (k : Int) := IntWalk.i64_in _ (by omega)
        have hwb : IntKind.i64.wrap (cq + ti) = cq + ti := IntWalk.i64_in _ (by omega)
        have hwc : IntKind.i64.wrap (fq + rq) = fq + rq := IntWalk.i64_in _ (by omega)
        have hwl : IntKind.i64.wrap (lq + (fq + rq)) = lq + (fq + rq) := IntWalk.i64_in _ (by omega)
        have hwk : IntKind.i64.wrap ((k : Int) + 1) = (k : Int) + 1 := IntWalk.i64_in _ (by omega)
        have hk0 : (0 : Int) ≤ (k : Int) := by omega
        have hk1 : (k : Int) < (n : Int) := by omega
        have hfk : 0 ≤ first + (k : Int) ∧ first + (k : Int) ≤ 200 := by omega
        have HPL : Hid (∀ W, Below w.heap.size w W → Calls Try.prog 51 #[.agg #[.slice rx0 rx1 rx2, .slice ry0 ry1 ry2, .slice rz0 rz1 rz2], .int .i64 (first + (k : Int))] W fun e w' => e = .returned (.int .i64 lq) ∧ Below W.heap.size W w') := Lib.hid fun W hW => by rw [hlq]; exact HPL0.out _ W hW hfk
        have egI := enters_of Try.func50 (by kernel_rfl) rfl
        have HRQ : Hid (raisedM r first (k + 1) = fq + rq) := Lib.hid hfr
        obtain ⟨bq, oq, rfl, hbq, hcqr⟩ := HRT.out k hlk
        have HNE : Hid (N = wr.heap.size) := Lib.hid hN
        have HNW : Hid (w9.heap.size ≤ N) := Lib.hid (by rw [hN]; exact HBW.out.size)
        clear hI HII hcq hfq hrq hpq hti hlq hfr b1' b2' b3' b4' b5' b6' b7' HC1 HC2 HPL0 hN
        go_upto_region 15 with fail
        obtain ⟨P, hP⟩ : ∃ P : Nat → Value → World → Prop, P = fun j v W => match j with | 0 => (v = .int .i64 first) | 1 => (v = .int .i64 (k : Int)) | 2 => (v = .int .i64 (first + (k : Int))) | 3 => (v = .slice (some ⟨b1, o1, none⟩) n c1) | 4 => (v = .int .i64 (k : Int)) | 5 => (v = .pointer (some ⟨b1, o1 + k, none⟩)) | 6 => (v = .int .i64 cq) | 7 => (v = .int .i64 rq) | 8 => (v = .int .i64 pq) | 9 => (v = .int .i64 ti) | 10 => (v = .int .i64 (cq + ti)) | 11 => (v = .slice (some ⟨b2, o2, none⟩) n c2) | 12 => (v = .int .i64 (k : Int)) | 13 => (v = .pointer (some ⟨b2, o2 + k, none⟩)) | 14 => (v = .int .i64 fq) | 15 => (v = .int .i64 rq) | 16 => (v = .int .i64 (fq + rq)) | 17 => (v = .agg #[.int .i64 (first + (k : Int)), .int .i64 (cq + ti), .int .i64 (fq + rq), .int .i64 0]) | 18 => (∃ bE, v = .pointer (some ⟨bE, 0, none⟩) ∧ (N ≤ bE ∧ W.heap[bE]? = some (.cells #[.int .i64 0, .int .i64 0, .int .i64 0, .int .i64 0] 38 (0, 0)))) | _ => True := ⟨_, rfl⟩
        have HPI0 : Hid (∀ v W, P 0 v W ↔ (v = .int .i64 first)) := Lib.hid fun v W => by rw [hP] <;> exact Iff.rfl
        have HPI1 : Hid (∀ v W, P 1 v W ↔ (v = .int .i64 (k : Int))) := Lib.hid fun v W => by rw [hP] <;> exact Iff.rfl
        have HPI2 : Hid (∀ v W, P 2 v W ↔ (v = .int .i64 (first + (k : Int)))) := Lib.hid fun v W => by rw [hP] <;> exact Iff.rfl
        have HPI3 : Hid (∀ v W, P 3 v W ↔ (v = .slice (some ⟨b1, o1, none⟩) n c1)) := Lib.hid fun v W => by rw [hP] <;> exact Iff.rfl
        have HPI4 : Hid (∀ v W, P 4 v W ↔ (v = .int .i64 (k : Int))) := Lib.hid fun v W => by rw [hP] <;> exact Iff.rfl
        have HPI5 : Hid (∀ v W, P 5 v W ↔ (v = .pointer (some ⟨b1, o1 + k, none⟩))) := Lib.hid fun v W => by rw [hP] <;> exact Iff.rfl
        have HPI6 : Hid (∀ v W, P 6 v W ↔ (v = .int .i64 cq)) := Lib.hid fun v W => by rw [hP] <;> exact Iff.rfl
        have HPI7 : Hid (∀ v W, P 7 v W ↔ (v = .int .i64 rq)) := Lib.hid fun v W => by rw [hP] <;> exact Iff.rfl
        have HPI8 : Hid (∀ v W, P 8 v W ↔ (v = .int .i64 pq)) := Lib.hid fun v W => by rw [hP] <;> exact Iff.rfl
        have HPI9 : Hid (∀ v W, P 9 v W ↔ (v = .int .i64 ti)) := Lib.hid fun v W => by rw [hP] <;> exact Iff.rfl
        have HPI10 : Hid (∀ v W, P 10 v W ↔ (v = .int .i64 (cq + ti))) := Lib.hid fun v W => by rw [hP] <;> exact Iff.rfl
        have HPI11 : Hid (∀ v W, P 11 v W ↔ (v = .slice (some ⟨b2, o2, none⟩) n c2)) := Lib.hid fun v W => by rw [hP] <;> exact Iff.rfl
        have HPI12 : Hid (∀ v W, P 12 v W ↔ (v = .int .i64 (k : Int))) := Lib.hid fun v W => by rw [hP] <;> exact Iff.rfl
        have HPI13 : Hid (∀ v W, P 13 v W ↔ (v = .pointer (some ⟨b2, o2 + k, none⟩))) := Lib.hid fun v W => by rw [hP] <;> exact Iff.rfl
        have HPI14 : Hid (∀ v W, P 14 v W ↔ (v = .int .i64 fq)) := Lib.hid fun v W => by rw [hP] <;> exact Iff.rfl
        have HPI15 : Hid (∀ v W, P 15 v W ↔ (v = .int .i64 rq)) := Lib.hid fun v W => by rw [hP] <;> exact Iff.rfl
        have HPI16 : Hid (∀ v W, P 16 v W ↔ (v = .int .i64 (fq + rq))) := Lib.hid fun v W => by rw [hP] <;> exact Iff.rfl
        have HPI17 : Hid (∀ v W, P 17 v W ↔ (v = .agg #[.int .i64 (first + (k : Int)), .int .i64 (cq + ti), .int .i64 (fq + rq), .int .i64 0])) := Lib.hid fun v W => by rw [hP] <;> exact Iff.rfl
        have HPI18 : Hid (∀ v W, P 18 v W ↔ (∃ bE, v = .pointer (some ⟨bE, 0, none⟩) ∧ (N ≤ bE ∧ W.heap[bE]? = some (.cells #[.int .i64 0, .int .i64 0, .int .i64 0, .int .i64 0] 38 (0, 0))))) := Lib.hid fun v W => by rw [hP] <;> exact Iff.rfl
        have HKP : Hid (∀ (j : Nat) v W W', Below W.heap.size W W' → P j v W → P j v W') := Lib.hid (by
          rw [hP]
          intro j v W W' hb h
          match j, h with
          | 0, h => exact h
          | 1, h => exact h
          | 2, h => exact h
          | 3, h => exact h
          | 4, h => exact h
          | 5, h => exact h
          | 6, h => exact h
          | 7, h => exact h
          | 8, h => exact h
          | 9, h => exact h
          | 10, h => exact h
          | 11, h => exact h
          | 12, h => exact h
          | 13, h => exact h
          | 14, h => exact h
          | 15, h => exact h
          | 16, h => exact h
          | 17, h => exact h
          | 18, ⟨bE, e, s0⟩ => exact ⟨bE, e, ⟨s0.1, obj_below s0.2 hb⟩⟩
          | j + 19, _ => trivial)
        clear hP
        go_cut [16] (fun pv wx => ∃ bE : Nat, pv = .pointer (some ⟨bE, 0, none⟩) ∧ Hid (N ≤ bE) ∧ Hid (Below N wr wx) ∧ Hid (wx.heap[bE]? = some (.cells #[.int .i64 (first + (k : Int)), .int .i64 (cq + ti), .int .i64 (fq + rq), .int .i64 0] 38 (0, 0))))
        case first =>
          refine wp_region_last [47, 48, 49, 50, 51, 52, 53, 54, 55, 56, 57, 58, 59, 60, 61, 62, 63, 64, 16] (slotS [47, 48, 49, 50, 51, 52, 53, 54, 55, 56, 57, 58, 59, 60, 61, 62, 63, 64, 16]) (readsS [47, 48, 49, 50, 51, 52, 53, 54, 55, 56, 57, 58, 59, 60, 61, 62, 63, 64, 16]) (RP [47, 48, 49, 50, 51, 52, 53, 54, 55, 56, 57, 58, 59, 60, 61, 62, 63, 64, 16] P) I (fun f W => ∃ bE : Nat, f 16 = .pointer (some ⟨bE, 0, none⟩) ∧ N ≤ bE ∧ Below N wr W ∧ W.heap[bE]? = some (.cells #[.int .i64 (first + (k : Int)), .int .i64 (cq + ti), .int .i64 (fq + rq), .int .i64 0] 38 (0, 0))) 19 8 rfl (by kernel_rfl) (by kernel_rfl) (by kernel_rfl) (by kernel_rfl) (HID.out _ HI0.out) (fun j f q v W hq h => RP.upd hq h) ?_ ?_ ?_
          case refine_1 =>
            intro iq hiq f W hIW hdep0
            have hiq' : iq < 19 := hiq
            have hdep : ∀ j, j < 19 → depB _ iq j = true → P j (f (slotS [47, 48, 49, 50, 51, 52, 53, 54, 55, 56, 57, 58, 59, 60, 61, 62, 63, 64, 16] j)) W := hdep0
            clear hdep0
            generalize ha1 : putsL _ [47, 48, 49, 50, 51, 52, 53, 54, 55, 56, 57, 58, 59, 60, 61, 62, 63, 64, 16] f = a1
            match iq, hiq', hdep with
            | 0, _, hdep0 =>
              have E1 : a1.tmps[1]?.getD undef = .int .i64 first := by rw [← ha1]; exact (putsL_out2 _ _ _ _ (by decide)).trans rfl
              exact wpOp_val rfl rfl (v := .int .i64 first) (w' := W) (by simp [execOp, go_sem, E1]) ⟨hIW, fun _ h => h, _, by decide, rfl, RP.set ((HPI0.out _ _).2 rfl)⟩
            | 1, _, hdep0 =>
              have E15 : a1.tmps[15]?.getD undef = .int .i64 (k : Int) := by rw [← ha1]; exact (putsL_out2 _ _ _ _ (by decide)).trans rfl
              exact wpOp_val rfl rfl (v := .int .i64 (k : Int)) (w' := W) (by simp [execOp, go_sem, E15]) ⟨hIW, fun _ h => h, _, by decide, rfl, RP.set ((HPI1.out _ _).2 rfl)⟩
            | 2, _, hdep0 =>
              have hd0 := (HPI0.out _ _).1 (hdep0 0 (by decide) (by kernel_rfl))
              have hd1 := (HPI1.out _ _).1 (hdep0 1 (by decide) (by kernel_rfl))
              have E47 : a1.tmps[47]?.getD undef = .int .i64 first := by rw [← ha1]; exact (putsL_in2 _ _ _ _ (by decide) (show 47 < 84 from by decide)).trans hd0
              have E48 : a1.tmps[48]?.getD undef = .int .i64 (k : Int) := by rw [← ha1]; exact (putsL_in2 _ _ _ _ (by decide) (show 48 < 84 from by decide)).trans hd1
              exact wpOp_val rfl rfl (v := .int .i64 (first + (k : Int))) (w' := W) (by simp [execOp, go_sem, E47, E48, hwa]) ⟨hIW, fun _ h => h, _, by decide, rfl, RP.set ((HPI2.out _ _).2 rfl)⟩
            | 3, _, hdep0 =>
              have E10 : a1.tmps[10]?.getD undef = .slice (some ⟨b1, o1, none⟩) n c1 := by rw [← ha1]; exact (putsL_out2 _ _ _ _ (by decide)).trans rfl
              exact wpOp_val rfl rfl (v := .slice (some ⟨b1, o1, none⟩) n c1) (w' := W) (by simp [execOp, go_sem, E10]) ⟨hIW, fun _ h => h, _, by decide, rfl, RP.set ((HPI3.out _ _).2 rfl)⟩
            | 4, _, hdep0 =>
              have E15 : a1.tmps[15]?.getD undef = .int .i64 (k : Int) := by rw [← ha1]; exact (putsL_out2 _ _ _ _ (by decide)).trans rfl
              exact wpOp_val rfl rfl (v := .int .i64 (k : Int)) (w' := W) (by simp [execOp, go_sem, E15]) ⟨hIW, fun _ h => h, _, by decide, rfl, RP.set ((HPI4.out _ _).2 rfl)⟩
            | 5, _, hdep0 =>
              have hd3 := (HPI3.out _ _).1 (hdep0 3 (by decide) (by kernel_rfl))
              have hd4 := (HPI4.out _ _).1 (hdep0 4 (by decide) (by kernel_rfl))
              have E50 : a1.tmps[50]?.getD undef = .slice (some ⟨b1, o1, none⟩) n c1 := by rw [← ha1]; exact (putsL_in2 _ _ _ _ (by decide) (show 50 < 84 from by decide)).trans hd3
              have E51 : a1.tmps[51]?.getD undef = .int .i64 (k : Int) := by rw [← ha1]; exact (putsL_in2 _ _ _ _ (by decide) (show 51 < 84 from by decide)).trans hd4
              exact wpOp_val rfl rfl (v := .pointer (some ⟨b1, o1 + k, none⟩)) (w' := W) (by simp [execOp, go_sem, E50, E51, hk0, hk1]) ⟨hIW, fun _ h => h, _, by decide, rfl, RP.set ((HPI5.out _ _).2 rfl)⟩
            | 6, _, hdep0 =>
              have hd5 := (HPI5.out _ _).1 (hdep0 5 (by decide) (by kernel_rfl))
              have E52 : a1.tmps[52]?.getD undef = .pointer (some ⟨b1, o1 + k, none⟩) := by rw [← ha1]; exact (putsL_in2 _ _ _ _ (by decide) (show 52 < 84 from by decide)).trans hd5
              have v53 := HC1k.out W hIW
              exact wpOp_val rfl rfl (v := .int .i64 cq) (w' := W) (by simp [execOp, go_sem, E52, v53]) ⟨hIW, fun _ h => h, _, by decide, rfl, RP.set ((HPI6.out _ _).2 rfl)⟩
            | 7, _, hdep0 =>
              have E13 : a1.tmps[13]?.getD undef = .int .i64 rq := by rw [← ha1]; exact (putsL_out2 _ _ _ _ (by decide)).trans rfl
              exact wpOp_val rfl rfl (v := .int .i64 rq) (w' := W) (by simp [execOp, go_sem, E13]) ⟨hIW, fun _ h => h, _, by decide, rfl, RP.set ((HPI7.out _ _).2 rfl)⟩
            | 8, _, hdep0 =>
              have E14 : a1.tmps[14]?.getD undef = .int .i64 pq := by rw [← ha1]; exact (putsL_out2 _ _ _ _ (by decide)).trans rfl
              exact wpOp_val rfl rfl (v := .int .i64 pq) (w' := W) (by simp [execOp, go_sem, E14]) ⟨hIW, fun _ h => h, _, by decide, rfl, RP.set ((HPI8.out _ _).2 rfl)⟩
            | 9, _, hdep0 =>
              have hd7 := (HPI7.out _ _).1 (hdep0 7 (by decide) (by kernel_rfl))
              have hd8 := (HPI8.out _ _).1 (hdep0 8 (by decide) (by kernel_rfl))
              have E54 : a1.tmps[54]?.getD undef = .int .i64 rq := by rw [← ha1]; exact (putsL_in2 _ _ _ _ (by decide) (show 54 < 84 from by decide)).trans hd7
              have E55 : a1.tmps[55]?.getD undef = .int .i64 pq := by rw [← ha1]; exact (putsL_in2 _ _ _ _ (by decide) (show 55 < 84 from by decide)).trans hd8
              refine wpOp_call rfl rfl (n := 50) (vs := #[.int .i64 rq, .int .i64 pq]) (by have := egI #[.int .i64 rq, .int .i64 pq] W; simp [execOp, E54, E55, resolve, invoke, go_sem] <;> exact this) ((HPI.out W hIW).mono fun e w' hh => (by obtain ⟨rfl, hJ', hb'⟩ := hh; exact ⟨_, rfl, (HPI9.out _ _).2 rfl, hJ', hb'⟩ : ∃ v, e = .returned v ∧ (P 9 v w' ∧ I w' ∧ Below W.heap.size W w'))) ?_
              rintro v w' ⟨hv, hI', hb'⟩
              exact ⟨hI', fun j h => HKP.out j _ _ _ hb' h, _, by decide, rfl, RP.set hv⟩
            | 10, _, hdep0 =>
              have hd6 := (HPI6.out _ _).1 (hdep0 6 (by decide) (by kernel_rfl))
              have hd9 := (HPI9.out _ _).1 (hdep0 9 (by decide) (by kernel_rfl))
              have E53 : a1.tmps[53]?.getD undef = .int .i64 cq := by rw [← ha1]; exact (putsL_in2 _ _ _ _ (by decide) (show 53 < 84 from by decide)).trans hd6
              have E56 : a1.tmps[56]?.getD undef = .int .i64 ti := by rw [← ha1]; exact (putsL_in2 _ _ _ _ (by decide) (show 56 < 84 from by decide)).trans hd9
              exact wpOp_val rfl rfl (v := .int .i64 (cq + ti)) (w' := W) (by simp [execOp, go_sem, E53, E56, hwb]) ⟨hIW, fun _ h => h, _, by decide, rfl, RP.set ((HPI10.out _ _).2 rfl)⟩
            | 11, _, hdep0 =>
              have E11 : a1.tmps[11]?.getD undef = .slice (some ⟨b2, o2, none⟩) n c2 := by rw [← ha1]; exact (putsL_out2 _ _ _ _ (by decide)).trans rfl
              exact wpOp_val rfl rfl (v := .slice (some ⟨b2, o2, none⟩) n c2) (w' := W) (by simp [execOp, go_sem, E11]) ⟨hIW, fun _ h => h, _, by decide, rfl, RP.set ((HPI11.out _ _).2 rfl)⟩
            | 12, _, hdep0 =>
              have E15 : a1.tmps[15]?.getD undef = .int .i64 (k : Int) := by rw [← ha1]; exact (putsL_out2 _ _ _ _ (by decide)).trans rfl
              exact wpOp_val rfl rfl (v := .int .i64 (k : Int)) (w' := W) (by simp [execOp, go_sem, E15]) ⟨hIW, fun _ h => h, _, by decide, rfl, RP.set ((HPI12.out _ _).2 rfl)⟩
            | 13, _, hdep0 =>
              have hd11 := (HPI11.out _ _).1 (hdep0 11 (by decide) (by kernel_rfl))
              have hd12 := (HPI12.out _ _).1 (hdep0 12 (by decide) (by kernel_rfl))
              have E58 : a1.tmps[58]?.getD undef = .slice (some ⟨b2, o2, none⟩) n c2 := by rw [← ha1]; exact (putsL_in2 _ _ _ _ (by decide) (show 58 < 84 from by decide)).trans hd11
              have E59 : a1.tmps[59]?.getD undef = .int .i64 (k : Int) := by rw [← ha1]; exact (putsL_in2 _ _ _ _ (by decide) (show 59 < 84 from by decide)).trans hd12
              exact wpOp_val rfl rfl (v := .pointer (some ⟨b2, o2 + k, none⟩)) (w' := W) (by simp [execOp, go_sem, E58, E59, hk0, hk1]) ⟨hIW, fun _ h => h, _, by decide, rfl, RP.set ((HPI13.out _ _).2 rfl)⟩
            | 14, _, hdep0 =>
              have hd13 := (HPI13.out _ _).1 (hdep0 13 (by decide) (by kernel_rfl))
              have E60 : a1.tmps[60]?.getD undef = .pointer (some ⟨b2, o2 + k, none⟩) := by rw [← ha1]; exact (putsL_in2 _ _ _ _ (by decide) (show 60 < 84 from by decide)).trans hd13
              have v61 := HC2k.out W hIW
              exact wpOp_val rfl rfl (v := .int .i64 fq) (w' := W) (by simp [execOp, go_sem, E60, v61]) ⟨hIW, fun _ h => h, _, by decide, rfl, RP.set ((HPI14.out _ _).2 rfl)⟩
            | 15, _, hdep0 =>
              have E13 : a1.tmps[13]?.getD undef = .int .i64 rq := by rw [← ha1]; exact (putsL_out2 _ _ _ _ (by decide)).trans rfl
              exact wpOp_val rfl rfl (v := .int .i64 rq) (w' := W) (by simp [execOp, go_sem, E13]) ⟨hIW, fun _ h => h, _, by decide, rfl, RP.set ((HPI15.out _ _).2 rfl)⟩
            | 16, _, hdep0 =>
              have hd14 := (HPI14.out _ _).1 (hdep0 14 (by decide) (by kernel_rfl))
              have hd15 := (HPI15.out _ _).1 (hdep0 15 (by decide) (by kernel_rfl))
              have E61 : a1.tmps[61]?.getD undef = .int .i64 fq := by rw [← ha1]; exact (putsL_in2 _ _ _ _ (by decide) (show 61 < 84 from by decide)).trans hd14
              have E62 : a1.tmps[62]?.getD undef = .int .i64 rq := by rw [← ha1]; exact (putsL_in2 _ _ _ _ (by decide) (show 62 < 84 from by decide)).trans hd15
              exact wpOp_val rfl rfl (v := .int .i64 (fq + rq)) (w' := W) (by simp [execOp, go_sem, E61, E62, hwc]) ⟨hIW, fun _ h => h, _, by decide, rfl, RP.set ((HPI16.out _ _).2 rfl)⟩
            | 17, _, hdep0 =>
              have hd2 := (HPI2.out _ _).1 (hdep0 2 (by decide) (by kernel_rfl))
              have hd10 := (HPI10.out _ _).1 (hdep0 10 (by decide) (by kernel_rfl))
              have hd16 := (HPI16.out _ _).1 (hdep0 16 (by decide) (by kernel_rfl))
              have E49 : a1.tmps[49]?.getD undef = .int .i64 (first + (k : Int)) := by rw [← ha1]; exact (putsL_in2 _ _ _ _ (by decide) (show 49 < 84 from by decide)).trans hd2
              have E57 : a1.tmps[57]?.getD undef = .int .i64 (cq + ti) := by rw [← ha1]; exact (putsL_in2 _ _ _ _ (by decide) (show 57 < 84 from by decide)).trans hd10
              have E63 : a1.tmps[63]?.getD undef = .int .i64 (fq + rq) := by rw [← ha1]; exact (putsL_in2 _ _ _ _ (by decide) (show 63 < 84 from by decide)).trans hd16
              exact wpOp_val rfl rfl (v := .agg #[.int .i64 (first + (k : Int)), .int .i64 (cq + ti), .int .i64 (fq + rq), .int .i64 0]) (w' := W) (by simp [execOp, go_sem, E49, E57, E63]) ⟨hIW, fun _ h => h, _, by decide, rfl, RP.set ((HPI17.out _ _).2 rfl)⟩
            | 18, _, hdep0 =>
              exact wpOp_val rfl rfl (v := .pointer (some ⟨W.heap.size, 0, none⟩)) (w' := W.alloc (.cells #[.int .i64 0, .int .i64 0, .int .i64 0, .int .i64 0] 38)) (by simp [execOp, go_sem]) ⟨(HIA.out _ _ hIW), fun j h => HKP.out j _ _ _ (below_alloc _ _) h, _, by decide, rfl, RP.set ((HPI18.out _ _).2 ⟨_, rfl, HNN.out W hIW, heap_alloc_new _ _⟩)⟩
            | iq + 19, h, _ => exact absurd h (by omega)
          case refine_2 =>
            intro f W hIW hdep0
            have hdep : ∀ j, j < 19 → P j (f (slotS [47, 48, 49, 50, 51, 52, 53, 54, 55, 56, 57, 58, 59, 60, 61, 62, 63, 64, 16] j)) W := hdep0
            clear hdep0
            generalize ha1 : putsL _ [47, 48, 49, 50, 51, 52, 53, 54, 55, 56, 57, 58, 59, 60, 61, 62, 63, 64, 16] f = a1
            obtain ⟨bE, q18, r18_0⟩ := ((HPI18.out _ _).1 (hdep 18 (by decide)))
            have E16 : a1.tmps[16]?.getD undef = .pointer (some ⟨bE, 0, none⟩) := by rw [← ha1]; exact (putsL_in2 _ _ _ _ (by decide) (show 16 < 84 from by decide)).trans q18
            have E64 : a1.tmps[64]?.getD undef = .agg #[.int .i64 (first + (k : Int)), .int .i64 (cq + ti), .int .i64 (fq + rq), .int .i64 0] := by rw [← ha1]; exact (putsL_in2 _ _ _ _ (by decide) (show 64 < 84 from by decide)).trans ((HPI17.out _ _).1 (hdep 17 (by decide)))
            obtain ⟨hbE1, hbE2⟩ := r18_0
            have e16 : f 16 = .pointer (some ⟨bE, 0, none⟩) := q18
            have p0 := obj_cell hbE2 0
            have p1 := obj_cell hbE2 1
            have p2 := obj_cell hbE2 2
            have p3 := obj_cell hbE2 3
            have f0 := obj_free hbE2 0
            have f1 := obj_free hbE2 1
            have f2 := obj_free hbE2 2
            have f3 := obj_free hbE2 3
            simp at p0 p1 p2 p3
            exact wpOp_skip rfl rfl (w' := put4 W bE (.int .i64 (first + (k : Int))) (.int .i64 (cq + ti)) (.int .i64 (fq + rq)) (.int .i64 0)) (by simp [execOp, go_sem, E16, E64, p0, p1, p2, p3, f0, f1, f2, f3, put4]) ⟨rfl, bE, e16, hbE1, put4_below (HIO.out W hIW) hbE1 _ _ _ _, put4_at hbE2 rfl _ _ _ _⟩
          case refine_3 =>
            intro f W hIW
            simp only [putsL, List.foldl_cons, List.foldl_nil, Act.put, List.setIfInBounds_toArray, List.set_cons_zero, List.set_cons_succ]
            obtain ⟨bE, h1, h2, h3, h4⟩ := hIW
            go_wp2
            go_meet
            exact ⟨bE, (by first | exact h1 | rfl), Lib.hid h2, Lib.hid h3, Lib.hid h4⟩
        case rest =>
          obtain ⟨bE, rfl, HBE, HBN, HBX⟩ := hcut
          clear HC1k HC2k HPI HID HIA HI0 HIB
          have HBV : Hid (Below w.heap.size w wc) := Lib.hid (HB9.out.trans (((HBW.out.trans (HBN.out.mono HNW.out))).mono HB9.out.size))
          have hex := HBX.out
          have p0 := obj_cell hex 0
          have p1 := obj_cell hex 1
          have p2 := obj_cell hex 2
          have p3 := obj_cell hex 3
          have cr : wc.cell? ⟨bq, oq + k, none⟩ = some (.int .i64 (rateAt rates (k + 1))) := (HBV.out.cell (p := ⟨bq, oq + k, none⟩) hbq).trans hcqr
          simp at p0 p1 p2 p3
          clear hex hcqr
          generalize wc = w10 at *
          have hXD := obj_below HX9.out (HBW.out.trans (HBN.out.mono HNW.out))
          have e0 := obj_cell hXD 0
          have e1 := obj_cell hXD 1
          have e2 := obj_cell hXD 2
          simp at e0 e1 e2
          clear hXD
          have hdw : Below w10.heap.size w10 w10.drew := (Below.refl _ _).drew
          have HLT := Lib.hid (HPL.out w10.drew (HBV.out.trans (hdw.mono HBV.out.size)))
          go_upto_region 16 with fail
          go_cut [13, 14] (fun av qv wx => av = .int .i64 (fq + rq) ∧ qv = .int .i64 (rateAt rates (k + 1)) ∧ wx = w10.drew)
          case first =>
            go_region
            all_goals
              go_wp2
              go_meet
              exact ⟨rfl, rfl, rfl⟩
          case rest =>
            obtain ⟨rfl, rfl, rfl⟩ := hcut
            clear cr
            go_wp2_with fail
            refine HLT.out.mono ?_
            rintro e w12 ⟨rfl, hb12⟩
            have hb := hdw.trans (hb12.mono hdw.size)
            have HB12 := Lib.hid hb
            have HX12 := Lib.hid (obj_below HBX.out hb)
            have hx12 := HX12.out
            have g0 := obj_cell hx12 0
            have g1 := obj_cell hx12 1
            have g2 := obj_cell hx12 2
            have g3 := obj_cell hx12 3
            have g4 := obj_free hx12 3
            simp at g0 g1 g2 g3
            obtain ⟨w13, hw13⟩ : ∃ W, W = w12.setCell ⟨bE, 3, none⟩ (.int .i64 (lq + (fq + rq))) := ⟨_, rfl⟩
            have HX13 : Hid (w13.heap[bE]? = some (.cells #[.int .i64 (first + (k : Int)), .int .i64 (cq + ti), .int .i64 (fq + rq), .int .i64 (lq + (fq + rq))] 38 (0, 0))) := Lib.hid (by
              rw [hw13]
              have := obj_set hx12 3 (.int .i64 (lq + (fq + rq)))
              simpa using this)
            have HR13 : Hid (w13.ownsRow w9.heap.size 38 4 (.slice sa k scap) k (cellsL srvC (projL r first rates k))) := Lib.hid (by
              rw [hw13]
              refine (ownsRow_below (ownsRow_below HOW.out (by have := HBN.out; rw [HNE.out] at this; exact this)) hb).kept (setCell_grown _ _) (.inr fun e => ?_)
              have h1 := HOW.out.lt bE (by first | exact e | exact e.symm)
              have := HBE.out
              have := HNE.out
              omega)
            have HB13 : Hid (Below w9.heap.size w9 w13) := Lib.hid (by
              rw [hw13]
              exact ((HBW.out.trans (HBN.out.mono HNW.out)).trans (hb.mono ((HBW.out.trans (HBN.out.mono HNW.out)).size))).setCell (by show w9.heap.size ≤ bE; have := HBE.out; have := HNW.out; omega) _)
            clear hx12 hb hb12 hdw p0 p1 p2 p3 e0 e1 e2 HLT
            go_upto_region 18 with fail
            rw [← hw13]
            clear hw13 g0 g1 g2 g3 g4 HX12 HB12
            have hx13 := HX13.out
            have p0 := obj_cell hx13 0
            have p1 := obj_cell hx13 1
            have p2 := obj_cell hx13 2
            have p3 := obj_cell hx13 3
            simp at p0 p1 p2 p3
            have hs13 := HB13.out.size
            go_wp2_with (at_builtin; refine wpList_append_own _ rfl _ _ 32 rfl w9.heap.size 38 i0 (.agg #[.int .i64 0, .int .i64 0, .int .i64 0, .int .i64 0]) 4 32 Try.underlying32 hi0 hz0 hz1 hz2 rfl (by decide) _ _ _ rfl (HR13.out.alloc _) ⟨w13.heap.size, 0, none⟩ 1 1 (srvC ⟨first + (k : Int), cq + ti, fq + rq, lq + (fq + rq)⟩) rfl rfl (new_cells _ _ _ _ rfl) (srvF.one _) (by unfold maxLen; omega) (by omega) (by simp; omega) ?_; intro v' w14 hown4 hgr4 _)
            have HRN : Hid (w14.ownsRow w9.heap.size 38 4 v' (k + 1) (cellsL srvC (projL r first rates (k + 1)))) := Lib.hid (by
              rw [projL_snoc, HSRV.out, ← cellsL_snoc]
              exact hown4)
            have HBN2 : Hid (Below w9.heap.size w9 w14) := Lib.hid ((HB13.out.alloc hs13 _).grown hgr4 (by simp; omega) fun j e => ownBlock_le HR13.out j e)
            clear hown4 hgr4
            go_roundw
            case rel => exact ⟨k + 1, by first | rfl | go_num, by omega, by rw [HRQ.out], rfl, HRN, HBN2⟩
            case measure => simp [RowKit.intOf]; omega
      · obtain rfl : k = n := by omega
        have HE := Lib.hid (ownsRow_mono HOW.out HB9.out.size)
        have HBE := Lib.hid (HB9.out.trans (HBW.out.mono HB9.out.size))
        go_wp2
        go_ret2
        exact ⟨_, rfl, HE.out, HBE.out⟩

end Go.Proofs.Ytblidmkkbcobgaa
