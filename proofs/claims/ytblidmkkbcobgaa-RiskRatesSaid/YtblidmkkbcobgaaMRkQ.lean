/- What another path of rates costs; greater rates never cost less: for every tape. -/
import Derived.Test.YtblidmkkbcobgaaMRkS
import Derived.Test.YtblidmkkbcobgaaMRkR
import Derived.Test.YtblidmkkbcobgaaMRegInv
import Derived.Shelf.RegionOpenPlain
set_option linter.unusedSimpArgs false
set_option linter.unusedVariables false
set_option linter.unusedSimpArgs false
set_option linter.unusedVariables false
namespace Go.Proofs.Ytblidmkkbcobgaa
open Go.RowKit Go.Lib Go.Proofs

set_option maxRecDepth 100000 in
set_option maxHeartbeats 16000000 in
theorem riCost_ok (r : Reg) (x y z vr : Value) (first dd : Int) (rates : List Int) (w : World) (h : RegOk r) (hr : RegAt w x y z r) (hv : ListAt intC 1 w vr rates) (hf : 0 ≤ first ∧ first ≤ 100) (hn : 1 ≤ rates.length ∧ rates.length ≤ 60) (hq : RatesOk rates) (hd : -20000 ≤ dd ∧ dd ≤ 20000) :
    Calls Try.prog 17 #[.agg #[x, y, z], .int .i64 first, vr, .int .i64 dd] w fun e w' => e = .returned (.tuple #[.int .i64 (costM r first rates (rates.map (shiftM dd)) rates.length), .int .i64 0]) ∧ Below w.heap.size w w' := by
  obtain ⟨a0, n0, c0, b0, m0, d0, e0, k0, f0, rfl, rfl, rfl⟩ := hr.slices
  obtain ⟨SL, hSL⟩ : ∃ SL, SL = rates.map (shiftM dd) := ⟨_, rfl⟩
  have hSR : RatesOk SL := by rw [hSL]; exact shift_in dd rates
  have hSN : SL.length = rates.length := by rw [hSL]; simp
  obtain ⟨vo, vc, hvr, hvc, -⟩ := hv.shape intF
  have HB0 := Lib.hid (below_alloc w (.cells #[.slice a0 n0 c0, .slice b0 m0 d0, .slice e0 k0 f0] 29))
  have HX0 := Lib.hid (heap_alloc_new w (.cells #[.slice a0 n0 c0, .slice b0 m0 d0, .slice e0 k0 f0] 29))
  obtain ⟨bR, hbR⟩ : ∃ b, b = w.heap.size := ⟨_, rfl⟩
  obtain ⟨w0, hw0⟩ : ∃ w0, w0 = w.alloc (.cells #[.slice a0 n0 c0, .slice b0 m0 d0, .slice e0 k0 f0] 29) := ⟨_, rfl⟩
  rw [← hw0] at HB0 HX0
  rw [← hbR] at HX0
  have HP0 := Lib.hid (fun (v : Value) (l : List Int) W (hW : Below w.heap.size w W) (hl : ListAt intC 1 W v l) (h1 : 1 ≤ l.length ∧ l.length ≤ 60) (h2 : RatesOk l) => riProject_ok r _ _ _ v first l W h (hr.below hW) hl hf h1 h2)
  have HS0 := Lib.hid (fun W (hW : Below w.heap.size w W) => rishifted_ok rates dd vr W (hv.below hW) hn hq hd)
  have HP1 := Lib.hid (HP0.out vr rates w0 HB0.out (hv.below HB0.out) hn hq)
  have HRK := Lib.hid h
  have HQ := Lib.hid hq
  have HSR := Lib.hid hSR
  unfold ProjPost at HP0 HP1
  rw [← hSL] at HS0 ⊢
  obtain ⟨n, hnn⟩ : ∃ n, n = rates.length := ⟨_, rfl⟩
  have HSN : Hid (SL.length = n) := Lib.hid (hSN.trans hnn.symm)
  rw [← hnn] at HP1 HS0 hn hvc hvr ⊢
  have hx := HX0.out
  have s0 := obj_cell hx 0
  have s1 := obj_cell hx 1
  have s2 := obj_cell hx 2
  simp at s0 s1 s2
  clear h hr hv hq hSR hSN hSL hx hnn
  subst hvr
  obtain ⟨vr, hvr⟩ : ∃ vr : Value, vr = .slice vo n vc := ⟨_, rfl⟩
  rw [← hvr] at HS0 HP1
  have HVR := Lib.hid hvr
  rw [hvr] at HP1
  clear hvr
  go_enter Try.func17, Try.ntmps17
  go_upto_region 1 with fail
  rw [← hw0, ← hbR]
  clear hw0 hbR
  go_wp2_with fail
  refine HP1.out.mono ?_
  rintro e w1 ⟨u1, rfl, ho1, hb1⟩
  have HL1 : Hid (ListAt srvC 4 w1 u1 (projL r first rates n)) := Lib.hid (by unfold ListAt; rw [projL_len]; exact RowG.owns ho1)
  obtain ⟨a1, c1, rfl, hc1, -⟩ := owns_gen ho1
  have HX1 := Lib.hid (obj_below HX0.out hb1)
  have HB1 := Lib.hid (HB0.out.trans (hb1.mono HB0.out.size))
  clear ho1 hb1 s0 s1 s2 HX0 HB0 HP1
  go_upto_region 6 with fail
  obtain ⟨J, hJ⟩ : ∃ J, J = fun W : World => Below w1.heap.size w1 W := ⟨_, rfl⟩
  have HJO : Hid (∀ W, J W → Below w1.heap.size w1 W) := Lib.hid fun W hW => by rw [hJ] at hW; exact hW
  have HJI : Hid (∀ W, Below w1.heap.size w1 W → J W) := Lib.hid fun W hW => by rw [hJ]; exact hW
  have HJD : Hid (∀ W, J W → J W.drew) := Lib.hid fun W hW => HJI.out _ ((HJO.out W hW).drew)
  have HJ0 : Hid (J w1) := Lib.hid (HJI.out _ (Below.refl _ _))
  have HJB : Hid (∀ W W', J W → Below W.heap.size W W' → J W') := Lib.hid fun W W' hW hb => HJI.out _ ((HJO.out W hW).trans (hb.mono (HJO.out W hW).size))
  have HJW : Hid (∀ W, J W → Below w.heap.size w W) := Lib.hid fun W hW => HB1.out.trans ((HJO.out W hW).mono HB1.out.size)
  have HCR : Hid (∀ W, J W → ∀ j, W.cell? ⟨bR, j, none⟩ = #[.slice a0 n0 c0, .slice b0 m0 d0, .slice e0 k0 f0][j]?) := Lib.hid fun W hW j => obj_cell (obj_below HX1.out (HJO.out W hW)) j
  have HSH : Hid (∀ W, J W → Calls Try.prog 19 #[vr, .int .i64 dd] W fun e w' => ∃ sv, e = .returned sv ∧ ListAt intC 1 w' sv SL ∧ J w' ∧ Below W.heap.size W w') := Lib.hid fun W hW =>
    (HS0.out W (HJW.out W hW)).mono fun e w' ⟨u, h1, h2, h3⟩ => ⟨u, h1, by unfold ListAt; rw [HSN.out, cellsL_int]; exact RowG.owns h2, HJB.out _ _ hW h3, h3⟩
  have HPJ : Hid (∀ (sv : Value) W, J W → ListAt intC 1 W sv SL → Calls Try.prog 13 #[.agg #[.slice a0 n0 c0, .slice b0 m0 d0, .slice e0 k0 f0], .int .i64 first, sv] W fun e w' => ∃ pu, e = .returned (.tuple #[pu, .int .i64 0]) ∧ ListAt srvC 4 w' pu (projL r first SL n) ∧ J w' ∧ Below W.heap.size W w') := Lib.hid fun sv W hW hl =>
    (HP0.out sv SL W (HJW.out W hW) hl (by rw [HSN.out]; exact hn) HSR.out).mono fun e w' ⟨u, h1, h2, h3⟩ => ⟨u, h1, by rw [HSN.out] at h2; unfold ListAt; rw [projL_len]; exact RowG.owns h2, HJB.out _ _ hW h3, h3⟩
  have egS := enters_of Try.func19 (by kernel_rfl) rfl
  have egP := enters_of Try.func13 (by kernel_rfl) rfl
  rw [← HVR.out]
  clear hJ HJI HS0 HP0
  obtain ⟨P, hP⟩ : ∃ P : Nat → Value → World → Prop, P = fun j v W => match j with | 0 => (v = .agg #[.slice a0 n0 c0, .slice b0 m0 d0, .slice e0 k0 f0]) | 1 => (v = .int .i64 first) | 2 => (v = vr) | 3 => (v = .int .i64 dd) | 4 => (∃ sv, v = sv ∧ ListAt intC 1 W sv SL) | 5 => (∃ pu, v = .tuple #[pu, .int .i64 0] ∧ ListAt srvC 4 W pu (projL r first SL n)) | 6 => (∃ pu, v = .tuple #[pu, .int .i64 0] ∧ ListAt srvC 4 W pu (projL r first SL n)) | 7 => (∃ pu, v = pu ∧ ListAt srvC 4 W pu (projL r first SL n)) | 8 => (v = .int .i64 0) | 9 => (∃ pu, v = pu ∧ ListAt srvC 4 W pu (projL r first SL n)) | 10 => (v = .int .i64 0) | _ => True := ⟨_, rfl⟩
  have HPI0 : Hid (∀ v W, P 0 v W ↔ (v = .agg #[.slice a0 n0 c0, .slice b0 m0 d0, .slice e0 k0 f0])) := Lib.hid fun v W => by rw [hP] <;> exact Iff.rfl
  have HPI1 : Hid (∀ v W, P 1 v W ↔ (v = .int .i64 first)) := Lib.hid fun v W => by rw [hP] <;> exact Iff.rfl
  have HPI2 : Hid (∀ v W, P 2 v W ↔ (v = vr)) := Lib.hid fun v W => by rw [hP] <;> exact Iff.rfl
  have HPI3 : Hid (∀ v W, P 3 v W ↔ (v = .int .i64 dd)) := Lib.hid fun v W => by rw [hP] <;> exact Iff.rfl
  have HPI4 : Hid (∀ v W, P 4 v W ↔ (∃ sv, v = sv ∧ ListAt intC 1 W sv SL)) := Lib.hid fun v W => by rw [hP] <;> exact Iff.rfl
  have HPI5 : Hid (∀ v W, P 5 v W ↔ (∃ pu, v = .tuple #[pu, .int .i64 0] ∧ ListAt srvC 4 W pu (projL r first SL n))) := Lib.hid fun v W => by rw [hP] <;> exact Iff.rfl
  have HPI6 : Hid (∀ v W, P 6 v W ↔ (∃ pu, v = .tuple #[pu, .int .i64 0] ∧ ListAt srvC 4 W pu (projL r first SL n))) := Lib.hid fun v W => by rw [hP] <;> exact Iff.rfl
  have HPI7 : Hid (∀ v W, P 7 v W ↔ (∃ pu, v = pu ∧ ListAt srvC 4 W pu (projL r first SL n))) := Lib.hid fun v W => by rw [hP] <;> exact Iff.rfl
  have HPI8 : Hid (∀ v W, P 8 v W ↔ (v = .int .i64 0)) := Lib.hid fun v W => by rw [hP] <;> exact Iff.rfl
  have HPI9 : Hid (∀ v W, P 9 v W ↔ (∃ pu, v = pu ∧ ListAt srvC 4 W pu (projL r first SL n))) := Lib.hid fun v W => by rw [hP] <;> exact Iff.rfl
  have HPI10 : Hid (∀ v W, P 10 v W ↔ (v = .int .i64 0)) := Lib.hid fun v W => by rw [hP] <;> exact Iff.rfl
  have HKP : Hid (∀ (j : Nat) v W W', Below W.heap.size W W' → P j v W → P j v W') := Lib.hid (by
    rw [hP]
    intro j v W W' hb h
    match j, h with
    | 0, h => exact h
    | 1, h => exact h
    | 2, h => exact h
    | 3, h => exact h
    | 4, ⟨sv, e, s0⟩ => exact ⟨sv, e, s0.below hb⟩
    | 5, ⟨pu, e, s0⟩ => exact ⟨pu, e, s0.below hb⟩
    | 6, ⟨pu, e, s0⟩ => exact ⟨pu, e, s0.below hb⟩
    | 7, ⟨pu, e, s0⟩ => exact ⟨pu, e, s0.below hb⟩
    | 8, h => exact h
    | 9, ⟨pu, e, s0⟩ => exact ⟨pu, e, s0.below hb⟩
    | 10, h => exact h
    | j + 11, _ => trivial)
  clear hP
  go_cut [12, 13] (fun lv ev wx => ev = .int .i64 0 ∧ Hid (J wx) ∧ Hid (ListAt srvC 4 wx lv (projL r first SL n)))
  case first =>
    refine wp_region_props [33, 34, 35, 36, 37, 38, 32, 39, 40, 12, 13] (slotS [33, 34, 35, 36, 37, 38, 32, 39, 40, 12, 13]) (readsS [33, 34, 35, 36, 37, 38, 32, 39, 40, 12, 13]) (RP [33, 34, 35, 36, 37, 38, 32, 39, 40, 12, 13] P) J (by kernel_rfl) (by kernel_rfl) (by kernel_rfl) (HJD.out _ HJ0.out) (fun j f q v W hq h => RP.upd hq h) ?_ ?_
    case refine_1 =>
      intro iq hiq f W hIW hdep0
      have hiq' : iq < 11 := hiq
      have hdep : ∀ j, depB _ iq j = true → P j (f (slotS [33, 34, 35, 36, 37, 38, 32, 39, 40, 12, 13] j)) W := hdep0
      clear hdep0
      generalize ha1 : putsL _ [33, 34, 35, 36, 37, 38, 32, 39, 40, 12, 13] f = a1
      match iq, hiq', hdep with
      | 0, _, hdep0 =>
        have E4 : a1.tmps[4]?.getD undef = .pointer (some ⟨bR, 0, none⟩) := by rw [← ha1]; exact (putsL_out2 _ _ _ _ (by decide)).trans rfl
        have v0 : W.cell? ⟨bR, 0, none⟩ = some (.slice a0 n0 c0) := by simpa using HCR.out W hIW 0
        have v1 : W.cell? ⟨bR, 1, none⟩ = some (.slice b0 m0 d0) := by simpa using HCR.out W hIW 1
        have v2 : W.cell? ⟨bR, 2, none⟩ = some (.slice e0 k0 f0) := by simpa using HCR.out W hIW 2
        exact wpOp_val rfl rfl (v := .agg #[.slice a0 n0 c0, .slice b0 m0 d0, .slice e0 k0 f0]) (w' := W) (by simp [execOp, go_sem, E4, v0, v1, v2]) ⟨hIW, fun _ h => h, Or.inl ⟨_, by decide, rfl, RP.set ((HPI0.out _ _).2 rfl)⟩⟩
      | 1, _, hdep0 =>
        have E1 : a1.tmps[1]?.getD undef = .int .i64 first := by rw [← ha1]; exact (putsL_out2 _ _ _ _ (by decide)).trans rfl
        exact wpOp_val rfl rfl (v := .int .i64 first) (w' := W) (by simp [execOp, go_sem, E1]) ⟨hIW, fun _ h => h, Or.inl ⟨_, by decide, rfl, RP.set ((HPI1.out _ _).2 rfl)⟩⟩
      | 2, _, hdep0 =>
        have E2 : a1.tmps[2]?.getD undef = vr := by rw [← ha1]; exact (putsL_out2 _ _ _ _ (by decide)).trans rfl
        exact wpOp_val rfl rfl (v := vr) (w' := W) (by simp [execOp, go_sem, E2]) ⟨hIW, fun _ h => h, Or.inl ⟨_, by decide, rfl, RP.set ((HPI2.out _ _).2 rfl)⟩⟩
      | 3, _, hdep0 =>
        have E3 : a1.tmps[3]?.getD undef = .int .i64 dd := by rw [← ha1]; exact (putsL_out2 _ _ _ _ (by decide)).trans rfl
        exact wpOp_val rfl rfl (v := .int .i64 dd) (w' := W) (by simp [execOp, go_sem, E3]) ⟨hIW, fun _ h => h, Or.inl ⟨_, by decide, rfl, RP.set ((HPI3.out _ _).2 rfl)⟩⟩
      | 4, _, hdep0 =>
        have hd2 := (HPI2.out _ _).1 (hdep0 2 (by kernel_rfl))
        have hd3 := (HPI3.out _ _).1 (hdep0 3 (by kernel_rfl))
        have E35 : a1.tmps[35]?.getD undef = vr := by rw [← ha1]; exact (putsL_in2 _ _ _ _ (by decide) (show 35 < 61 from by decide)).trans hd2
        have E36 : a1.tmps[36]?.getD undef = .int .i64 dd := by rw [← ha1]; exact (putsL_in2 _ _ _ _ (by decide) (show 36 < 61 from by decide)).trans hd3
        refine wpOp_call rfl rfl (n := 19) (vs := #[vr, .int .i64 dd]) (by have := egS #[vr, .int .i64 dd] W; simp [execOp, E35, E36, resolve, invoke, go_sem] <;> exact this) ((HSH.out W hIW).mono fun e w' hh => (by obtain ⟨sv, rfl, p0, hJ', hb'⟩ := hh; exact ⟨_, rfl, (HPI4.out _ _).2 ⟨_, rfl, p0⟩, hJ', hb'⟩ : ∃ v, e = .returned v ∧ (P 4 v w' ∧ J w' ∧ Below W.heap.size W w'))) ?_
        rintro v w' ⟨hv, hI', hb'⟩
        exact ⟨hI', fun j h => HKP.out j _ _ _ hb' h, Or.inl ⟨_, by decide, rfl, RP.set hv⟩⟩
      | 5, _, hdep0 =>
        have hd0 := (HPI0.out _ _).1 (hdep0 0 (by kernel_rfl))
        have hd1 := (HPI1.out _ _).1 (hdep0 1 (by kernel_rfl))
        have hd4 := (HPI4.out _ _).1 (hdep0 4 (by kernel_rfl))
        have E33 : a1.tmps[33]?.getD undef = .agg #[.slice a0 n0 c0, .slice b0 m0 d0, .slice e0 k0 f0] := by rw [← ha1]; exact (putsL_in2 _ _ _ _ (by decide) (show 33 < 61 from by decide)).trans hd0
        have E34 : a1.tmps[34]?.getD undef = .int .i64 first := by rw [← ha1]; exact (putsL_in2 _ _ _ _ (by decide) (show 34 < 61 from by decide)).trans hd1
        obtain ⟨sv, q4, r4_0⟩ := hd4
        have E37 : a1.tmps[37]?.getD undef = sv := by rw [← ha1]; exact (putsL_in2 _ _ _ _ (by decide) (show 37 < 61 from by decide)).trans q4
        refine wpOp_call rfl rfl (n := 13) (vs := #[.agg #[.slice a0 n0 c0, .slice b0 m0 d0, .slice e0 k0 f0], .int .i64 first, sv]) (by have := egP #[.agg #[.slice a0 n0 c0, .slice b0 m0 d0, .slice e0 k0 f0], .int .i64 first, sv] W; simp [execOp, E33, E34, E37, resolve, invoke, go_sem] <;> exact this) ((HPJ.out _ W hIW r4_0).mono fun e w' hh => (by obtain ⟨pu, rfl, p0, hJ', hb'⟩ := hh; exact ⟨_, rfl, (HPI5.out _ _).2 ⟨_, rfl, p0⟩, hJ', hb'⟩ : ∃ v, e = .returned v ∧ (P 5 v w' ∧ J w' ∧ Below W.heap.size W w'))) ?_
        rintro v w' ⟨hv, hI', hb'⟩
        exact ⟨hI', fun j h => HKP.out j _ _ _ hb' h, Or.inl ⟨_, by decide, rfl, RP.set hv⟩⟩
      | 6, _, hdep0 =>
        have hd5 := (HPI5.out _ _).1 (hdep0 5 (by kernel_rfl))
        obtain ⟨pu, q5, r5_0⟩ := hd5
        have E38 : a1.tmps[38]?.getD undef = .tuple #[pu, .int .i64 0] := by rw [← ha1]; exact (putsL_in2 _ _ _ _ (by decide) (show 38 < 61 from by decide)).trans q5
        exact wpOp_val rfl rfl (v := .tuple #[pu, .int .i64 0]) (w' := W) (by simp [execOp, go_sem, E38]) ⟨hIW, fun _ h => h, Or.inl ⟨_, by decide, rfl, RP.set ((HPI6.out _ _).2 ⟨_, rfl, r5_0⟩)⟩⟩
      | 7, _, hdep0 =>
        have hd6 := (HPI6.out _ _).1 (hdep0 6 (by kernel_rfl))
        obtain ⟨pu, q6, r6_0⟩ := hd6
        have E32 : a1.tmps[32]?.getD undef = .tuple #[pu, .int .i64 0] := by rw [← ha1]; exact (putsL_in2 _ _ _ _ (by decide) (show 32 < 61 from by decide)).trans q6
        exact wpOp_val rfl rfl (v := pu) (w' := W) (by simp [execOp, go_sem, E32]) ⟨hIW, fun _ h => h, Or.inl ⟨_, by decide, rfl, RP.set ((HPI7.out _ _).2 ⟨_, rfl, r6_0⟩)⟩⟩
      | 8, _, hdep0 =>
        have hd6 := (HPI6.out _ _).1 (hdep0 6 (by kernel_rfl))
        obtain ⟨pu, q6, r6_0⟩ := hd6
        have E32 : a1.tmps[32]?.getD undef = .tuple #[pu, .int .i64 0] := by rw [← ha1]; exact (putsL_in2 _ _ _ _ (by decide) (show 32 < 61 from by decide)).trans q6
        exact wpOp_val rfl rfl (v := .int .i64 0) (w' := W) (by simp [execOp, go_sem, E32]) ⟨hIW, fun _ h => h, Or.inl ⟨_, by decide, rfl, RP.set ((HPI8.out _ _).2 rfl)⟩⟩
      | 9, _, hdep0 =>
        have hd7 := (HPI7.out _ _).1 (hdep0 7 (by kernel_rfl))
        obtain ⟨pu, q7, r7_0⟩ := hd7
        have E39 : a1.tmps[39]?.getD undef = pu := by rw [← ha1]; exact (putsL_in2 _ _ _ _ (by decide) (show 39 < 61 from by decide)).trans q7
        exact wpOp_val rfl rfl (v := pu) (w' := W) (by simp [execOp, go_sem, E39]) ⟨hIW, fun _ h => h, Or.inl ⟨_, by decide, rfl, RP.set ((HPI9.out _ _).2 ⟨_, rfl, r7_0⟩)⟩⟩
      | 10, _, hdep0 =>
        have hd8 := (HPI8.out _ _).1 (hdep0 8 (by kernel_rfl))
        have E40 : a1.tmps[40]?.getD undef = .int .i64 0 := by rw [← ha1]; exact (putsL_in2 _ _ _ _ (by decide) (show 40 < 61 from by decide)).trans hd8
        exact wpOp_val rfl rfl (v := .int .i64 0) (w' := W) (by simp [execOp, go_sem, E40]) ⟨hIW, fun _ h => h, Or.inl ⟨_, by decide, rfl, RP.set ((HPI10.out _ _).2 rfl)⟩⟩
      | iq + 11, h, _ => exact absurd h (by omega)
    case refine_2 =>
      intro f W hIW hR
      have h12 := (HPI9.out _ _).1 (hR 9 (show 9 < 11 from by decide))
      have h13 := (HPI10.out _ _).1 (hR 10 (show 10 < 11 from by decide))
      simp only [putsL, List.foldl_cons, List.foldl_nil, Act.put, List.setIfInBounds_toArray, List.set_cons_zero, List.set_cons_succ]
      obtain ⟨pu, e1, l1⟩ := h12
      have e1' : f 12 = pu := e1
      go_wp2
      go_meet
      exact ⟨(by first | exact h13 | rfl), Lib.hid hIW, Lib.hid (by rw [e1']; exact l1)⟩
  case rest =>
    obtain ⟨rfl, HJ9, HL2⟩ := hcut
    generalize wc = w9 at *
    rw [HVR.out]
    have HB9 := Lib.hid (HJW.out _ HJ9.out)
    have HL19 := Lib.hid (HL1.out.below (HJO.out _ HJ9.out))
    clear HSH HPJ HJB HJD HJ0 HCR HJ9 HJO HJW HX1 HB1 egS egP HL1
    obtain ⟨a1', c1', e1, hc1', hs1⟩ := HL19.out.shape srvF
    obtain ⟨a2, c2, rfl, hc2, hs2⟩ := HL2.out.shape srvF
    injection e1 with e1 e2 e3
    subst e1
    rw [projL_len] at hc2 ⊢
    obtain ⟨b1, o1, rfl, hb1, hcc1⟩ := hs1 (by rw [projL_len]; omega)
    obtain ⟨b2, o2, rfl, hb2, hcc2⟩ := hs2 (by rw [projL_len]; omega)
    obtain ⟨J, hJ⟩ : ∃ J, J = fun W : World => Below w9.heap.size w9 W := ⟨_, rfl⟩
    have HJO : Hid (∀ W, J W → Below w9.heap.size w9 W) := Lib.hid fun W hW => by rw [hJ] at hW; exact hW
    have HJI : Hid (∀ W, Below w9.heap.size w9 W → J W) := Lib.hid fun W hW => by rw [hJ]; exact hW
    have HJD : Hid (∀ W, J W → J W.drew) := Lib.hid fun W hW => HJI.out _ ((HJO.out W hW).drew)
    have HJ0 : Hid (J w9) := Lib.hid (HJI.out _ (Below.refl _ _))
    have HC1 : Hid (∀ W k, J W → k < n → W.cell? ⟨b1, o1 + k * 4 + 1, none⟩ = some (.int .i64 (srvM r first rates k).int)) := Lib.hid fun W k hW hk => by
      have := hcc1 k (by rw [projL_len]; exact hk) 1 (by omega)
      rw [(HJO.out W hW).cell hb1, this, projL_get]; rfl
    have HC2 : Hid (∀ W k, J W → k < n → W.cell? ⟨b2, o2 + k * 4 + 1, none⟩ = some (.int .i64 (srvM r first SL k).int)) := Lib.hid fun W k hW hk => by
      have := hcc2 k (by rw [projL_len]; exact hk) 1 (by omega)
      rw [(HJO.out W hW).cell hb2, this, projL_get]; rfl
    clear hs1 hs2 hcc1 hcc2 hb1 hb2 HL19 HL2 hJ HJI e2 e3
    go_wp2
    go_loopw [14, 43] (fun cv iv wr => ∃ (k : Nat) (cq : Int), cv = .int .i64 cq ∧ iv = .int .i64 (k : Int) ∧ k ≤ n ∧ Hid (cq = costM r first rates SL k) ∧ Hid (J wr)) (fun _ iv _ => n - (RowKit.intOf iv).toNat)
    case atStart => exact ⟨0, 0, rfl, rfl, by omega, Lib.hid rfl, HJ0⟩
    case round =>
      clear HJ0
      obtain ⟨k, cq, rfl, rfl, hkn, HCQ, HJR⟩ := hrel
      by_cases hlk : k < n
      · have hb := cost_in HRK.out (first := first) HQ.out HSR.out k
        have hA := srv_in HRK.out (first := first) HQ.out k
        have hB := srv_in HRK.out (first := first) HSR.out k
        rw [← HCQ.out] at hb
        obtain ⟨yA, hyA⟩ : ∃ y, y = (srvM r first rates k).int := ⟨_, rfl⟩
        obtain ⟨yB, hyB⟩ : ∃ y, y = (srvM r first SL k).int := ⟨_, rfl⟩
        have HYA := Lib.hid hyA
        have HYB := Lib.hid hyB
        rw [← hyA] at hA
        rw [← hyB] at hB
        have HNX : Hid (cq + (yB - yA) = costM r first rates SL (k + 1)) := Lib.hid (by rw [HCQ.out, hyA, hyB]; rfl)
        have hw57 : IntKind.i64.wrap (yB - yA) = yB - yA := IntWalk.i64_in _ (by omega)
        have hw58 : IntKind.i64.wrap (cq + (yB - yA)) = cq + (yB - yA) := IntWalk.i64_in _ (by omega)
        have hwk : IntKind.i64.wrap ((k : Int) + 1) = (k : Int) + 1 := IntWalk.i64_in _ (by omega)
        have hk0 : (0 : Int) ≤ (k : Int) := by omega
        have hk1 : (k : Int) < (n : Int) := by omega
        have HLK := Lib.hid hlk
        have v51 := HC2.out wr k HJR.out hlk
        have v56 := HC1.out wr k HJR.out hlk
        rw [← hyB] at v51
        rw [← hyA] at v56
        have hmo : Try.prog.follows .mixedOrders = true := by kernel_rfl
        clear hb hA hB hyA hyB
        go_upto_region 11 with fail
        go_big_region_o
        have HJN : Hid (J wr.drew) := Lib.hid (HJD.out _ HJR.out)
        go_wp2
        go_roundw
        case rel => exact ⟨k + 1, _, rfl, by first | rfl | go_num, by omega, HNX, HJN⟩
        case measure => simp [RowKit.intOf]; omega
      · obtain rfl : k = n := by omega
        have HE := Lib.hid (HB9.out.trans ((HJO.out _ HJR.out).mono HB9.out.size))
        obtain rfl := HCQ.out
        go_wp2
        go_ret2
        exact ⟨rfl, HE.out⟩

end Go.Proofs.Ytblidmkkbcobgaa
