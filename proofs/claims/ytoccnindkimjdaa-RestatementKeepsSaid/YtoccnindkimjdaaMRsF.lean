/- The reference of histories: Check of right ones. -/
import Derived.Test.YtoccnindkimjdaaMG3
set_option linter.unusedSimpArgs false
set_option linter.unusedVariables false
set_option linter.unusedSimpArgs false
set_option linter.unusedVariables false
namespace Go.Proofs.Ytoccnindkimjdaa
open Go.RowKit Go.Lib Go.Proofs

set_option maxRecDepth 100000 in
set_option maxHeartbeats 16000000 in
theorem rfCheck_right {h : Hst} (hh : HstOk h) (vl vp vc : Value) (w : World) (ha : HstAt w vl vp vc h) :
    Calls Try.prog 47 #[.agg #[vl, vp, vc]] w fun e w' => e = .returned (.int .i64 0) ∧ Below w.heap.size w w' := by
  obtain ⟨L, P, C⟩ := h
  obtain ⟨h1, h1b, h1c, hnc, hnp, hco, has, hve⟩ := hh
  obtain ⟨hal, hap, rs, hac, hcr⟩ := ha
  simp only at h1 hnc hnp hco has hve hal hap hac hcr
  have HCK := Lib.hid (fun W (hW : Below w.heap.size w W) => rgCheck_right h1 vl W (hal.below hW))
  obtain ⟨ap, cp, rfl, hcp, hps⟩ := hap.shape prsF
  obtain ⟨ac, cc, rfl, hcc', hcs⟩ := hac.shape crrF
  have hrl := hcr.len
  have HPS := Lib.hid hps
  have HCS := Lib.hid hcs
  have HCO := Lib.hid hco
  have HAS := Lib.hid has
  have HVE := Lib.hid hve
  have HCR := Lib.hid (fun W (hW : Below w.heap.size w W) => hcr.imp fun v l (q : PstsAt w v l) => (ListAt.below q hW : PstsAt W v l))
  rw [hrl] at hcc' ⊢
  obtain ⟨n, hn⟩ : ∃ n, n = C.length := ⟨_, rfl⟩
  obtain ⟨m, hm⟩ : ∃ m, m = P.length := ⟨_, rfl⟩
  have HN := Lib.hid hn
  have HM := Lib.hid hm
  have HRL := Lib.hid hrl
  rw [← hn] at hcc' hnc ⊢
  rw [← hm] at hcp hnp ⊢
  have hln : ¬ (20 : Int) < (n : Int) := by omega
  have hlm : ¬ (20 : Int) < (m : Int) := by omega
  obtain ⟨w1, hw1⟩ : ∃ w1, w1 = w.alloc (.cells #[vl, .slice ap m cp, .slice ac n cc] 31) := ⟨_, rfl⟩
  obtain ⟨bH, hbH⟩ : ∃ b, b = w.heap.size := ⟨_, rfl⟩
  have HX1 : Hid (w1.heap[bH]? = some (.cells #[vl, .slice ap m cp, .slice ac n cc] 31 (0, 0))) := Lib.hid (by rw [hw1, hbH]; exact heap_alloc_new w _)
  have HB1 : Hid (Below w.heap.size w w1) := Lib.hid (by rw [hw1]; exact below_alloc w _)
  have HW1 := Lib.hid hw1
  have HBH := Lib.hid hbH
  have hbx := HX1.out
  have ub0 := obj_cell hbx 0
  have ub1 := obj_cell hbx 1
  have ub2 := obj_cell hbx 2
  simp at ub0 ub1 ub2
  clear hn hm hrl hps hcs hco has hve hal hap hac hcr h1 h1b h1c hw1 hbH hbx
  go_enter Try.func47, Try.ntmps47
  go_upto_region 1 with fail
  rw [← HW1.out, ← HBH.out]
  go_wp2_with fail
  refine (HCK.out _ HB1.out).mono ?_
  rintro e w2 ⟨rfl, hb2⟩
  have HX2 := Lib.hid (obj_below HX1.out hb2)
  have HB2 := Lib.hid (HB1.out.trans (hb2.mono HB1.out.size))
  have hbx := HX2.out
  clear ub0 ub1 ub2 hb2
  have ub0 := obj_cell hbx 0
  have ub1 := obj_cell hbx 1
  have ub2 := obj_cell hbx 2
  simp at ub0 ub1 ub2
  clear hbx HCK HX1 HB1
  go_wp2
  go_loopw [30] (fun i wr => ∃ k : Nat, i = .int .i64 k ∧ k ≤ n ∧ Hid (Below w2.heap.size w2 wr)) (fun i _ => n - (RowKit.intOf i).toNat)
  case atStart => exact ⟨0, rfl, by omega, Lib.hid (Below.refl _ _)⟩
  case round =>
    clear ub0 ub1 ub2
    obtain ⟨k, rfl, hkn, HB⟩ := hrel
    by_cases hlt : k < n
    · have hkC : k < C.length := by rw [← HN.out]; exact hlt
      have hkR : k < rs.length := by rw [HRL.out]; exact hkC
      obtain ⟨b, o, rfl, hb, hcc⟩ := HCS.out (by omega)
      have HWB := Lib.hid (HB2.out.trans (HB.out.mono HB2.out.size))
      have hcell := fun j (hj : j < 3) => (HWB.out.cell (p := ⟨b, o + k * 3 + j, none⟩) hb).trans (hcc k hkR j hj)
      have hpf : ∀ j, k = j + 1 → ∃ pf : Int, (∀ W, Below w.heap.size w W → W.cell? ⟨b, o + j * 3 + 1, none⟩ = some (.int .i64 pf)) ∧ ¬ (C[k]).fnd < pf := fun j hj => by
        subst hj
        have h3 := HAS.out j hkC
        have h4 := (HCR.out _ (Below.refl _ _)).get j (by omega) (by omega)
        refine ⟨(rs[j]).fnd, fun W hW => ?_, ?_⟩
        · rw [(hW.cell (p := ⟨b, o + j * 3 + 1, none⟩) hb), hcc j (by omega) 1 (by omega)]
          rfl
        · rw [h4.2.1]; omega
      have hg := fun W hW => (HCR.out W hW).get k hkR hkC
      have hcok := HCO.out _ (List.getElem_mem hkC)
      have HCC0 : Hid (∀ W, Below w.heap.size w W → Calls Try.prog 48 #[.agg #[.int .i64 (rs[k]).yr, .int .i64 (rs[k]).fnd, (rs[k]).sl.v]] W fun e w' => e = .returned (.bool true) ∧ Below W.heap.size W w') := Lib.hid fun W hW => by
        obtain ⟨g1, g2, g3⟩ := hg W hW
        rw [g1, g2]
        exact rfcorrection_ok hcok _ W g3
      have hfe := (hg _ (Below.refl _ _)).2.1
      rw [← hfe] at hpf
      have HPF := Lib.hid hpf
      clear hcc hg hcok hfe hpf
      generalize rs[k] = x at *
      obtain ⟨x0, x1, xa, xn, xc⟩ := x
      simp only [Sli.v] at HCC0
      simp only at HPF
      have c0 := hcell 0 (by omega)
      have c1 := hcell 1 (by omega)
      have c2 := hcell 2 (by omega)
      simp [crrC] at c0 c1 c2
      have hwk : IntKind.i64.wrap ((k : Int) + 1) = (k : Int) + 1 := IntWalk.i64_in _ (by omega)
      have hk0 : (0 : Int) ≤ (k : Int) := by omega
      have hk1 : (k : Int) < (n : Int) := by omega
      obtain ⟨w8, hw8⟩ : ∃ W, W = wr.alloc (.cells #[.int .i64 x0, .int .i64 x1, .slice xa xn xc] 49) := ⟨_, rfl⟩
      obtain ⟨bX, hbX⟩ : ∃ q, q = wr.heap.size := ⟨_, rfl⟩
      have HX8 : Hid (w8.heap[bX]? = some (.cells #[.int .i64 x0, .int .i64 x1, .slice xa xn xc] 49 (0, 0))) := Lib.hid (by rw [hw8, hbX]; exact heap_alloc_new _ _)
      have HB8 : Hid (Below w2.heap.size w2 w8) := Lib.hid (by rw [hw8]; exact HB.out.alloc HB.out.size _)
      have HW8 := Lib.hid hw8
      have HBX := Lib.hid hbX
      clear hcell hw8 hbX
      go_upto_region 9 with fail
      rw [← HW8.out, ← HBX.out]
      clear c0 c1 c2
      obtain ⟨J, hJ⟩ : ∃ J, J = fun W : World => Below w8.heap.size w8 W := ⟨_, rfl⟩
      have HJO : Hid (∀ W, J W → Below w8.heap.size w8 W) := Lib.hid fun W hW => by rw [hJ] at hW; exact hW
      have HJI : Hid (∀ W, Below w8.heap.size w8 W → J W) := Lib.hid fun W hW => by rw [hJ]; exact hW
      have HJD : Hid (∀ W, J W → J W.drew) := Lib.hid fun W hW => HJI.out _ ((HJO.out W hW).drew)
      have HJ0 : Hid (J w8) := Lib.hid (HJI.out _ (Below.refl _ _))
      have HJW : Hid (∀ W, J W → Below w2.heap.size w2 W) := Lib.hid fun W hW => HB8.out.trans ((HJO.out W hW).mono HB8.out.size)
      have HJW0 : Hid (∀ W, J W → Below w.heap.size w W) := Lib.hid fun W hW => HB2.out.trans ((HJW.out W hW).mono HB2.out.size)
      have HCX : Hid (∀ W, J W → ∀ i, W.cell? ⟨bX, i, none⟩ = #[.int .i64 x0, .int .i64 x1, .slice xa xn xc][i]?) := Lib.hid fun W hW i => obj_cell (obj_below HX8.out (HJO.out W hW)) i
      have HCH : Hid (∀ W, J W → ∀ i, W.cell? ⟨bH, i, none⟩ = (#[vl, .slice ap m cp, .slice (some ⟨b, o, none⟩) n cc] : Array Value)[i]?) := Lib.hid fun W hW i => obj_cell (obj_below HX2.out (HJW.out W hW)) i
      have HCC : Hid (∀ W, J W → Calls Try.prog 48 #[.agg #[.int .i64 x0, .int .i64 x1, .slice xa xn xc]] W fun e w' => e = .returned (.bool true) ∧ J w') := Lib.hid fun W hW => (HCC0.out W (HJW0.out W hW)).mono fun e w' ⟨h1, h2⟩ => ⟨h1, HJI.out _ ((HJO.out W hW).trans (h2.mono (HJO.out W hW).size))⟩
      have egC := enters_of Try.func48 (by kernel_rfl) rfl
      rcases Nat.eq_zero_or_pos k with hk | hk
      · have hkz : ¬ (0 : Int) < (k : Int) := by omega
        have hkt : (k = 0) = True := eq_true hk
        clear hk HPF HCC0 HJI hJ HJW0
        go_cut [53] (fun bv wx => bv = .bool false ∧ Hid (J wx))
        case first =>
          refine wp_region_props [35, 36, 37, 38, 39, 40, 41, 42, 43, 44, 45, 46, 47, 48, 49, 50, 51, 52, 53] (slotS [35, 36, 37, 38, 39, 40, 41, 42, 43, 44, 45, 46, 47, 48, 49, 50, 51, 52, 53]) (readsS [35, 36, 37, 38, 39, 40, 41, 42, 43, 44, 45, 46, 47, 48, 49, 50, 51, 52, 53]) (RTs [35, 36, 37, 38, 39, 40, 41, 42, 43, 44, 45, 46, 47, 48, 49, 50, 51, 52, 53] [.agg #[.int .i64 x0, .int .i64 x1, .slice xa xn xc], .bool true, .bool false, .bool false, .int .i64 (k : Int), .bool false, .bool false, undef, undef, undef, undef, undef, undef, undef, undef, undef, undef, .bool false, .bool false]) J (by kernel_rfl) (by kernel_rfl) (by kernel_rfl) (HJD.out _ HJ0.out) (fun j f q v W hq h => RTs.upd hq h) ?_ ?_
          case refine_1 =>
            intro iq hiq f W hIW hdep
            have hiq' : iq < 19 := hiq
            generalize ha1 : putsL _ [35, 36, 37, 38, 39, 40, 41, 42, 43, 44, 45, 46, 47, 48, 49, 50, 51, 52, 53] f = a1
            match iq, hiq', hdep with
            | 0, _, hdep =>
              have E5 : a1.tmps[5]?.getD undef = .pointer (some ⟨bX, 0, none⟩) := by rw [← ha1]; exact (putsL_out2 _ _ _ _ (by decide)).trans rfl
              have v0 : W.cell? ⟨bX, 0, none⟩ = some (.int .i64 x0) := by simpa using HCX.out W hIW 0
              have v1 : W.cell? ⟨bX, 1, none⟩ = some (.int .i64 x1) := by simpa using HCX.out W hIW 1
              have v2 : W.cell? ⟨bX, 2, none⟩ = some (.slice xa xn xc) := by simpa using HCX.out W hIW 2
              exact wpOp_val rfl rfl (v := .agg #[.int .i64 x0, .int .i64 x1, .slice xa xn xc]) (w' := W) (by simp [execOp, go_sem, E5, v0, v1, v2]) ⟨hIW, fun _ h => h, Or.inl ⟨_, by decide, rfl, updF_same _ _ _⟩⟩
            | 1, _, hdep =>
              have E35 : a1.tmps[35]?.getD undef = .agg #[.int .i64 x0, .int .i64 x1, .slice xa xn xc] := by rw [← ha1]; exact (putsL_in2 _ _ _ _ (by decide) (show 35 < 91 from by decide)).trans (hdep 0 (by kernel_rfl))
              refine wpOp_call rfl rfl (n := 48) (vs := #[.agg #[.int .i64 x0, .int .i64 x1, .slice xa xn xc]]) (by have := egC #[.agg #[.int .i64 x0, .int .i64 x1, .slice xa xn xc]] W; simp [execOp, E35, resolve, invoke, go_sem] <;> exact this) ((HCC.out W hIW).mono fun e w' h => (⟨_, h.1, rfl, h.2⟩ : ∃ v, e = .returned v ∧ (v = .bool true ∧ J w'))) ?_
              rintro v w' ⟨rfl, hI'⟩
              exact ⟨hI', fun _ h => h, Or.inl ⟨_, by decide, rfl, updF_same _ _ _⟩⟩
            | 2, _, hdep =>
              have E36 : a1.tmps[36]?.getD undef = .bool true := by rw [← ha1]; exact (putsL_in2 _ _ _ _ (by decide) (show 36 < 91 from by decide)).trans (hdep 1 (by kernel_rfl))
              exact wpOp_val rfl rfl (v := .bool false) (w' := W) (by simp [execOp, go_sem, E36]) ⟨hIW, fun _ h => h, Or.inl ⟨_, by decide, rfl, updF_same _ _ _⟩⟩
            | 3, _, hdep =>
              have E37 : a1.tmps[37]?.getD undef = .bool false := by rw [← ha1]; exact (putsL_in2 _ _ _ _ (by decide) (show 37 < 91 from by decide)).trans (hdep 2 (by kernel_rfl))
              exact wpOp_val rfl rfl (v := .bool false) (w' := W) (by simp [execOp, go_sem, E37]) ⟨hIW, fun _ h => h, Or.inl ⟨_, by decide, rfl, updF_same _ _ _⟩⟩
            | 4, _, hdep =>
              have G3 : a1.tmps[38]? = some (.bool false) := by rw [← ha1]; exact (putsL_some _ _ _ _ (by decide) (show 38 < 91 from by decide)).trans (congrArg some (hdep 3 (by kernel_rfl)))
              have E4 : a1.tmps[4]?.getD undef = .int .i64 (k : Int) := by rw [← ha1]; exact (putsL_out2 _ _ _ _ (by decide)).trans rfl
              exact wpOp_valG rfl rfl (yielded_of rfl G3) (v := .int .i64 (k : Int)) (w' := W) (by simp [execOp, go_sem, E4]) ⟨hIW, fun _ h => h, Or.inl ⟨_, by decide, rfl, updF_same _ _ _⟩⟩
            | 5, _, hdep =>
              have G3 : a1.tmps[38]? = some (.bool false) := by rw [← ha1]; exact (putsL_some _ _ _ _ (by decide) (show 38 < 91 from by decide)).trans (congrArg some (hdep 3 (by kernel_rfl)))
              have E39 : a1.tmps[39]?.getD undef = .int .i64 (k : Int) := by rw [← ha1]; exact (putsL_in2 _ _ _ _ (by decide) (show 39 < 91 from by decide)).trans (hdep 4 (by kernel_rfl))
              exact wpOp_valG rfl rfl (yielded_of rfl G3) (v := .bool false) (w' := W) (by simp [execOp, go_sem, E39, hkz, hkt]) ⟨hIW, fun _ h => h, Or.inl ⟨_, by decide, rfl, updF_same _ _ _⟩⟩
            | 6, _, hdep =>
              have G3 : a1.tmps[38]? = some (.bool false) := by rw [← ha1]; exact (putsL_some _ _ _ _ (by decide) (show 38 < 91 from by decide)).trans (congrArg some (hdep 3 (by kernel_rfl)))
              have E40 : a1.tmps[40]?.getD undef = .bool false := by rw [← ha1]; exact (putsL_in2 _ _ _ _ (by decide) (show 40 < 91 from by decide)).trans (hdep 5 (by kernel_rfl))
              exact wpOp_valG rfl rfl (yielded_of rfl G3) (v := .bool false) (w' := W) (by simp [execOp, go_sem, E40]) ⟨hIW, fun _ h => h, Or.inl ⟨_, by decide, rfl, updF_same _ _ _⟩⟩
            | 7, _, hdep =>
              have G6 : a1.tmps[41]? = some (.bool false) := by rw [← ha1]; exact (putsL_some _ _ _ _ (by decide) (show 41 < 91 from by decide)).trans (congrArg some (hdep 6 (by kernel_rfl)))
              exact wpOp_off rfl rfl (yielded_of rfl G6) ⟨hIW, fun _ h => h, Or.inl ⟨_, by decide, rfl, updF_same _ _ _⟩⟩
            | 8, _, hdep =>
              have G6 : a1.tmps[41]? = some (.bool false) := by rw [← ha1]; exact (putsL_some _ _ _ _ (by decide) (show 41 < 91 from by decide)).trans (congrArg some (hdep 6 (by kernel_rfl)))
              exact wpOp_off rfl rfl (yielded_of rfl G6) ⟨hIW, fun _ h => h, Or.inl ⟨_, by decide, rfl, updF_same _ _ _⟩⟩
            | 9, _, hdep =>
              have G6 : a1.tmps[41]? = some (.bool false) := by rw [← ha1]; exact (putsL_some _ _ _ _ (by decide) (show 41 < 91 from by decide)).trans (congrArg some (hdep 6 (by kernel_rfl)))
              exact wpOp_off rfl rfl (yielded_of rfl G6) ⟨hIW, fun _ h => h, Or.inl ⟨_, by decide, rfl, updF_same _ _ _⟩⟩
            | 10, _, hdep =>
              have G6 : a1.tmps[41]? = some (.bool false) := by rw [← ha1]; exact (putsL_some _ _ _ _ (by decide) (show 41 < 91 from by decide)).trans (congrArg some (hdep 6 (by kernel_rfl)))
              exact wpOp_off rfl rfl (yielded_of rfl G6) ⟨hIW, fun _ h => h, Or.inl ⟨_, by decide, rfl, updF_same _ _ _⟩⟩
            | 11, _, hdep =>
              have G6 : a1.tmps[41]? = some (.bool false) := by rw [← ha1]; exact (putsL_some _ _ _ _ (by decide) (show 41 < 91 from by decide)).trans (congrArg some (hdep 6 (by kernel_rfl)))
              exact wpOp_off rfl rfl (yielded_of rfl G6) ⟨hIW, fun _ h => h, Or.inl ⟨_, by decide, rfl, updF_same _ _ _⟩⟩
            | 12, _, hdep =>
              have G6 : a1.tmps[41]? = some (.bool false) := by rw [← ha1]; exact (putsL_some _ _ _ _ (by decide) (show 41 < 91 from by decide)).trans (congrArg some (hdep 6 (by kernel_rfl)))
              exact wpOp_off rfl rfl (yielded_of rfl G6) ⟨hIW, fun _ h => h, Or.inl ⟨_, by decide, rfl, updF_same _ _ _⟩⟩
            | 13, _, hdep =>
              have G6 : a1.tmps[41]? = some (.bool false) := by rw [← ha1]; exact (putsL_some _ _ _ _ (by decide) (show 41 < 91 from by decide)).trans (congrArg some (hdep 6 (by kernel_rfl)))
              exact wpOp_off rfl rfl (yielded_of rfl G6) ⟨hIW, fun _ h => h, Or.inl ⟨_, by decide, rfl, updF_same _ _ _⟩⟩
            | 14, _, hdep =>
              have G6 : a1.tmps[41]? = some (.bool false) := by rw [← ha1]; exact (putsL_some _ _ _ _ (by decide) (show 41 < 91 from by decide)).trans (congrArg some (hdep 6 (by kernel_rfl)))
              exact wpOp_off rfl rfl (yielded_of rfl G6) ⟨hIW, fun _ h => h, Or.inl ⟨_, by decide, rfl, updF_same _ _ _⟩⟩
            | 15, _, hdep =>
              have G6 : a1.tmps[41]? = some (.bool false) := by rw [← ha1]; exact (putsL_some _ _ _ _ (by decide) (show 41 < 91 from by decide)).trans (congrArg some (hdep 6 (by kernel_rfl)))
              exact wpOp_off rfl rfl (yielded_of rfl G6) ⟨hIW, fun _ h => h, Or.inl ⟨_, by decide, rfl, updF_same _ _ _⟩⟩
            | 16, _, hdep =>
              have G6 : a1.tmps[41]? = some (.bool false) := by rw [← ha1]; exact (putsL_some _ _ _ _ (by decide) (show 41 < 91 from by decide)).trans (congrArg some (hdep 6 (by kernel_rfl)))
              exact wpOp_off rfl rfl (yielded_of rfl G6) ⟨hIW, fun _ h => h, Or.inl ⟨_, by decide, rfl, updF_same _ _ _⟩⟩
            | 17, _, hdep =>
              have G3 : a1.tmps[38]? = some (.bool false) := by rw [← ha1]; exact (putsL_some _ _ _ _ (by decide) (show 38 < 91 from by decide)).trans (congrArg some (hdep 3 (by kernel_rfl)))
              have E41 : a1.tmps[41]?.getD undef = .bool false := by rw [← ha1]; exact (putsL_in2 _ _ _ _ (by decide) (show 41 < 91 from by decide)).trans (hdep 6 (by kernel_rfl))
              exact wpOp_valG rfl rfl (yielded_of rfl G3) (v := .bool false) (w' := W) (by simp [execOp, go_sem, E41]) ⟨hIW, fun _ h => h, Or.inl ⟨_, by decide, rfl, updF_same _ _ _⟩⟩
            | 18, _, hdep =>
              have E38 : a1.tmps[38]?.getD undef = .bool false := by rw [← ha1]; exact (putsL_in2 _ _ _ _ (by decide) (show 38 < 91 from by decide)).trans (hdep 3 (by kernel_rfl))
              have E52 : a1.tmps[52]?.getD undef = .bool false := by rw [← ha1]; exact (putsL_in2 _ _ _ _ (by decide) (show 52 < 91 from by decide)).trans (hdep 17 (by kernel_rfl))
              exact wpOp_val rfl rfl (v := .bool false) (w' := W) (by simp [execOp, go_sem, E38, E52]) ⟨hIW, fun _ h => h, Or.inl ⟨_, by decide, rfl, updF_same _ _ _⟩⟩
            | iq + 19, h, _ => exact absurd h (by omega)
          case refine_2 =>
            intro f W hIW hR
            have h53 : f 53 = .bool false := hR 18 (show 18 < 19 from by decide)
            simp only [putsL, List.foldl_cons, List.foldl_nil, Act.put, List.setIfInBounds_toArray, List.set_cons_zero, List.set_cons_succ]
            go_wp2
            go_meet
            exact ⟨(by first | exact h53 | rfl), Lib.hid hIW⟩
        case rest =>
          obtain ⟨rfl, HJ10⟩ := hcut
          have HBN := Lib.hid (HJW.out _ HJ10.out)
          clear HJ10 HJ0 HJD HCX HCH HCC HJW egC
          go_wp2
          go_roundw
          case rel => exact ⟨k + 1, by first | rfl | go_num, by omega, HBN⟩
          case measure => simp [RowKit.intOf]; omega
      · obtain ⟨j, hk⟩ : ∃ j, k = j + 1 := ⟨k - 1, by omega⟩
        have hkz : (0 : Int) < (k : Int) := by omega
        obtain ⟨pf, hpv, hfp⟩ := HPF.out j hk
        have HPV : Hid (∀ W, J W → W.cell? ⟨b, o + j * 3 + 1, none⟩ = some (.int .i64 pf)) := Lib.hid fun W hW => hpv W (HJW0.out W hW)
        have hwj : IntKind.i64.wrap ((k : Int) - 1) = (j : Int) := by rw [show (k : Int) - 1 = (j : Int) by omega]; exact IntWalk.i64_in _ (by omega)
        have hj0 : (0 : Int) ≤ (j : Int) := by omega
        have hj1 : (j : Int) < (n : Int) := by omega
        have hkt : 0 < k := by omega
        clear hk hpv HPF HCC0 HJI hJ HJW0
        go_cut [53] (fun bv wx => bv = .bool false ∧ Hid (J wx))
        case first =>
          refine wp_region_props [35, 36, 37, 38, 39, 40, 41, 42, 43, 44, 45, 46, 47, 48, 49, 50, 51, 52, 53] (slotS [35, 36, 37, 38, 39, 40, 41, 42, 43, 44, 45, 46, 47, 48, 49, 50, 51, 52, 53]) (readsS [35, 36, 37, 38, 39, 40, 41, 42, 43, 44, 45, 46, 47, 48, 49, 50, 51, 52, 53]) (RTs [35, 36, 37, 38, 39, 40, 41, 42, 43, 44, 45, 46, 47, 48, 49, 50, 51, 52, 53] [.agg #[.int .i64 x0, .int .i64 x1, .slice xa xn xc], .bool true, .bool false, .bool false, .int .i64 (k : Int), .bool true, .bool true, .pointer (some ⟨bH, 2, none⟩), .slice (some ⟨b, o, none⟩) n cc, .int .i64 (k : Int), .int .i64 (j : Int), .pointer (some ⟨b, o + j * 3, none⟩), .pointer (some ⟨b, o + j * 3 + 1, none⟩), .int .i64 pf, .pointer (some ⟨bX, 1, none⟩), .int .i64 x1, .bool false, .bool false, .bool false]) J (by kernel_rfl) (by kernel_rfl) (by kernel_rfl) (HJD.out _ HJ0.out) (fun j f q v W hq h => RTs.upd hq h) ?_ ?_
          case refine_1 =>
            intro iq hiq f W hIW hdep
            have hiq' : iq < 19 := hiq
            generalize ha1 : putsL _ [35, 36, 37, 38, 39, 40, 41, 42, 43, 44, 45, 46, 47, 48, 49, 50, 51, 52, 53] f = a1
            match iq, hiq', hdep with
            | 0, _, hdep =>
              have E5 : a1.tmps[5]?.getD undef = .pointer (some ⟨bX, 0, none⟩) := by rw [← ha1]; exact (putsL_out2 _ _ _ _ (by decide)).trans rfl
              have v0 : W.cell? ⟨bX, 0, none⟩ = some (.int .i64 x0) := by simpa using HCX.out W hIW 0
              have v1 : W.cell? ⟨bX, 1, none⟩ = some (.int .i64 x1) := by simpa using HCX.out W hIW 1
              have v2 : W.cell? ⟨bX, 2, none⟩ = some (.slice xa xn xc) := by simpa using HCX.out W hIW 2
              exact wpOp_val rfl rfl (v := .agg #[.int .i64 x0, .int .i64 x1, .slice xa xn xc]) (w' := W) (by simp [execOp, go_sem, E5, v0, v1, v2]) ⟨hIW, fun _ h => h, Or.inl ⟨_, by decide, rfl, updF_same _ _ _⟩⟩
            | 1, _, hdep =>
              have E35 : a1.tmps[35]?.getD undef = .agg #[.int .i64 x0, .int .i64 x1, .slice xa xn xc] := by rw [← ha1]; exact (putsL_in2 _ _ _ _ (by decide) (show 35 < 91 from by decide)).trans (hdep 0 (by kernel_rfl))
              refine wpOp_call rfl rfl (n := 48) (vs := #[.agg #[.int .i64 x0, .int .i64 x1, .slice xa xn xc]]) (by have := egC #[.agg #[.int .i64 x0, .int .i64 x1, .slice xa xn xc]] W; simp [execOp, E35, resolve, invoke, go_sem] <;> exact this) ((HCC.out W hIW).mono fun e w' h => (⟨_, h.1, rfl, h.2⟩ : ∃ v, e = .returned v ∧ (v = .bool true ∧ J w'))) ?_
              rintro v w' ⟨rfl, hI'⟩
              exact ⟨hI', fun _ h => h, Or.inl ⟨_, by decide, rfl, updF_same _ _ _⟩⟩
            | 2, _, hdep =>
              have E36 : a1.tmps[36]?.getD undef = .bool true := by rw [← ha1]; exact (putsL_in2 _ _ _ _ (by decide) (show 36 < 91 from by decide)).trans (hdep 1 (by kernel_rfl))
              exact wpOp_val rfl rfl (v := .bool false) (w' := W) (by simp [execOp, go_sem, E36]) ⟨hIW, fun _ h => h, Or.inl ⟨_, by decide, rfl, updF_same _ _ _⟩⟩
            | 3, _, hdep =>
              have E37 : a1.tmps[37]?.getD undef = .bool false := by rw [← ha1]; exact (putsL_in2 _ _ _ _ (by decide) (show 37 < 91 from by decide)).trans (hdep 2 (by kernel_rfl))
              exact wpOp_val rfl rfl (v := .bool false) (w' := W) (by simp [execOp, go_sem, E37]) ⟨hIW, fun _ h => h, Or.inl ⟨_, by decide, rfl, updF_same _ _ _⟩⟩
            | 4, _, hdep =>
              have G3 : a1.tmps[38]? = some (.bool false) := by rw [← ha1]; exact (putsL_some _ _ _ _ (by decide) (show 38 < 91 from by decide)).trans (congrArg some (hdep 3 (by kernel_rfl)))
              have E4 : a1.tmps[4]?.getD undef = .int .i64 (k : Int) := by rw [← ha1]; exact (putsL_out2 _ _ _ _ (by decide)).trans rfl
              exact wpOp_valG rfl rfl (yielded_of rfl G3) (v := .int .i64 (k : Int)) (w' := W) (by simp [execOp, go_sem, E4]) ⟨hIW, fun _ h => h, Or.inl ⟨_, by decide, rfl, updF_same _ _ _⟩⟩
            | 5, _, hdep =>
              have G3 : a1.tmps[38]? = some (.bool false) := by rw [← ha1]; exact (putsL_some _ _ _ _ (by decide) (show 38 < 91 from by decide)).trans (congrArg some (hdep 3 (by kernel_rfl)))
              have E39 : a1.tmps[39]?.getD undef = .int .i64 (k : Int) := by rw [← ha1]; exact (putsL_in2 _ _ _ _ (by decide) (show 39 < 91 from by decide)).trans (hdep 4 (by kernel_rfl))
              exact wpOp_valG rfl rfl (yielded_of rfl G3) (v := .bool true) (w' := W) (by simp [execOp, go_sem, E39, hkz, hkt]) ⟨hIW, fun _ h => h, Or.inl ⟨_, by decide, rfl, updF_same _ _ _⟩⟩
            | 6, _, hdep =>
              have G3 : a1.tmps[38]? = some (.bool false) := by rw [← ha1]; exact (putsL_some _ _ _ _ (by decide) (show 38 < 91 from by decide)).trans (congrArg some (hdep 3 (by kernel_rfl)))
              have E40 : a1.tmps[40]?.getD undef = .bool true := by rw [← ha1]; exact (putsL_in2 _ _ _ _ (by decide) (show 40 < 91 from by decide)).trans (hdep 5 (by kernel_rfl))
              exact wpOp_valG rfl rfl (yielded_of rfl G3) (v := .bool true) (w' := W) (by simp [execOp, go_sem, E40]) ⟨hIW, fun _ h => h, Or.inl ⟨_, by decide, rfl, updF_same _ _ _⟩⟩
            | 7, _, hdep =>
              have G6 : a1.tmps[41]? = some (.bool true) := by rw [← ha1]; exact (putsL_some _ _ _ _ (by decide) (show 41 < 91 from by decide)).trans (congrArg some (hdep 6 (by kernel_rfl)))
              have E1 : a1.tmps[1]?.getD undef = .pointer (some ⟨bH, 0, none⟩) := by rw [← ha1]; exact (putsL_out2 _ _ _ _ (by decide)).trans rfl
              exact wpOp_valG rfl rfl (yielded_of rfl G6) (v := .pointer (some ⟨bH, 2, none⟩)) (w' := W) (by simp [execOp, go_sem, E1]) ⟨hIW, fun _ h => h, Or.inl ⟨_, by decide, rfl, updF_same _ _ _⟩⟩
            | 8, _, hdep =>
              have G6 : a1.tmps[41]? = some (.bool true) := by rw [← ha1]; exact (putsL_some _ _ _ _ (by decide) (show 41 < 91 from by decide)).trans (congrArg some (hdep 6 (by kernel_rfl)))
              have E42 : a1.tmps[42]?.getD undef = .pointer (some ⟨bH, 2, none⟩) := by rw [← ha1]; exact (putsL_in2 _ _ _ _ (by decide) (show 42 < 91 from by decide)).trans (hdep 7 (by kernel_rfl))
              have v2 : W.cell? ⟨bH, 2, none⟩ = some (.slice (some ⟨b, o, none⟩) n cc) := by simpa using HCH.out W hIW 2
              exact wpOp_valG rfl rfl (yielded_of rfl G6) (v := .slice (some ⟨b, o, none⟩) n cc) (w' := W) (by simp [execOp, go_sem, E42, v2]) ⟨hIW, fun _ h => h, Or.inl ⟨_, by decide, rfl, updF_same _ _ _⟩⟩
            | 9, _, hdep =>
              have G6 : a1.tmps[41]? = some (.bool true) := by rw [← ha1]; exact (putsL_some _ _ _ _ (by decide) (show 41 < 91 from by decide)).trans (congrArg some (hdep 6 (by kernel_rfl)))
              have E4 : a1.tmps[4]?.getD undef = .int .i64 (k : Int) := by rw [← ha1]; exact (putsL_out2 _ _ _ _ (by decide)).trans rfl
              exact wpOp_valG rfl rfl (yielded_of rfl G6) (v := .int .i64 (k : Int)) (w' := W) (by simp [execOp, go_sem, E4]) ⟨hIW, fun _ h => h, Or.inl ⟨_, by decide, rfl, updF_same _ _ _⟩⟩
            | 10, _, hdep =>
              have G6 : a1.tmps[41]? = some (.bool true) := by rw [← ha1]; exact (putsL_some _ _ _ _ (by decide) (show 41 < 91 from by decide)).trans (congrArg some (hdep 6 (by kernel_rfl)))
              have E44 : a1.tmps[44]?.getD undef = .int .i64 (k : Int) := by rw [← ha1]; exact (putsL_in2 _ _ _ _ (by decide) (show 44 < 91 from by decide)).trans (hdep 9 (by kernel_rfl))
              exact wpOp_valG rfl rfl (yielded_of rfl G6) (v := .int .i64 (j : Int)) (w' := W) (by simp [execOp, go_sem, E44, hwj]) ⟨hIW, fun _ h => h, Or.inl ⟨_, by decide, rfl, updF_same _ _ _⟩⟩
            | 11, _, hdep =>
              have G6 : a1.tmps[41]? = some (.bool true) := by rw [← ha1]; exact (putsL_some _ _ _ _ (by decide) (show 41 < 91 from by decide)).trans (congrArg some (hdep 6 (by kernel_rfl)))
              have E43 : a1.tmps[43]?.getD undef = .slice (some ⟨b, o, none⟩) n cc := by rw [← ha1]; exact (putsL_in2 _ _ _ _ (by decide) (show 43 < 91 from by decide)).trans (hdep 8 (by kernel_rfl))
              have E45 : a1.tmps[45]?.getD undef = .int .i64 (j : Int) := by rw [← ha1]; exact (putsL_in2 _ _ _ _ (by decide) (show 45 < 91 from by decide)).trans (hdep 10 (by kernel_rfl))
              exact wpOp_valG rfl rfl (yielded_of rfl G6) (v := .pointer (some ⟨b, o + j * 3, none⟩)) (w' := W) (by simp [execOp, go_sem, E43, E45, hj0, hj1]) ⟨hIW, fun _ h => h, Or.inl ⟨_, by decide, rfl, updF_same _ _ _⟩⟩
            | 12, _, hdep =>
              have G6 : a1.tmps[41]? = some (.bool true) := by rw [← ha1]; exact (putsL_some _ _ _ _ (by decide) (show 41 < 91 from by decide)).trans (congrArg some (hdep 6 (by kernel_rfl)))
              have E46 : a1.tmps[46]?.getD undef = .pointer (some ⟨b, o + j * 3, none⟩) := by rw [← ha1]; exact (putsL_in2 _ _ _ _ (by decide) (show 46 < 91 from by decide)).trans (hdep 11 (by kernel_rfl))
              exact wpOp_valG rfl rfl (yielded_of rfl G6) (v := .pointer (some ⟨b, o + j * 3 + 1, none⟩)) (w' := W) (by simp [execOp, go_sem, E46]) ⟨hIW, fun _ h => h, Or.inl ⟨_, by decide, rfl, updF_same _ _ _⟩⟩
            | 13, _, hdep =>
              have G6 : a1.tmps[41]? = some (.bool true) := by rw [← ha1]; exact (putsL_some _ _ _ _ (by decide) (show 41 < 91 from by decide)).trans (congrArg some (hdep 6 (by kernel_rfl)))
              have E47 : a1.tmps[47]?.getD undef = .pointer (some ⟨b, o + j * 3 + 1, none⟩) := by rw [← ha1]; exact (putsL_in2 _ _ _ _ (by decide) (show 47 < 91 from by decide)).trans (hdep 12 (by kernel_rfl))
              have v48 := HPV.out W hIW
              exact wpOp_valG rfl rfl (yielded_of rfl G6) (v := .int .i64 pf) (w' := W) (by simp [execOp, go_sem, E47, v48]) ⟨hIW, fun _ h => h, Or.inl ⟨_, by decide, rfl, updF_same _ _ _⟩⟩
            | 14, _, hdep =>
              have G6 : a1.tmps[41]? = some (.bool true) := by rw [← ha1]; exact (putsL_some _ _ _ _ (by decide) (show 41 < 91 from by decide)).trans (congrArg some (hdep 6 (by kernel_rfl)))
              have E5 : a1.tmps[5]?.getD undef = .pointer (some ⟨bX, 0, none⟩) := by rw [← ha1]; exact (putsL_out2 _ _ _ _ (by decide)).trans rfl
              exact wpOp_valG rfl rfl (yielded_of rfl G6) (v := .pointer (some ⟨bX, 1, none⟩)) (w' := W) (by simp [execOp, go_sem, E5]) ⟨hIW, fun _ h => h, Or.inl ⟨_, by decide, rfl, updF_same _ _ _⟩⟩
            | 15, _, hdep =>
              have G6 : a1.tmps[41]? = some (.bool true) := by rw [← ha1]; exact (putsL_some _ _ _ _ (by decide) (show 41 < 91 from by decide)).trans (congrArg some (hdep 6 (by kernel_rfl)))
              have E49 : a1.tmps[49]?.getD undef = .pointer (some ⟨bX, 1, none⟩) := by rw [← ha1]; exact (putsL_in2 _ _ _ _ (by decide) (show 49 < 91 from by decide)).trans (hdep 14 (by kernel_rfl))
              have v1 : W.cell? ⟨bX, 1, none⟩ = some (.int .i64 x1) := by simpa using HCX.out W hIW 1
              exact wpOp_valG rfl rfl (yielded_of rfl G6) (v := .int .i64 x1) (w' := W) (by simp [execOp, go_sem, E49, v1]) ⟨hIW, fun _ h => h, Or.inl ⟨_, by decide, rfl, updF_same _ _ _⟩⟩
            | 16, _, hdep =>
              have G6 : a1.tmps[41]? = some (.bool true) := by rw [← ha1]; exact (putsL_some _ _ _ _ (by decide) (show 41 < 91 from by decide)).trans (congrArg some (hdep 6 (by kernel_rfl)))
              have E48 : a1.tmps[48]?.getD undef = .int .i64 pf := by rw [← ha1]; exact (putsL_in2 _ _ _ _ (by decide) (show 48 < 91 from by decide)).trans (hdep 13 (by kernel_rfl))
              have E50 : a1.tmps[50]?.getD undef = .int .i64 x1 := by rw [← ha1]; exact (putsL_in2 _ _ _ _ (by decide) (show 50 < 91 from by decide)).trans (hdep 15 (by kernel_rfl))
              exact wpOp_valG rfl rfl (yielded_of rfl G6) (v := .bool false) (w' := W) (by simp [execOp, go_sem, E48, E50, hfp]) ⟨hIW, fun _ h => h, Or.inl ⟨_, by decide, rfl, updF_same _ _ _⟩⟩
            | 17, _, hdep =>
              have G3 : a1.tmps[38]? = some (.bool false) := by rw [← ha1]; exact (putsL_some _ _ _ _ (by decide) (show 38 < 91 from by decide)).trans (congrArg some (hdep 3 (by kernel_rfl)))
              have E41 : a1.tmps[41]?.getD undef = .bool true := by rw [← ha1]; exact (putsL_in2 _ _ _ _ (by decide) (show 41 < 91 from by decide)).trans (hdep 6 (by kernel_rfl))
              have E51 : a1.tmps[51]?.getD undef = .bool false := by rw [← ha1]; exact (putsL_in2 _ _ _ _ (by decide) (show 51 < 91 from by decide)).trans (hdep 16 (by kernel_rfl))
              exact wpOp_valG rfl rfl (yielded_of rfl G3) (v := .bool false) (w' := W) (by simp [execOp, go_sem, E41, E51]) ⟨hIW, fun _ h => h, Or.inl ⟨_, by decide, rfl, updF_same _ _ _⟩⟩
            | 18, _, hdep =>
              have E38 : a1.tmps[38]?.getD undef = .bool false := by rw [← ha1]; exact (putsL_in2 _ _ _ _ (by decide) (show 38 < 91 from by decide)).trans (hdep 3 (by kernel_rfl))
              have E52 : a1.tmps[52]?.getD undef = .bool false := by rw [← ha1]; exact (putsL_in2 _ _ _ _ (by decide) (show 52 < 91 from by decide)).trans (hdep 17 (by kernel_rfl))
              exact wpOp_val rfl rfl (v := .bool false) (w' := W) (by simp [execOp, go_sem, E38, E52]) ⟨hIW, fun _ h => h, Or.inl ⟨_, by decide, rfl, updF_same _ _ _⟩⟩
            | iq + 19, h, _ => exact absurd h (by omega)
          case refine_2 =>
            intro f W hIW hR
            have h53 : f 53 = .bool false := hR 18 (show 18 < 19 from by decide)
            simp only [putsL, List.foldl_cons, List.foldl_nil, Act.put, List.setIfInBounds_toArray, List.set_cons_zero, List.set_cons_succ]
            go_wp2
            go_meet
            exact ⟨(by first | exact h53 | rfl), Lib.hid hIW⟩
        case rest =>
          obtain ⟨rfl, HJ10⟩ := hcut
          have HBN := Lib.hid (HJW.out _ HJ10.out)
          clear HJ10 HJ0 HJD HCX HCH HCC HJW egC HPV
          go_wp2
          go_roundw
          case rel => exact ⟨k + 1, by first | rfl | go_num, by omega, HBN⟩
          case measure => simp [RowKit.intOf]; omega
    · obtain rfl : k = n := by omega
      have HW3 := Lib.hid (HB2.out.trans (HB.out.mono HB2.out.size))
      have HX3 := Lib.hid (obj_below HX2.out HB.out)
      obtain ⟨w3, hw3⟩ : ∃ W, W = wr := ⟨_, rfl⟩
      rw [← hw3] at HW3 HX3 ⊢
      have hbx := HX3.out
      have vb0 := obj_cell hbx 0
      have vb1 := obj_cell hbx 1
      have vb2 := obj_cell hbx 2
      simp at vb0 vb1 vb2
      clear hbx hw3 HB HCS HAS HCO HX2 HB2 HCR
      generalize hkk : k = n' at *
      go_wp2
      go_loopw [58] (fun i wr => ∃ k : Nat, i = .int .i64 k ∧ k ≤ m ∧ Hid (Below w3.heap.size w3 wr)) (fun i _ => m - (RowKit.intOf i).toNat)
      case atStart => exact ⟨0, rfl, by omega, Lib.hid (Below.refl _ _)⟩
      case round =>
        clear vb0 vb1 vb2
        obtain ⟨k, rfl, hkn, HB⟩ := hrel
        by_cases hlt : k < m
        · have hkP : k < P.length := by rw [← HM.out]; exact hlt
          obtain ⟨b, o, rfl, hb, hcc⟩ := HPS.out (by omega)
          have HCW : Hid (∀ W, Below w3.heap.size w3 W → ∀ q (hq : q < P.length) j, j < 7 → W.cell? ⟨b, o + q * 7 + j, none⟩ = (prsC P[q])[j]?) := Lib.hid fun W hW q hq j hj => ((HW3.out.trans (hW.mono HW3.out.size)).cell (p := ⟨b, o + q * 7 + j, none⟩) hb).trans (hcc q hq j hj)
          have hcell := fun j (hj : j < 7) => HCW.out wr HB.out k hkP j hj
          have hv := HVE.out k hkP
          obtain ⟨VM, hVM⟩ : ∃ V : Nat → Int, V = fun q => versM (P[k]).yr (P.take q) := ⟨_, rfl⟩
          have hver : (P[k]).ver = VM k + 1 := by rw [hVM]; exact hv.2.2
          have HV0 : Hid (VM 0 = 0) := Lib.hid (by rw [hVM]; rfl)
          have HVS : Hid (∀ q (hq : q < P.length), VM (q + 1) = VM q + (if (P[q]).yr = (P[k]).yr then 1 else 0)) := Lib.hid fun q hq => by
            rw [hVM]
            show versM _ (P.take (q + 1)) = _
            rw [List.take_succ_eq_append_getElem hq, versM_snoc]
          have HVB : Hid (∀ q, 0 ≤ VM q ∧ VM q ≤ (q : Int)) := Lib.hid fun q => by
            rw [hVM]
            have h1 := versM_len (P[k]).yr (P.take q)
            have h2 : (P.take q).length ≤ q := by rw [List.length_take]; omega
            show 0 ≤ versM _ (P.take q) ∧ versM _ (P.take q) ≤ (q : Int)
            exact ⟨h1.1, by omega⟩
          have hyr : 0 ≤ (P[k]).yr ∧ (P[k]).yr ≤ 99 := ⟨hv.1, hv.2.1⟩
          clear hcc hv hVM
          generalize hpk : P[k] = x at *
          obtain ⟨x0, x1, x2, x3, x4, x5, x6⟩ := x
          simp only at hver HVS hyr
          obtain rfl := hver
          have c0 := hcell 0 (by omega)
          have c1 := hcell 1 (by omega)
          have c2 := hcell 2 (by omega)
          have c3 := hcell 3 (by omega)
          have c4 := hcell 4 (by omega)
          have c5 := hcell 5 (by omega)
          have c6 := hcell 6 (by omega)
          simp [prsC] at c0 c1 c2 c3 c4 c5 c6
          have hwk : IntKind.i64.wrap ((k : Int) + 1) = (k : Int) + 1 := IntWalk.i64_in _ (by omega)
          have hk0 : (0 : Int) ≤ (k : Int) := by omega
          have hk1 : (k : Int) < (m : Int) := by omega
          have hk2 : (k : Int) ≤ (cp : Int) := by omega
          have hk3 : k ≤ cp := by omega
          obtain ⟨w8, hw8⟩ : ∃ W, W = wr.alloc (.cells #[.int .i64 x0, .int .i64 (VM k + 1), .int .i64 x2, .int .i64 x3, .int .i64 x4, .int .i64 x5, .int .i64 x6] 40) := ⟨_, rfl⟩
          obtain ⟨bX, hbX⟩ : ∃ q, q = wr.heap.size := ⟨_, rfl⟩
          have HX8 : Hid (w8.heap[bX]? = some (.cells #[.int .i64 x0, .int .i64 (VM k + 1), .int .i64 x2, .int .i64 x3, .int .i64 x4, .int .i64 x5, .int .i64 x6] 40 (0, 0))) := Lib.hid (by rw [hw8, hbX]; exact heap_alloc_new _ _)
          have HB8 : Hid (Below w3.heap.size w3 w8) := Lib.hid (by rw [hw8]; exact HB.out.alloc HB.out.size _)
          have hbx := obj_below HX3.out HB8.out
          have vb0 := obj_cell hbx 0
          have vb1 := obj_cell hbx 1
          have vb2 := obj_cell hbx 2
          simp at vb0 vb1 vb2
          have HW8 := Lib.hid hw8
          have HBX := Lib.hid hbX
          clear hcell hw8 hbX hbx hpk
          go_upto_region 16 with fail
          rw [← HW8.out, ← HBX.out]
          clear c0 c1 c2 c3 c4 c5 c6
          go_wp2
          go_loopw [68, 8] (fun iv cv wz => ∃ q : Nat, iv = .int .i64 q ∧ cv = .int .i64 (VM q + 1) ∧ q ≤ k ∧ Hid (Below w8.heap.size w8 wz)) (fun iv _ _ => k - (RowKit.intOf iv).toNat)
          case atStart => exact ⟨0, rfl, by rw [HV0.out]; rfl, by omega, Lib.hid (Below.refl _ _)⟩
          case round =>
            clear vb0 vb1 vb2
            obtain ⟨q, rfl, rfl, hqk, HBQ⟩ := hrel
            have HBZ := Lib.hid (HB8.out.trans (HBQ.out.mono HB8.out.size))
            by_cases hlq : q < k
            · have hqP : q < P.length := by rw [← HM.out]; omega
              have hcell := fun j (hj : j < 7) => HCW.out _ HBZ.out q hqP j hj
              have hvs := HVS.out q hqP
              have hvb := HVB.out q
              generalize P[q] = z at *
              obtain ⟨z0, z1, z2, z3, z4, z5, z6⟩ := z
              simp only at hvs
              have d0 := hcell 0 (by omega)
              have d1 := hcell 1 (by omega)
              have d2 := hcell 2 (by omega)
              have d3 := hcell 3 (by omega)
              have d4 := hcell 4 (by omega)
              have d5 := hcell 5 (by omega)
              have d6 := hcell 6 (by omega)
              simp [prsC] at d0 d1 d2 d3 d4 d5 d6
              have hwq : IntKind.i64.wrap ((q : Int) + 1) = (q : Int) + 1 := IntWalk.i64_in _ (by omega)
              have hwv : IntKind.i64.wrap (VM q + 1 + 1) = VM q + 1 + 1 := IntWalk.i64_in _ (by omega)
              have hq0 : (0 : Int) ≤ (q : Int) := by omega
              have hq1 : (q : Int) < (k : Int) := by omega
              obtain ⟨w9, hw9⟩ : ∃ W, W = wr.alloc (.cells #[.int .i64 z0, .int .i64 z1, .int .i64 z2, .int .i64 z3, .int .i64 z4, .int .i64 z5, .int .i64 z6] 40) := ⟨_, rfl⟩
              obtain ⟨bZ, hbZ⟩ : ∃ q, q = wr.heap.size := ⟨_, rfl⟩
              have hx9 : w9.heap[bZ]? = some (.cells #[.int .i64 z0, .int .i64 z1, .int .i64 z2, .int .i64 z3, .int .i64 z4, .int .i64 z5, .int .i64 z6] 40 (0, 0)) := by rw [hw9, hbZ]; exact heap_alloc_new _ _
              have HB9 : Hid (Below w8.heap.size w8 w9) := Lib.hid (by rw [hw9]; exact HBQ.out.alloc HBQ.out.size _)
              have e0 := obj_cell hx9 0
              simp at e0
              have f0 := obj_cell (obj_below HX8.out HB9.out) 0
              simp at f0
              have HW9 := Lib.hid hw9
              have HBZ9 := Lib.hid hbZ
              clear hcell hw9 hbZ hx9
              go_upto_region 19 with fail
              rw [← HW9.out, ← HBZ9.out]
              clear d0 d1 d2 d3 d4 d5 d6
              by_cases he : z0 = x0
              · rw [if_pos he] at hvs
                subst he
                go_wp2
                go_roundw
                case rel => exact ⟨q + 1, by first | rfl | go_num, by rw [hvs], by omega, HB9⟩
                case measure => simp [RowKit.intOf]; omega
              · rw [if_neg he, Int.add_zero] at hvs
                go_wp2
                go_roundw
                case rel => exact ⟨q + 1, by first | rfl | go_num, by rw [hvs], by omega, HB9⟩
                case measure => simp [RowKit.intOf]; omega
            · obtain rfl : q = k := by omega
              have hx9 := obj_below HX8.out HBQ.out
              have f0 := obj_cell hx9 0
              have f1 := obj_cell hx9 1
              simp at f0 f1
              clear hx9
              go_wp2_with fail
              refine (rfyear_yes _ hyr.1 hyr.2).mono ?_
              rintro e w' ⟨rfl, rfl⟩
              go_wp2
              go_roundw
              case rel => exact ⟨q + 1, by first | rfl | go_num, by omega, HBZ⟩
              case measure => simp [RowKit.intOf]; omega
        · obtain rfl : k = m := by omega
          have HW4 := Lib.hid (HW3.out.trans (HB.out.mono HW3.out.size))
          clear HPS
          go_wp2
          go_ret
          exact ⟨rfl, HW4.out⟩

end Go.Proofs.Ytoccnindkimjdaa
