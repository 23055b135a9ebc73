/- The package's rightCorrections, rightPresented, Check, on right histories. -/
import Derived.Test.YtoccnindkimjdaaMRsJ
set_option linter.unusedSimpArgs false
set_option linter.unusedVariables false
set_option linter.unusedSimpArgs false
set_option linter.unusedVariables false
namespace Go.Proofs.Ytoccnindkimjdaa
open Go.RowKit Go.Lib Go.Proofs

set_option maxRecDepth 100000 in
set_option maxHeartbeats 16000000 in
theorem rsrightCorrections_ok {C : List Cor} (hlen : C.length ≤ 1000) (hco : ∀ c ∈ C, CorOk c) (has : ∀ i (q : i + 1 < C.length), (C[i]).fnd ≤ (C[i + 1]).fnd) (vc : Value) (w : World) (ha : CorsAt w vc C) :
    Calls Try.prog 27 #[vc] w fun e w' => e = .returned (.bool true) ∧ Below w.heap.size w w' := by
  obtain ⟨rs, hac, hcr⟩ := ha
  obtain ⟨ac, cc, rfl, hcc', hcs⟩ := hac.shape crrF
  have hrl := hcr.len
  have HCS := Lib.hid hcs
  have HCO := Lib.hid hco
  have HAS := Lib.hid has
  have HCR := Lib.hid (fun W (hW : Below w.heap.size w W) => hcr.imp fun v l (q : PstsAt w v l) => (ListAt.below q hW : PstsAt W v l))
  rw [hrl] at hcc' ⊢
  obtain ⟨n, hn⟩ : ∃ n, n = C.length := ⟨_, rfl⟩
  have HN := Lib.hid hn
  have HRL := Lib.hid hrl
  rw [← hn] at hcc' hlen ⊢
  clear hn hrl hcs hco has hac hcr
  go_enter Try.func27, Try.ntmps27
  go_wp2
  go_loopw [7] (fun i wr => ∃ k : Nat, i = .int .i64 k ∧ k ≤ n ∧ Hid (Below w.heap.size w wr)) (fun i _ => n - (RowKit.intOf i).toNat)
  case atStart => exact ⟨0, rfl, by omega, Lib.hid (Below.refl _ _)⟩
  case round =>
    obtain ⟨k, rfl, hkn, HB⟩ := hrel
    by_cases hlt : k < n
    · have hkC : k < C.length := by rw [← HN.out]; exact hlt
      have hkR : k < rs.length := by rw [HRL.out]; exact hkC
      obtain ⟨b, o, rfl, hb, hcc⟩ := HCS.out (by omega)
      have hcell := fun j (hj : j < 3) => (HB.out.cell (p := ⟨b, o + k * 3 + j, none⟩) hb).trans (hcc k hkR j hj)
      have hpf : ∀ j, k = j + 1 → ∃ pf : Int, (∀ W, Below w.heap.size w W → W.cell? ⟨b, o + j * 3 + 1, none⟩ = some (.int .i64 pf)) ∧ ¬ (C[k]).fnd < pf := fun j hj => by
        subst hj
        have h3 := HAS.out j hkC
        have h4 := (HCR.out _ (Below.refl _ _)).get j (by omega) (by omega)
        refine ⟨(rs[j]).fnd, fun W hW => ?_, ?_⟩
        · rw [(hW.cell (p := ⟨b, o + j * 3 + 1, none⟩) hb), hcc j (by omega) 1 (by omega)]
          rfl
        · rw [h4.2.1]; omega
      have hg := fun W hW => (HCR.out W hW).get k hkR hkC
      have hcok := HCO.out _ (List.getElem_mem hkC)
      have HCC0 : Hid (∀ W, Below w.heap.size w W → Calls Try.prog 53 #[.agg #[.int .i64 (rs[k]).yr, .int .i64 (rs[k]).fnd, (rs[k]).sl.v]] W fun e w' => e = .returned (.bool true) ∧ Below W.heap.size W w') := Lib.hid fun W hW => by
        obtain ⟨g1, g2, g3⟩ := hg W hW
        rw [g1, g2]
        exact rsrightCorrection_ok hcok _ W g3
      have hfe := (hg _ (Below.refl _ _)).2.1
      rw [← hfe] at hpf
      have HPF := Lib.hid hpf
      clear hcc hg hcok hfe hpf
      generalize rs[k] = x at *
      obtain ⟨x0, x1, xa, xn, xc⟩ := x
      simp only [Sli.v] at HCC0
      simp only at HPF
      have c0 := hcell 0 (by omega)
      have c1 := hcell 1 (by omega)
      have c2 := hcell 2 (by omega)
      simp [crrC] at c0 c1 c2
      have hwk : IntKind.i64.wrap ((k : Int) + 1) = (k : Int) + 1 := IntWalk.i64_in _ (by omega)
      have hk0 : (0 : Int) ≤ (k : Int) := by omega
      have hk1 : (k : Int) < (n : Int) := by omega
      obtain ⟨w8, hw8⟩ : ∃ W, W = wr.alloc (.cells #[.int .i64 x0, .int .i64 x1, .slice xa xn xc] 49) := ⟨_, rfl⟩
      obtain ⟨bX, hbX⟩ : ∃ q, q = wr.heap.size := ⟨_, rfl⟩
      have HX8 : Hid (w8.heap[bX]? = some (.cells #[.int .i64 x0, .int .i64 x1, .slice xa xn xc] 49 (0, 0))) := Lib.hid (by rw [hw8, hbX]; exact heap_alloc_new _ _)
      have HB8 : Hid (Below w.heap.size w w8) := Lib.hid (by rw [hw8]; exact HB.out.alloc HB.out.size _)
      have HW8 := Lib.hid hw8
      have HBX := Lib.hid hbX
      clear hcell hw8 hbX
      go_upto_region 4 with fail
      rw [← HW8.out, ← HBX.out]
      clear c0 c1 c2
      obtain ⟨J, hJ⟩ : ∃ J, J = fun W : World => Below w8.heap.size w8 W := ⟨_, rfl⟩
      have HJO : Hid (∀ W, J W → Below w8.heap.size w8 W) := Lib.hid fun W hW => by rw [hJ] at hW; exact hW
      have HJI : Hid (∀ W, Below w8.heap.size w8 W → J W) := Lib.hid fun W hW => by rw [hJ]; exact hW
      have HJD : Hid (∀ W, J W → J W.drew) := Lib.hid fun W hW => HJI.out _ ((HJO.out W hW).drew)
      have HJ0 : Hid (J w8) := Lib.hid (HJI.out _ (Below.refl _ _))
      have HJW : Hid (∀ W, J W → Below w.heap.size w W) := Lib.hid fun W hW => HB8.out.trans ((HJO.out W hW).mono HB8.out.size)
      have HCX : Hid (∀ W, J W → ∀ i, W.cell? ⟨bX, i, none⟩ = #[.int .i64 x0, .int .i64 x1, .slice xa xn xc][i]?) := Lib.hid fun W hW i => obj_cell (obj_below HX8.out (HJO.out W hW)) i
      have HCC : Hid (∀ W, J W → Calls Try.prog 53 #[.agg #[.int .i64 x0, .int .i64 x1, .slice xa xn xc]] W fun e w' => e = .returned (.bool true) ∧ J w') := Lib.hid fun W hW => (HCC0.out W (HJW.out W hW)).mono fun e w' ⟨h1, h2⟩ => ⟨h1, HJI.out _ ((HJO.out W hW).trans (h2.mono (HJO.out W hW).size))⟩
      have egC := enters_of Try.func53 (by kernel_rfl) rfl
      rcases Nat.eq_zero_or_pos k with hk | hk
      · have hkz : ¬ (0 : Int) < (k : Int) := by omega
        have hkt : (k = 0) = True := eq_true hk
        clear hk HPF HCC0 HJI hJ
        go_cut [29] (fun bv wx => bv = .bool false ∧ Hid (J wx))
        case first =>
          refine wp_region_props [12, 13, 14, 15, 16, 17, 18, 19, 20, 21, 22, 23, 24, 25, 26, 27, 28, 29] (slotS [12, 13, 14, 15, 16, 17, 18, 19, 20, 21, 22, 23, 24, 25, 26, 27, 28, 29]) (readsS [12, 13, 14, 15, 16, 17, 18, 19, 20, 21, 22, 23, 24, 25, 26, 27, 28, 29]) (RTs [12, 13, 14, 15, 16, 17, 18, 19, 20, 21, 22, 23, 24, 25, 26, 27, 28, 29] [.agg #[.int .i64 x0, .int .i64 x1, .slice xa xn xc], .bool true, .bool false, .bool false, .int .i64 (k : Int), .bool false, .bool false, undef, undef, undef, undef, undef, undef, undef, undef, undef, .bool false, .bool false]) J (by kernel_rfl) (by kernel_rfl) (by kernel_rfl) (HJD.out _ HJ0.out) (fun j f q v W hq h => RTs.upd hq h) ?_ ?_
          case refine_1 =>
            intro iq hiq f W hIW hdep
            have hiq' : iq < 18 := hiq
            generalize ha1 : putsL _ [12, 13, 14, 15, 16, 17, 18, 19, 20, 21, 22, 23, 24, 25, 26, 27, 28, 29] f = a1
            match iq, hiq', hdep with
            | 0, _, hdep =>
              have E4 : a1.tmps[4]?.getD undef = .pointer (some ⟨bX, 0, none⟩) := by rw [← ha1]; exact (putsL_out2 _ _ _ _ (by decide)).trans rfl
              have v0 : W.cell? ⟨bX, 0, none⟩ = some (.int .i64 x0) := by simpa using HCX.out W hIW 0
              have v1 : W.cell? ⟨bX, 1, none⟩ = some (.int .i64 x1) := by simpa using HCX.out W hIW 1
              have v2 : W.cell? ⟨bX, 2, none⟩ = some (.slice xa xn xc) := by simpa using HCX.out W hIW 2
              exact wpOp_val rfl rfl (v := .agg #[.int .i64 x0, .int .i64 x1, .slice xa xn xc]) (w' := W) (by simp [execOp, go_sem, E4, v0, v1, v2]) ⟨hIW, fun _ h => h, Or.inl ⟨_, by decide, rfl, updF_same _ _ _⟩⟩
            | 1, _, hdep =>
              have E12 : a1.tmps[12]?.getD undef = .agg #[.int .i64 x0, .int .i64 x1, .slice xa xn xc] := by rw [← ha1]; exact (putsL_in2 _ _ _ _ (by decide) (show 12 < 31 from by decide)).trans (hdep 0 (by kernel_rfl))
              refine wpOp_call rfl rfl (n := 53) (vs := #[.agg #[.int .i64 x0, .int .i64 x1, .slice xa xn xc]]) (by have := egC #[.agg #[.int .i64 x0, .int .i64 x1, .slice xa xn xc]] W; simp [execOp, E12, resolve, invoke, go_sem] <;> exact this) ((HCC.out W hIW).mono fun e w' h => (⟨_, h.1, rfl, h.2⟩ : ∃ v, e = .returned v ∧ (v = .bool true ∧ J w'))) ?_
              rintro v w' ⟨rfl, hI'⟩
              exact ⟨hI', fun _ h => h, Or.inl ⟨_, by decide, rfl, updF_same _ _ _⟩⟩
            | 2, _, hdep =>
              have E13 : a1.tmps[13]?.getD undef = .bool true := by rw [← ha1]; exact (putsL_in2 _ _ _ _ (by decide) (show 13 < 31 from by decide)).trans (hdep 1 (by kernel_rfl))
              exact wpOp_val rfl rfl (v := .bool false) (w' := W) (by simp [execOp, go_sem, E13]) ⟨hIW, fun _ h => h, Or.inl ⟨_, by decide, rfl, updF_same _ _ _⟩⟩
            | 3, _, hdep =>
              have E14 : a1.tmps[14]?.getD undef = .bool false := by rw [← ha1]; exact (putsL_in2 _ _ _ _ (by decide) (show 14 < 31 from by decide)).trans (hdep 2 (by kernel_rfl))
              exact wpOp_val rfl rfl (v := .bool false) (w' := W) (by simp [execOp, go_sem, E14]) ⟨hIW, fun _ h => h, Or.inl ⟨_, by decide, rfl, updF_same _ _ _⟩⟩
            | 4, _, hdep =>
              have G3 : a1.tmps[15]? = some (.bool false) := by rw [← ha1]; exact (putsL_some _ _ _ _ (by decide) (show 15 < 31 from by decide)).trans (congrArg some (hdep 3 (by kernel_rfl)))
              have E3 : a1.tmps[3]?.getD undef = .int .i64 (k : Int) := by rw [← ha1]; exact (putsL_out2 _ _ _ _ (by decide)).trans rfl
              exact wpOp_valG rfl rfl (yielded_of rfl G3) (v := .int .i64 (k : Int)) (w' := W) (by simp [execOp, go_sem, E3]) ⟨hIW, fun _ h => h, Or.inl ⟨_, by decide, rfl, updF_same _ _ _⟩⟩
            | 5, _, hdep =>
              have G3 : a1.tmps[15]? = some (.bool false) := by rw [← ha1]; exact (putsL_some _ _ _ _ (by decide) (show 15 < 31 from by decide)).trans (congrArg some (hdep 3 (by kernel_rfl)))
              have E16 : a1.tmps[16]?.getD undef = .int .i64 (k : Int) := by rw [← ha1]; exact (putsL_in2 _ _ _ _ (by decide) (show 16 < 31 from by decide)).trans (hdep 4 (by kernel_rfl))
              exact wpOp_valG rfl rfl (yielded_of rfl G3) (v := .bool false) (w' := W) (by simp [execOp, go_sem, E16, hkz, hkt]) ⟨hIW, fun _ h => h, Or.inl ⟨_, by decide, rfl, updF_same _ _ _⟩⟩
            | 6, _, hdep =>
              have G3 : a1.tmps[15]? = some (.bool false) := by rw [← ha1]; exact (putsL_some _ _ _ _ (by decide) (show 15 < 31 from by decide)).trans (congrArg some (hdep 3 (by kernel_rfl)))
              have E17 : a1.tmps[17]?.getD undef = .bool false := by rw [← ha1]; exact (putsL_in2 _ _ _ _ (by decide) (show 17 < 31 from by decide)).trans (hdep 5 (by kernel_rfl))
              exact wpOp_valG rfl rfl (yielded_of rfl G3) (v := .bool false) (w' := W) (by simp [execOp, go_sem, E17]) ⟨hIW, fun _ h => h, Or.inl ⟨_, by decide, rfl, updF_same _ _ _⟩⟩
            | 7, _, hdep =>
              have G6 : a1.tmps[18]? = some (.bool false) := by rw [← ha1]; exact (putsL_some _ _ _ _ (by decide) (show 18 < 31 from by decide)).trans (congrArg some (hdep 6 (by kernel_rfl)))
              exact wpOp_off rfl rfl (yielded_of rfl G6) ⟨hIW, fun _ h => h, Or.inl ⟨_, by decide, rfl, updF_same _ _ _⟩⟩
            | 8, _, hdep =>
              have G6 : a1.tmps[18]? = some (.bool false) := by rw [← ha1]; exact (putsL_some _ _ _ _ (by decide) (show 18 < 31 from by decide)).trans (congrArg some (hdep 6 (by kernel_rfl)))
              exact wpOp_off rfl rfl (yielded_of rfl G6) ⟨hIW, fun _ h => h, Or.inl ⟨_, by decide, rfl, updF_same _ _ _⟩⟩
            | 9, _, hdep =>
              have G6 : a1.tmps[18]? = some (.bool false) := by rw [← ha1]; exact (putsL_some _ _ _ _ (by decide) (show 18 < 31 from by decide)).trans (congrArg some (hdep 6 (by kernel_rfl)))
              exact wpOp_off rfl rfl (yielded_of rfl G6) ⟨hIW, fun _ h => h, Or.inl ⟨_, by decide, rfl, updF_same _ _ _⟩⟩
            | 10, _, hdep =>
              have G6 : a1.tmps[18]? = some (.bool false) := by rw [← ha1]; exact (putsL_some _ _ _ _ (by decide) (show 18 < 31 from by decide)).trans (congrArg some (hdep 6 (by kernel_rfl)))
              exact wpOp_off rfl rfl (yielded_of rfl G6) ⟨hIW, fun _ h => h, Or.inl ⟨_, by decide, rfl, updF_same _ _ _⟩⟩
            | 11, _, hdep =>
              have G6 : a1.tmps[18]? = some (.bool false) := by rw [← ha1]; exact (putsL_some _ _ _ _ (by decide) (show 18 < 31 from by decide)).trans (congrArg some (hdep 6 (by kernel_rfl)))
              exact wpOp_off rfl rfl (yielded_of rfl G6) ⟨hIW, fun _ h => h, Or.inl ⟨_, by decide, rfl, updF_same _ _ _⟩⟩
            | 12, _, hdep =>
              have G6 : a1.tmps[18]? = some (.bool false) := by rw [← ha1]; exact (putsL_some _ _ _ _ (by decide) (show 18 < 31 from by decide)).trans (congrArg some (hdep 6 (by kernel_rfl)))
              exact wpOp_off rfl rfl (yielded_of rfl G6) ⟨hIW, fun _ h => h, Or.inl ⟨_, by decide, rfl, updF_same _ _ _⟩⟩
            | 13, _, hdep =>
              have G6 : a1.tmps[18]? = some (.bool false) := by rw [← ha1]; exact (putsL_some _ _ _ _ (by decide) (show 18 < 31 from by decide)).trans (congrArg some (hdep 6 (by kernel_rfl)))
              exact wpOp_off rfl rfl (yielded_of rfl G6) ⟨hIW, fun _ h => h, Or.inl ⟨_, by decide, rfl, updF_same _ _ _⟩⟩
            | 14, _, hdep =>
              have G6 : a1.tmps[18]? = some (.bool false) := by rw [← ha1]; exact (putsL_some _ _ _ _ (by decide) (show 18 < 31 from by decide)).trans (congrArg some (hdep 6 (by kernel_rfl)))
              exact wpOp_off rfl rfl (yielded_of rfl G6) ⟨hIW, fun _ h => h, Or.inl ⟨_, by decide, rfl, updF_same _ _ _⟩⟩
            | 15, _, hdep =>
              have G6 : a1.tmps[18]? = some (.bool false) := by rw [← ha1]; exact (putsL_some _ _ _ _ (by decide) (show 18 < 31 from by decide)).trans (congrArg some (hdep 6 (by kernel_rfl)))
              exact wpOp_off rfl rfl (yielded_of rfl G6) ⟨hIW, fun _ h => h, Or.inl ⟨_, by decide, rfl, updF_same _ _ _⟩⟩
            | 16, _, hdep =>
              have G3 : a1.tmps[15]? = some (.bool false) := by rw [← ha1]; exact (putsL_some _ _ _ _ (by decide) (show 15 < 31 from by decide)).trans (congrArg some (hdep 3 (by kernel_rfl)))
              have E18 : a1.tmps[18]?.getD undef = .bool false := by rw [← ha1]; exact (putsL_in2 _ _ _ _ (by decide) (show 18 < 31 from by decide)).trans (hdep 6 (by kernel_rfl))
              exact wpOp_valG rfl rfl (yielded_of rfl G3) (v := .bool false) (w' := W) (by simp [execOp, go_sem, E18]) ⟨hIW, fun _ h => h, Or.inl ⟨_, by decide, rfl, updF_same _ _ _⟩⟩
            | 17, _, hdep =>
              have E15 : a1.tmps[15]?.getD undef = .bool false := by rw [← ha1]; exact (putsL_in2 _ _ _ _ (by decide) (show 15 < 31 from by decide)).trans (hdep 3 (by kernel_rfl))
              have E28 : a1.tmps[28]?.getD undef = .bool false := by rw [← ha1]; exact (putsL_in2 _ _ _ _ (by decide) (show 28 < 31 from by decide)).trans (hdep 16 (by kernel_rfl))
              exact wpOp_val rfl rfl (v := .bool false) (w' := W) (by simp [execOp, go_sem, E15, E28]) ⟨hIW, fun _ h => h, Or.inl ⟨_, by decide, rfl, updF_same _ _ _⟩⟩
            | iq + 18, h, _ => exact absurd h (by omega)
          case refine_2 =>
            intro f W hIW hR
            have h29 : f 29 = .bool false := hR 17 (show 17 < 18 from by decide)
            simp only [putsL, List.foldl_cons, List.foldl_nil, Act.put, List.setIfInBounds_toArray, List.set_cons_zero, List.set_cons_succ]
            go_wp2
            go_meet
            exact ⟨(by first | exact h29 | rfl), Lib.hid hIW⟩
        case rest =>
          obtain ⟨rfl, HJ10⟩ := hcut
          have HBN := Lib.hid (HJW.out _ HJ10.out)
          clear HJ10 HJ0 HJD HCX HCC HJW egC
          go_wp2
          go_roundw
          case rel => exact ⟨k + 1, by first | rfl | go_num, by omega, HBN⟩
          case measure => simp [RowKit.intOf]; omega
      · obtain ⟨j, hk⟩ : ∃ j, k = j + 1 := ⟨k - 1, by omega⟩
        have hkz : (0 : Int) < (k : Int) := by omega
        obtain ⟨pf, hpv, hfp⟩ := HPF.out j hk
        have HPV : Hid (∀ W, J W → W.cell? ⟨b, o + j * 3 + 1, none⟩ = some (.int .i64 pf)) := Lib.hid fun W hW => hpv W (HJW.out W hW)
        have hwj : IntKind.i64.wrap ((k : Int) - 1) = (j : Int) := by rw [show (k : Int) - 1 = (j : Int) by omega]; exact IntWalk.i64_in _ (by omega)
        have hj0 : (0 : Int) ≤ (j : Int) := by omega
        have hj1 : (j : Int) < (n : Int) := by omega
        have hkt : 0 < k := by omega
        clear hk hpv HPF HCC0 HJI hJ
        go_cut [29] (fun bv wx => bv = .bool false ∧ Hid (J wx))
        case first =>
          refine wp_region_props [12, 13, 14, 15, 16, 17, 18, 19, 20, 21, 22, 23, 24, 25, 26, 27, 28, 29] (slotS [12, 13, 14, 15, 16, 17, 18, 19, 20, 21, 22, 23, 24, 25, 26, 27, 28, 29]) (readsS [12, 13, 14, 15, 16, 17, 18, 19, 20, 21, 22, 23, 24, 25, 26, 27, 28, 29]) (RTs [12, 13, 14, 15, 16, 17, 18, 19, 20, 21, 22, 23, 24, 25, 26, 27, 28, 29] [.agg #[.int .i64 x0, .int .i64 x1, .slice xa xn xc], .bool true, .bool false, .bool false, .int .i64 (k : Int), .bool true, .bool true, .slice (some ⟨b, o, none⟩) n cc, .int .i64 (k : Int), .int .i64 (j : Int), .pointer (some ⟨b, o + j * 3, none⟩), .pointer (some ⟨b, o + j * 3 + 1, none⟩), .int .i64 pf, .pointer (some ⟨bX, 1, none⟩), .int .i64 x1, .bool false, .bool false, .bool false]) J (by kernel_rfl) (by kernel_rfl) (by kernel_rfl) (HJD.out _ HJ0.out) (fun j f q v W hq h => RTs.upd hq h) ?_ ?_
          case refine_1 =>
            intro iq hiq f W hIW hdep
            have hiq' : iq < 18 := hiq
            generalize ha1 : putsL _ [12, 13, 14, 15, 16, 17, 18, 19, 20, 21, 22, 23, 24, 25, 26, 27, 28, 29] f = a1
            match iq, hiq', hdep with
            | 0, _, hdep =>
              have E4 : a1.tmps[4]?.getD undef = .pointer (some ⟨bX, 0, none⟩) := by rw [← ha1]; exact (putsL_out2 _ _ _ _ (by decide)).trans rfl
              have v0 : W.cell? ⟨bX, 0, none⟩ = some (.int .i64 x0) := by simpa using HCX.out W hIW 0
              have v1 : W.cell? ⟨bX, 1, none⟩ = some (.int .i64 x1) := by simpa using HCX.out W hIW 1
              have v2 : W.cell? ⟨bX, 2, none⟩ = some (.slice xa xn xc) := by simpa using HCX.out W hIW 2
              exact wpOp_val rfl rfl (v := .agg #[.int .i64 x0, .int .i64 x1, .slice xa xn xc]) (w' := W) (by simp [execOp, go_sem, E4, v0, v1, v2]) ⟨hIW, fun _ h => h, Or.inl ⟨_, by decide, rfl, updF_same _ _ _⟩⟩
            | 1, _, hdep =>
              have E12 : a1.tmps[12]?.getD undef = .agg #[.int .i64 x0, .int .i64 x1, .slice xa xn xc] := by rw [← ha1]; exact (putsL_in2 _ _ _ _ (by decide) (show 12 < 31 from by decide)).trans (hdep 0 (by kernel_rfl))
              refine wpOp_call rfl rfl (n := 53) (vs := #[.agg #[.int .i64 x0, .int .i64 x1, .slice xa xn xc]]) (by have := egC #[.agg #[.int .i64 x0, .int .i64 x1, .slice xa xn xc]] W; simp [execOp, E12, resolve, invoke, go_sem] <;> exact this) ((HCC.out W hIW).mono fun e w' h => (⟨_, h.1, rfl, h.2⟩ : ∃ v, e = .returned v ∧ (v = .bool true ∧ J w'))) ?_
              rintro v w' ⟨rfl, hI'⟩
              exact ⟨hI', fun _ h => h, Or.inl ⟨_, by decide, rfl, updF_same _ _ _⟩⟩
            | 2, _, hdep =>
              have E13 : a1.tmps[13]?.getD undef = .bool true := by rw [← ha1]; exact (putsL_in2 _ _ _ _ (by decide) (show 13 < 31 from by decide)).trans (hdep 1 (by kernel_rfl))
              exact wpOp_val rfl rfl (v := .bool false) (w' := W) (by simp [execOp, go_sem, E13]) ⟨hIW, fun _ h => h, Or.inl ⟨_, by decide, rfl, updF_same _ _ _⟩⟩
            | 3, _, hdep =>
              have E14 : a1.tmps[14]?.getD undef = .bool false := by rw [← ha1]; exact (putsL_in2 _ _ _ _ (by decide) (show 14 < 31 from by decide)).trans (hdep 2 (by kernel_rfl))
              exact wpOp_val rfl rfl (v := .bool false) (w' := W) (by simp [execOp, go_sem, E14]) ⟨hIW, fun _ h => h, Or.inl ⟨_, by decide, rfl, updF_same _ _ _⟩⟩
            | 4, _, hdep =>
              have G3 : a1.tmps[15]? = some (.bool false) := by rw [← ha1]; exact (putsL_some _ _ _ _ (by decide) (show 15 < 31 from by decide)).trans (congrArg some (hdep 3 (by kernel_rfl)))
              have E3 : a1.tmps[3]?.getD undef = .int .i64 (k : Int) := by rw [← ha1]; exact (putsL_out2 _ _ _ _ (by decide)).trans rfl
              exact wpOp_valG rfl rfl (yielded_of rfl G3) (v := .int .i64 (k : Int)) (w' := W) (by simp [execOp, go_sem, E3]) ⟨hIW, fun _ h => h, Or.inl ⟨_, by decide, rfl, updF_same _ _ _⟩⟩
            | 5, _, hdep =>
              have G3 : a1.tmps[15]? = some (.bool false) := by rw [← ha1]; exact (putsL_some _ _ _ _ (by decide) (show 15 < 31 from by decide)).trans (congrArg some (hdep 3 (by kernel_rfl)))
              have E16 : a1.tmps[16]?.getD undef = .int .i64 (k : Int) := by rw [← ha1]; exact (putsL_in2 _ _ _ _ (by decide) (show 16 < 31 from by decide)).trans (hdep 4 (by kernel_rfl))
              exact wpOp_valG rfl rfl (yielded_of rfl G3) (v := .bool true) (w' := W) (by simp [execOp, go_sem, E16, hkz, hkt]) ⟨hIW, fun _ h => h, Or.inl ⟨_, by decide, rfl, updF_same _ _ _⟩⟩
            | 6, _, hdep =>
              have G3 : a1.tmps[15]? = some (.bool false) := by rw [← ha1]; exact (putsL_some _ _ _ _ (by decide) (show 15 < 31 from by decide)).trans (congrArg some (hdep 3 (by kernel_rfl)))
              have E17 : a1.tmps[17]?.getD undef = .bool true := by rw [← ha1]; exact (putsL_in2 _ _ _ _ (by decide) (show 17 < 31 from by decide)).trans (hdep 5 (by kernel_rfl))
              exact wpOp_valG rfl rfl (yielded_of rfl G3) (v := .bool true) (w' := W) (by simp [execOp, go_sem, E17]) ⟨hIW, fun _ h => h, Or.inl ⟨_, by decide, rfl, updF_same _ _ _⟩⟩
            | 7, _, hdep =>
              have G6 : a1.tmps[18]? = some (.bool true) := by rw [← ha1]; exact (putsL_some _ _ _ _ (by decide) (show 18 < 31 from by decide)).trans (congrArg some (hdep 6 (by kernel_rfl)))
              have E0 : a1.tmps[0]?.getD undef = .slice (some ⟨b, o, none⟩) n cc := by rw [← ha1]; exact (putsL_out2 _ _ _ _ (by decide)).trans rfl
              exact wpOp_valG rfl rfl (yielded_of rfl G6) (v := .slice (some ⟨b, o, none⟩) n cc) (w' := W) (by simp [execOp, go_sem, E0]) ⟨hIW, fun _ h => h, Or.inl ⟨_, by decide, rfl, updF_same _ _ _⟩⟩
            | 8, _, hdep =>
              have G6 : a1.tmps[18]? = some (.bool true) := by rw [← ha1]; exact (putsL_some _ _ _ _ (by decide) (show 18 < 31 from by decide)).trans (congrArg some (hdep 6 (by kernel_rfl)))
              have E3 : a1.tmps[3]?.getD undef = .int .i64 (k : Int) := by rw [← ha1]; exact (putsL_out2 _ _ _ _ (by decide)).trans rfl
              exact wpOp_valG rfl rfl (yielded_of rfl G6) (v := .int .i64 (k : Int)) (w' := W) (by simp [execOp, go_sem, E3]) ⟨hIW, fun _ h => h, Or.inl ⟨_, by decide, rfl, updF_same _ _ _⟩⟩
            | 9, _, hdep =>
              have G6 : a1.tmps[18]? = some (.bool true) := by rw [← ha1]; exact (putsL_some _ _ _ _ (by decide) (show 18 < 31 from by decide)).trans (congrArg some (hdep 6 (by kernel_rfl)))
              have E20 : a1.tmps[20]?.getD undef = .int .i64 (k : Int) := by rw [← ha1]; exact (putsL_in2 _ _ _ _ (by decide) (show 20 < 31 from by decide)).trans (hdep 8 (by kernel_rfl))
              exact wpOp_valG rfl rfl (yielded_of rfl G6) (v := .int .i64 (j : Int)) (w' := W) (by simp [execOp, go_sem, E20, hwj]) ⟨hIW, fun _ h => h, Or.inl ⟨_, by decide, rfl, updF_same _ _ _⟩⟩
            | 10, _, hdep =>
              have G6 : a1.tmps[18]? = some (.bool true) := by rw [← ha1]; exact (putsL_some _ _ _ _ (by decide) (show 18 < 31 from by decide)).trans (congrArg some (hdep 6 (by kernel_rfl)))
              have E19 : a1.tmps[19]?.getD undef = .slice (some ⟨b, o, none⟩) n cc := by rw [← ha1]; exact (putsL_in2 _ _ _ _ (by decide) (show 19 < 31 from by decide)).trans (hdep 7 (by kernel_rfl))
              have E21 : a1.tmps[21]?.getD undef = .int .i64 (j : Int) := by rw [← ha1]; exact (putsL_in2 _ _ _ _ (by decide) (show 21 < 31 from by decide)).trans (hdep 9 (by kernel_rfl))
              exact wpOp_valG rfl rfl (yielded_of rfl G6) (v := .pointer (some ⟨b, o + j * 3, none⟩)) (w' := W) (by simp [execOp, go_sem, E19, E21, hj0, hj1]) ⟨hIW, fun _ h => h, Or.inl ⟨_, by decide, rfl, updF_same _ _ _⟩⟩
            | 11, _, hdep =>
              have G6 : a1.tmps[18]? = some (.bool true) := by rw [← ha1]; exact (putsL_some _ _ _ _ (by decide) (show 18 < 31 from by decide)).trans (congrArg some (hdep 6 (by kernel_rfl)))
              have E22 : a1.tmps[22]?.getD undef = .pointer (some ⟨b, o + j * 3, none⟩) := by rw [← ha1]; exact (putsL_in2 _ _ _ _ (by decide) (show 22 < 31 from by decide)).trans (hdep 10 (by kernel_rfl))
              exact wpOp_valG rfl rfl (yielded_of rfl G6) (v := .pointer (some ⟨b, o + j * 3 + 1, none⟩)) (w' := W) (by simp [execOp, go_sem, E22]) ⟨hIW, fun _ h => h, Or.inl ⟨_, by decide, rfl, updF_same _ _ _⟩⟩
            | 12, _, hdep =>
              have G6 : a1.tmps[18]? = some (.bool true) := by rw [← ha1]; exact (putsL_some _ _ _ _ (by decide) (show 18 < 31 from by decide)).trans (congrArg some (hdep 6 (by kernel_rfl)))
              have E23 : a1.tmps[23]?.getD undef = .pointer (some ⟨b, o + j * 3 + 1, none⟩) := by rw [← ha1]; exact (putsL_in2 _ _ _ _ (by decide) (show 23 < 31 from by decide)).trans (hdep 11 (by kernel_rfl))
              have v24 := HPV.out W hIW
              exact wpOp_valG rfl rfl (yielded_of rfl G6) (v := .int .i64 pf) (w' := W) (by simp [execOp, go_sem, E23, v24]) ⟨hIW, fun _ h => h, Or.inl ⟨_, by decide, rfl, updF_same _ _ _⟩⟩
            | 13, _, hdep =>
              have G6 : a1.tmps[18]? = some (.bool true) := by rw [← ha1]; exact (putsL_some _ _ _ _ (by decide) (show 18 < 31 from by decide)).trans (congrArg some (hdep 6 (by kernel_rfl)))
              have E4 : a1.tmps[4]?.getD undef = .pointer (some ⟨bX, 0, none⟩) := by rw [← ha1]; exact (putsL_out2 _ _ _ _ (by decide)).trans rfl
              exact wpOp_valG rfl rfl (yielded_of rfl G6) (v := .pointer (some ⟨bX, 1, none⟩)) (w' := W) (by simp [execOp, go_sem, E4]) ⟨hIW, fun _ h => h, Or.inl ⟨_, by decide, rfl, updF_same _ _ _⟩⟩
            | 14, _, hdep =>
              have G6 : a1.tmps[18]? = some (.bool true) := by rw [← ha1]; exact (putsL_some _ _ _ _ (by decide) (show 18 < 31 from by decide)).trans (congrArg some (hdep 6 (by kernel_rfl)))
              have E25 : a1.tmps[25]?.getD undef = .pointer (some ⟨bX, 1, none⟩) := by rw [← ha1]; exact (putsL_in2 _ _ _ _ (by decide) (show 25 < 31 from by decide)).trans (hdep 13 (by kernel_rfl))
              have v1 : W.cell? ⟨bX, 1, none⟩ = some (.int .i64 x1) := by simpa using HCX.out W hIW 1
              exact wpOp_valG rfl rfl (yielded_of rfl G6) (v := .int .i64 x1) (w' := W) (by simp [execOp, go_sem, E25, v1]) ⟨hIW, fun _ h => h, Or.inl ⟨_, by decide, rfl, updF_same _ _ _⟩⟩
            | 15, _, hdep =>
              have G6 : a1.tmps[18]? = some (.bool true) := by rw [← ha1]; exact (putsL_some _ _ _ _ (by decide) (show 18 < 31 from by decide)).trans (congrArg some (hdep 6 (by kernel_rfl)))
              have E24 : a1.tmps[24]?.getD undef = .int .i64 pf := by rw [← ha1]; exact (putsL_in2 _ _ _ _ (by decide) (show 24 < 31 from by decide)).trans (hdep 12 (by kernel_rfl))
              have E26 : a1.tmps[26]?.getD undef = .int .i64 x1 := by rw [← ha1]; exact (putsL_in2 _ _ _ _ (by decide) (show 26 < 31 from by decide)).trans (hdep 14 (by kernel_rfl))
              exact wpOp_valG rfl rfl (yielded_of rfl G6) (v := .bool false) (w' := W) (by simp [execOp, go_sem, E24, E26, hfp]) ⟨hIW, fun _ h => h, Or.inl ⟨_, by decide, rfl, updF_same _ _ _⟩⟩
            | 16, _, hdep =>
              have G3 : a1.tmps[15]? = some (.bool false) := by rw [← ha1]; exact (putsL_some _ _ _ _ (by decide) (show 15 < 31 from by decide)).trans (congrArg some (hdep 3 (by kernel_rfl)))
              have E18 : a1.tmps[18]?.getD undef = .bool true := by rw [← ha1]; exact (putsL_in2 _ _ _ _ (by decide) (show 18 < 31 from by decide)).trans (hdep 6 (by kernel_rfl))
              have E27 : a1.tmps[27]?.getD undef = .bool false := by rw [← ha1]; exact (putsL_in2 _ _ _ _ (by decide) (show 27 < 31 from by decide)).trans (hdep 15 (by kernel_rfl))
              exact wpOp_valG rfl rfl (yielded_of rfl G3) (v := .bool false) (w' := W) (by simp [execOp, go_sem, E18, E27]) ⟨hIW, fun _ h => h, Or.inl ⟨_, by decide, rfl, updF_same _ _ _⟩⟩
            | 17, _, hdep =>
              have E15 : a1.tmps[15]?.getD undef = .bool false := by rw [← ha1]; exact (putsL_in2 _ _ _ _ (by decide) (show 15 < 31 from by decide)).trans (hdep 3 (by kernel_rfl))
              have E28 : a1.tmps[28]?.getD undef = .bool false := by rw [← ha1]; exact (putsL_in2 _ _ _ _ (by decide) (show 28 < 31 from by decide)).trans (hdep 16 (by kernel_rfl))
              exact wpOp_val rfl rfl (v := .bool false) (w' := W) (by simp [execOp, go_sem, E15, E28]) ⟨hIW, fun _ h => h, Or.inl ⟨_, by decide, rfl, updF_same _ _ _⟩⟩
            | iq + 18, h, _ => exact absurd h (by omega)
          case refine_2 =>
            intro f W hIW hR
            have h29 : f 29 = .bool false := hR 17 (show 17 < 18 from by decide)
            simp only [putsL, List.foldl_cons, List.foldl_nil, Act.put, List.setIfInBounds_toArray, List.set_cons_zero, List.set_cons_succ]
            go_wp2
            go_meet
            exact ⟨(by first | exact h29 | rfl), Lib.hid hIW⟩
        case rest =>
          obtain ⟨rfl, HJ10⟩ := hcut
          have HBN := Lib.hid (HJW.out _ HJ10.out)
          clear HJ10 HJ0 HJD HCX HCC HJW egC HPV
          go_wp2
          go_roundw
          case rel => exact ⟨k + 1, by first | rfl | go_num, by omega, HBN⟩
          case measure => simp [RowKit.intOf]; omega
    · obtain rfl : k = n := by omega
      clear HCS
      go_wp2
      go_ret
      exact ⟨rfl, HB.out⟩

theorem prs_take {w : World} {b o m cp k : Nat} {P : List Prs} (h : ListAt prsC 7 w (.slice (some ⟨b, o, none⟩) m cp) P) (hk : k ≤ P.length) : ListAt prsC 7 w (.slice (some ⟨b, o, none⟩) k cp) (P.take k) := by
  have hl : (P.take k).length = k := by rw [List.length_take]; omega
  obtain ⟨ao, cap, e1, h2, h3⟩ := h.shape prsF
  injection e1 with ea em ec
  subst em
  subst ec
  unfold ListAt
  rw [hl]
  refine ⟨by rw [cellsL_len prsF, hl], _, _, rfl, by omega, ?_⟩
  by_cases h0 : k = 0
  · exact Or.inl h0
  · obtain ⟨b', o', e, hb, hc⟩ := h3 (by omega)
    rw [← ea] at e
    injection e with e
    injection e with e3 e4 _
    subst e3
    subst e4
    refine Or.inr ⟨b, o, rfl, hb, fun j hj => ?_⟩
    have hd : j / 7 < k := Nat.div_lt_of_lt_mul (by omega)
    have h5 := hc (j / 7) (by omega) (j % 7) (Nat.mod_lt _ (by decide))
    have h6 := cellsL_get prsF (P.take k) (j / 7) (j % 7) (by omega) (Nat.mod_lt _ (by decide))
    rw [show o + j = o + j / 7 * 7 + j % 7 by omega, h5]
    rw [show j / 7 * 7 + j % 7 = j by omega] at h6
    rw [h6, List.getElem_take]

set_option maxRecDepth 100000 in
set_option maxHeartbeats 16000000 in
theorem rsrightPresented_ok {P : List Prs} (hlen : P.length ≤ 1000) (hve : ∀ i (q : i < P.length), (P[i]).ver = versM (P[i]).yr (P.take i) + 1) (vp : Value) (w : World) (hap : ListAt prsC 7 w vp P) :
    Calls Try.prog 28 #[vp] w fun e w' => e = .returned (.bool true) ∧ Below w.heap.size w w' := by
  obtain ⟨ap, cp, rfl, hcp, hps⟩ := hap.shape prsF
  have HPS := Lib.hid hps
  have HVE := Lib.hid hve
  have HAP := Lib.hid (fun W (hW : Below w.heap.size w W) => hap.below hW)
  obtain ⟨m, hm⟩ : ∃ m, m = P.length := ⟨_, rfl⟩
  have HM := Lib.hid hm
  rw [← hm] at hcp hlen HAP ⊢
  clear hm hps hve hap
  go_enter Try.func28, Try.ntmps28
  go_wp2
  go_loopw [7] (fun i wr => ∃ k : Nat, i = .int .i64 k ∧ k ≤ m ∧ Hid (Below w.heap.size w wr)) (fun i _ => m - (RowKit.intOf i).toNat)
  case atStart => exact ⟨0, rfl, by omega, Lib.hid (Below.refl _ _)⟩
  case round =>
    obtain ⟨k, rfl, hkn, HB⟩ := hrel
    by_cases hlt : k < m
    · have hkP : k < P.length := by rw [← HM.out]; exact hlt
      obtain ⟨b, o, rfl, hb, hcc⟩ := HPS.out (by omega)
      have hcell := fun j (hj : j < 7) => (HB.out.cell (p := ⟨b, o + k * 7 + j, none⟩) hb).trans (hcc k hkP j hj)
      have hver := HVE.out k hkP
      have hvb := versM_len (P[k]).yr (P.take k)
      have hvt : (P.take k).length ≤ k := by rw [List.length_take]; omega
      have HCC0 : Hid (∀ W, Below w.heap.size w W → Calls Try.prog 44 #[.slice (some ⟨b, o, none⟩) k cp, .int .i64 (P[k]).yr] W fun e w' => e = .returned (.int .i64 (versM (P[k]).yr (P.take k))) ∧ Below W.heap.size W w') := Lib.hid fun W hW =>
        rsversions_ok (by omega) (P[k]).yr _ W (prs_take (HAP.out W hW) (by omega))
      clear hcc
      generalize P[k] = x at *
      obtain ⟨x0, x1, x2, x3, x4, x5, x6⟩ := x
      simp only at hver HCC0 hvb
      generalize versM x0 (P.take k) = vm at *
      obtain rfl := hver
      have c0 := hcell 0 (by omega)
      have c1 := hcell 1 (by omega)
      have c2 := hcell 2 (by omega)
      have c3 := hcell 3 (by omega)
      have c4 := hcell 4 (by omega)
      have c5 := hcell 5 (by omega)
      have c6 := hcell 6 (by omega)
      simp [prsC] at c0 c1 c2 c3 c4 c5 c6
      have hwk : IntKind.i64.wrap ((k : Int) + 1) = (k : Int) + 1 := IntWalk.i64_in _ (by omega)
      have hwv : IntKind.i64.wrap (vm + 1) = vm + 1 := IntWalk.i64_in _ (by omega)
      have hk0 : (0 : Int) ≤ (k : Int) := by omega
      have hk1 : (k : Int) < (m : Int) := by omega
      have hk2 : (k : Int) ≤ (cp : Int) := by omega
      have hk3 : k ≤ cp := by omega
      obtain ⟨w8, hw8⟩ : ∃ W, W = wr.alloc (.cells #[.int .i64 x0, .int .i64 (vm + 1), .int .i64 x2, .int .i64 x3, .int .i64 x4, .int .i64 x5, .int .i64 x6] 40) := ⟨_, rfl⟩
      obtain ⟨bX, hbX⟩ : ∃ q, q = wr.heap.size := ⟨_, rfl⟩
      have HX8 : Hid (w8.heap[bX]? = some (.cells #[.int .i64 x0, .int .i64 (vm + 1), .int .i64 x2, .int .i64 x3, .int .i64 x4, .int .i64 x5, .int .i64 x6] 40 (0, 0))) := Lib.hid (by rw [hw8, hbX]; exact heap_alloc_new _ _)
      have HB8 : Hid (Below w.heap.size w w8) := Lib.hid (by rw [hw8]; exact HB.out.alloc HB.out.size _)
      have HW8 := Lib.hid hw8
      have HBX := Lib.hid hbX
      clear hcell hw8 hbX hvb hvt
      go_upto_region 4 with fail
      rw [← HW8.out, ← HBX.out]
      clear c0 c1 c2 c3 c4 c5 c6
      obtain ⟨J, hJ⟩ : ∃ J, J = fun W : World => Below w8.heap.size w8 W := ⟨_, rfl⟩
      have HJO : Hid (∀ W, J W → Below w8.heap.size w8 W) := Lib.hid fun W hW => by rw [hJ] at hW; exact hW
      have HJI : Hid (∀ W, Below w8.heap.size w8 W → J W) := Lib.hid fun W hW => by rw [hJ]; exact hW
      have HJD : Hid (∀ W, J W → J W.drew) := Lib.hid fun W hW => HJI.out _ ((HJO.out W hW).drew)
      have HJ0 : Hid (J w8) := Lib.hid (HJI.out _ (Below.refl _ _))
      have HJW : Hid (∀ W, J W → Below w.heap.size w W) := Lib.hid fun W hW => HB8.out.trans ((HJO.out W hW).mono HB8.out.size)
      have HCX : Hid (∀ W, J W → ∀ i, W.cell? ⟨bX, i, none⟩ = #[.int .i64 x0, .int .i64 (vm + 1), .int .i64 x2, .int .i64 x3, .int .i64 x4, .int .i64 x5, .int .i64 x6][i]?) := Lib.hid fun W hW i => obj_cell (obj_below HX8.out (HJO.out W hW)) i
      have HCC : Hid (∀ W, J W → Calls Try.prog 44 #[.slice (some ⟨b, o, none⟩) k cp, .int .i64 x0] W fun e w' => e = .returned (.int .i64 vm) ∧ J w') := Lib.hid fun W hW => (HCC0.out W (HJW.out W hW)).mono fun e w' ⟨h1, h2⟩ => ⟨h1, HJI.out _ ((HJO.out W hW).trans (h2.mono (HJO.out W hW).size))⟩
      have egC := enters_of Try.func44 (by kernel_rfl) rfl
      clear HCC0 HJI hJ
      go_cut [21] (fun bv wx => bv = .bool false ∧ Hid (J wx))
      case first =>
        refine wp_region_props [12, 13, 14, 15, 16, 17, 18, 19, 20, 21] (slotS [12, 13, 14, 15, 16, 17, 18, 19, 20, 21]) (readsS [12, 13, 14, 15, 16, 17, 18, 19, 20, 21]) (RTs [12, 13, 14, 15, 16, 17, 18, 19, 20, 21] [.pointer (some ⟨bX, 1, none⟩), .int .i64 (vm + 1), .slice (some ⟨b, o, none⟩) m cp, .int .i64 (k : Int), .slice (some ⟨b, o, none⟩) k cp, .pointer (some ⟨bX, 0, none⟩), .int .i64 x0, .int .i64 vm, .int .i64 (vm + 1), .bool false]) J (by kernel_rfl) (by kernel_rfl) (by kernel_rfl) (HJD.out _ HJ0.out) (fun j f q v W hq h => RTs.upd hq h) ?_ ?_
        case refine_1 =>
          intro iq hiq f W hIW hdep
          have hiq' : iq < 10 := hiq
          generalize ha1 : putsL _ [12, 13, 14, 15, 16, 17, 18, 19, 20, 21] f = a1
          match iq, hiq', hdep with
          | 0, _, hdep =>
            have E4 : a1.tmps[4]?.getD undef = .pointer (some ⟨bX, 0, none⟩) := by rw [← ha1]; exact (putsL_out2 _ _ _ _ (by decide)).trans rfl
            exact wpOp_val rfl rfl (v := .pointer (some ⟨bX, 1, none⟩)) (w' := W) (by simp [execOp, go_sem, E4]) ⟨hIW, fun _ h => h, Or.inl ⟨_, by decide, rfl, updF_same _ _ _⟩⟩
          | 1, _, hdep =>
            have E12 : a1.tmps[12]?.getD undef = .pointer (some ⟨bX, 1, none⟩) := by rw [← ha1]; exact (putsL_in2 _ _ _ _ (by decide) (show 12 < 23 from by decide)).trans (hdep 0 (by kernel_rfl))
            have v1 : W.cell? ⟨bX, 1, none⟩ = some (.int .i64 (vm + 1)) := by simpa using HCX.out W hIW 1
            exact wpOp_val rfl rfl (v := .int .i64 (vm + 1)) (w' := W) (by simp [execOp, go_sem, E12, v1]) ⟨hIW, fun _ h => h, Or.inl ⟨_, by decide, rfl, updF_same _ _ _⟩⟩
          | 2, _, hdep =>
            have E0 : a1.tmps[0]?.getD undef = .slice (some ⟨b, o, none⟩) m cp := by rw [← ha1]; exact (putsL_out2 _ _ _ _ (by decide)).trans rfl
            exact wpOp_val rfl rfl (v := .slice (some ⟨b, o, none⟩) m cp) (w' := W) (by simp [execOp, go_sem, E0]) ⟨hIW, fun _ h => h, Or.inl ⟨_, by decide, rfl, updF_same _ _ _⟩⟩
          | 3, _, hdep =>
            have E3 : a1.tmps[3]?.getD undef = .int .i64 (k : Int) := by rw [← ha1]; exact (putsL_out2 _ _ _ _ (by decide)).trans rfl
            exact wpOp_val rfl rfl (v := .int .i64 (k : Int)) (w' := W) (by simp [execOp, go_sem, E3]) ⟨hIW, fun _ h => h, Or.inl ⟨_, by decide, rfl, updF_same _ _ _⟩⟩
          | 4, _, hdep =>
            have E14 : a1.tmps[14]?.getD undef = .slice (some ⟨b, o, none⟩) m cp := by rw [← ha1]; exact (putsL_in2 _ _ _ _ (by decide) (show 14 < 23 from by decide)).trans (hdep 2 (by kernel_rfl))
            have E15 : a1.tmps[15]?.getD undef = .int .i64 (k : Int) := by rw [← ha1]; exact (putsL_in2 _ _ _ _ (by decide) (show 15 < 23 from by decide)).trans (hdep 3 (by kernel_rfl))
            exact wpOp_val rfl rfl (v := .slice (some ⟨b, o, none⟩) k cp) (w' := W) (by simp [execOp, go_sem, E14, E15, hk0, hk2, hk3]) ⟨hIW, fun _ h => h, Or.inl ⟨_, by decide, rfl, updF_same _ _ _⟩⟩
          | 5, _, hdep =>
            have E4 : a1.tmps[4]?.getD undef = .pointer (some ⟨bX, 0, none⟩) := by rw [← ha1]; exact (putsL_out2 _ _ _ _ (by decide)).trans rfl
            exact wpOp_val rfl rfl (v := .pointer (some ⟨bX, 0, none⟩)) (w' := W) (by simp [execOp, go_sem, E4]) ⟨hIW, fun _ h => h, Or.inl ⟨_, by decide, rfl, updF_same _ _ _⟩⟩
          | 6, _, hdep =>
            have E17 : a1.tmps[17]?.getD undef = .pointer (some ⟨bX, 0, none⟩) := by rw [← ha1]; exact (putsL_in2 _ _ _ _ (by decide) (show 17 < 23 from by decide)).trans (hdep 5 (by kernel_rfl))
            have v0 : W.cell? ⟨bX, 0, none⟩ = some (.int .i64 x0) := by simpa using HCX.out W hIW 0
            exact wpOp_val rfl rfl (v := .int .i64 x0) (w' := W) (by simp [execOp, go_sem, E17, v0]) ⟨hIW, fun _ h => h, Or.inl ⟨_, by decide, rfl, updF_same _ _ _⟩⟩
          | 7, _, hdep =>
            have E16 : a1.tmps[16]?.getD undef = .slice (some ⟨b, o, none⟩) k cp := by rw [← ha1]; exact (putsL_in2 _ _ _ _ (by decide) (show 16 < 23 from by decide)).trans (hdep 4 (by kernel_rfl))
            have E18 : a1.tmps[18]?.getD undef = .int .i64 x0 := by rw [← ha1]; exact (putsL_in2 _ _ _ _ (by decide) (show 18 < 23 from by decide)).trans (hdep 6 (by kernel_rfl))
            refine wpOp_call rfl rfl (n := 44) (vs := #[.slice (some ⟨b, o, none⟩) k cp, .int .i64 x0]) (by have := egC #[.slice (some ⟨b, o, none⟩) k cp, .int .i64 x0] W; simp [execOp, E16, E18, resolve, invoke, go_sem] <;> exact this) ((HCC.out W hIW).mono fun e w' h => (⟨_, h.1, rfl, h.2⟩ : ∃ v, e = .returned v ∧ (v = .int .i64 vm ∧ J w'))) ?_
            rintro v w' ⟨rfl, hI'⟩
            exact ⟨hI', fun _ h => h, Or.inl ⟨_, by decide, rfl, updF_same _ _ _⟩⟩
          | 8, _, hdep =>
            have E19 : a1.tmps[19]?.getD undef = .int .i64 vm := by rw [← ha1]; exact (putsL_in2 _ _ _ _ (by decide) (show 19 < 23 from by decide)).trans (hdep 7 (by kernel_rfl))
            exact wpOp_val rfl rfl (v := .int .i64 (vm + 1)) (w' := W) (by simp [execOp, go_sem, E19, hwv]) ⟨hIW, fun _ h => h, Or.inl ⟨_, by decide, rfl, updF_same _ _ _⟩⟩
          | 9, _, hdep =>
            have E13 : a1.tmps[13]?.getD undef = .int .i64 (vm + 1) := by rw [← ha1]; exact (putsL_in2 _ _ _ _ (by decide) (show 13 < 23 from by decide)).trans (hdep 1 (by kernel_rfl))
            have E20 : a1.tmps[20]?.getD undef = .int .i64 (vm + 1) := by rw [← ha1]; exact (putsL_in2 _ _ _ _ (by decide) (show 20 < 23 from by decide)).trans (hdep 8 (by kernel_rfl))
            exact wpOp_val rfl rfl (v := .bool false) (w' := W) (by simp [execOp, go_sem, E13, E20]) ⟨hIW, fun _ h => h, Or.inl ⟨_, by decide, rfl, updF_same _ _ _⟩⟩
          | iq + 10, h, _ => exact absurd h (by omega)
        case refine_2 =>
          intro f W hIW hR
          have h21 : f 21 = .bool false := hR 9 (show 9 < 10 from by decide)
          simp only [putsL, List.foldl_cons, List.foldl_nil, Act.put, List.setIfInBounds_toArray, List.set_cons_zero, List.set_cons_succ]
          go_wp2
          go_meet
          exact ⟨(by first | exact h21 | rfl), Lib.hid hIW⟩
      case rest =>
        obtain ⟨rfl, HJ10⟩ := hcut
        have HBN := Lib.hid (HJW.out _ HJ10.out)
        clear HJ10 HJ0 HJD HCX HCC HJW egC
        go_wp2
        go_roundw
        case rel => exact ⟨k + 1, by first | rfl | go_num, by omega, HBN⟩
        case measure => simp [RowKit.intOf]; omega
    · obtain rfl : k = m := by omega
      clear HPS
      go_wp2
      go_ret
      exact ⟨rfl, HB.out⟩

set_option maxRecDepth 100000 in
set_option maxHeartbeats 8000000 in
theorem rsCheck_right {h : Hst} (hh : HstOk h) (vl vp vc : Value) (w : World) (ha : HstAt w vl vp vc h) :
    Calls Try.prog 11 #[.agg #[vl, vp, vc]] w fun e w' => e = .returned (.int .i64 0) ∧ Below w.heap.size w w' := by
  have hnc := hh.nc
  have hnp := hh.np
  have HCK := Lib.hid (fun W (hW : Below w.heap.size w W) => lgCheck_right hh.led vl W (ListAt.below ha.led hW))
  have HRC := Lib.hid (fun W (hW : Below w.heap.size w W) => rsrightCorrections_ok (by omega) hh.cor hh.asc vc W (ha.cors.below hW))
  have HRP := Lib.hid (fun W (hW : Below w.heap.size w W) => rsrightPresented_ok (by omega) (fun i q => (hh.ver i q).2.2) vp W (ListAt.below ha.pres hW))
  obtain ⟨-, ap, ac, -, cp, cc, -, rfl, rfl⟩ := ha.parts
  obtain ⟨n, hn⟩ : ∃ n, n = h.cors.length := ⟨_, rfl⟩
  obtain ⟨m, hm⟩ : ∃ m, m = h.pres.length := ⟨_, rfl⟩
  rw [← hn] at hnc HRC ⊢
  rw [← hm] at hnp HRP ⊢
  have hln : ¬ (20 : Int) < (n : Int) := by omega
  have hlm : ¬ (20 : Int) < (m : Int) := by omega
  obtain ⟨w1, hw1⟩ : ∃ w1, w1 = w.alloc (.cells #[vl, .slice ap m cp, .slice ac n cc] 31) := ⟨_, rfl⟩
  obtain ⟨bH, hbH⟩ : ∃ b, b = w.heap.size := ⟨_, rfl⟩
  have HX1 : Hid (w1.heap[bH]? = some (.cells #[vl, .slice ap m cp, .slice ac n cc] 31 (0, 0))) := Lib.hid (by rw [hw1, hbH]; exact heap_alloc_new w _)
  have HB1 : Hid (Below w.heap.size w w1) := Lib.hid (by rw [hw1]; exact below_alloc w _)
  have HW1 := Lib.hid hw1
  have HBH := Lib.hid hbH
  have hbx := HX1.out
  have ub0 := obj_cell hbx 0
  have ub1 := obj_cell hbx 1
  have ub2 := obj_cell hbx 2
  simp at ub0 ub1 ub2
  clear hn hm hw1 hbH hbx hh ha
  go_enter Try.func11, Try.ntmps11
  go_upto_region 1 with fail
  rw [← HW1.out, ← HBH.out]
  go_wp2_with fail
  refine (HCK.out _ HB1.out).mono ?_
  rintro e w2 ⟨rfl, hb2⟩
  have HX2 := Lib.hid (obj_below HX1.out hb2)
  have HB2 := Lib.hid (HB1.out.trans (hb2.mono HB1.out.size))
  have hbx := HX2.out
  clear ub0 ub1 ub2 hb2
  have ub0 := obj_cell hbx 0
  have ub1 := obj_cell hbx 1
  have ub2 := obj_cell hbx 2
  simp at ub0 ub1 ub2
  clear hbx
  go_wp2_with fail
  refine (HRC.out _ HB2.out).mono ?_
  rintro e w3 ⟨rfl, hb3⟩
  have HX3 := Lib.hid (obj_below HX2.out hb3)
  have HB3 := Lib.hid (HB2.out.trans (hb3.mono HB2.out.size))
  have hbx := HX3.out
  clear ub0 ub1 ub2 hb3
  have ub0 := obj_cell hbx 0
  have ub1 := obj_cell hbx 1
  have ub2 := obj_cell hbx 2
  simp at ub0 ub1 ub2
  clear hbx
  go_wp2_with fail
  refine (HRP.out _ HB3.out).mono ?_
  rintro e w4 ⟨rfl, hb4⟩
  have HB4 := Lib.hid (HB3.out.trans (hb4.mono HB3.out.size))
  clear hb4 ub0 ub1 ub2
  go_wp2
  go_ret
  exact ⟨rfl, HB4.out⟩

end Go.Proofs.Ytoccnindkimjdaa
