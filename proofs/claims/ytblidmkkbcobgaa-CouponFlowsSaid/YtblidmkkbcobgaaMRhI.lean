/- register.rightSecurities on right securities. -/
import Derived.Test.YtblidmkkbcobgaaMRhF
import Derived.Test.YtblidmkkbcobgaaMRegInv
import Derived.Deep.DeepCutAuto
set_option linter.unusedSimpArgs false
set_option linter.unusedVariables false
set_option linter.unusedSimpArgs false
set_option linter.unusedVariables false
namespace Go.Proofs.Ytblidmkkbcobgaa
open Go.RowKit Go.Lib Go.Proofs

set_option maxRecDepth 100000 in
set_option maxHeartbeats 8000000 in
theorem rxsecs_ok (l : List Sec) (v : Value) (w : World) (h : SecsOk l) (hl : ListAt Sec.cells 7 w v l) :
    Calls Try.prog 99 #[v] w fun e w' => e = .returned (.bool true) ∧ Below w.heap.size w w' := by
  have hlen := h.len
  obtain ⟨ao, cap, rfl, hcap, hcs⟩ := hl.shape secF
  have HCS := Lib.hid hcs
  obtain ⟨n, hn⟩ : ∃ n, n = l.length := ⟨_, rfl⟩
  have HN := Lib.hid hn
  have HOK := Lib.hid h
  rw [← hn] at hcap hlen ⊢
  clear hn hcs hl h
  go_enter Try.func99, Try.ntmps99
  go_wp2
  go_loopw [7] (fun i wr => ∃ k : Nat, i = .int .i64 k ∧ k ≤ n ∧ Hid (Below w.heap.size w wr)) (fun i _ => n - (RowKit.intOf i).toNat)
  case atStart => exact ⟨0, rfl, by omega, Lib.hid (Below.refl _ _)⟩
  case round =>
    obtain ⟨k, rfl, hkn, HB⟩ := hrel
    by_cases hlt : k < n
    · have hkl' : k < l.length := by rw [← HN.out]; exact hlt
      obtain ⟨b, o, rfl, hb, hcc⟩ := HCS.out (by omega)
      have hcell := fun j (hj : j < 7) => (HB.out.cell (p := ⟨b, o + k * 7 + j, none⟩) hb).trans (hcc k hkl' j hj)
      have HPV : Hid (∀ m, k = m + 1 → ∃ y0, (∀ W, Below w.heap.size w W → W.cell? ⟨b, o + m * 7, none⟩ = some (.int .i64 y0)) ∧ y0 < (l[k]).id) := Lib.hid fun m hm => by
        subst hm
        have hm : m < l.length := by omega
        exact ⟨(l[m]).id, fun W hW => (hW.cell (p := ⟨b, o + m * 7, none⟩) hb).trans ((hcc m hm 0 (by omega)).trans rfl), List.pairwise_iff_getElem.1 HOK.out.asc m (m + 1) (by omega) hkl' (by omega)⟩
      obtain ⟨z, r, hzr⟩ := HOK.out.ok _ (List.getElem_mem hkl')
      have HSO := Lib.hid (fun W => rgSecurity_ok hzr W)
      generalize l[k] = x at *
      obtain ⟨x0, x1, x2, x3, x4, x5, x6⟩ := x
      simp only [Sec.cells] at HSO
      simp only at HPV
      have c0 := hcell 0 (by omega)
      have c1 := hcell 1 (by omega)
      have c2 := hcell 2 (by omega)
      have c3 := hcell 3 (by omega)
      have c4 := hcell 4 (by omega)
      have c5 := hcell 5 (by omega)
      have c6 := hcell 6 (by omega)
      simp [Sec.cells] at c0 c1 c2 c3 c4 c5 c6
      have hk0 : (0 : Int) ≤ (k : Int) := by omega
      have hk1 : (k : Int) < (n : Int) := by omega
      clear hcell hcc hkl' hzr
      go_upto_region 4 with fail
      obtain ⟨w6, hw6⟩ : ∃ w6, w6 = wr.alloc (.cells #[.int .i64 x0, .int .i64 x1, .int .i64 x2, .int .i64 x3, .int .i64 x4, .int .i64 x5, .bool x6] 55) := ⟨_, rfl⟩
      obtain ⟨bK, hbK⟩ : ∃ bK, bK = wr.heap.size := ⟨_, rfl⟩
      have HK6 : Hid (w6.heap[bK]? = some (.cells #[.int .i64 x0, .int .i64 x1, .int .i64 x2, .int .i64 x3, .int .i64 x4, .int .i64 x5, .bool x6] 55 (0, 0))) := Lib.hid (by rw [hw6, hbK]; exact heap_alloc_new wr _)
      have HB6 : Hid (Below w.heap.size w w6) := Lib.hid (by rw [hw6]; exact HB.out.alloc HB.out.size _)
      rw [← hw6, ← hbK]
      obtain ⟨J, hJ⟩ : ∃ J, J = fun W : World => Below w6.heap.size w6 W := ⟨_, rfl⟩
      have HJO : Hid (∀ W, J W → Below w6.heap.size w6 W) := Lib.hid fun W hW => by rw [hJ] at hW; exact hW
      have HJI : Hid (∀ W, Below w6.heap.size w6 W → J W) := Lib.hid fun W hW => by rw [hJ]; exact hW
      have HJD : Hid (∀ W, J W → J W.drew) := Lib.hid fun W hW => HJI.out _ ((HJO.out W hW).drew)
      have HJ0 : Hid (J w6) := Lib.hid (HJI.out _ (Below.refl _ _))
      have HCK : Hid (∀ W, J W → ∀ j, W.cell? ⟨bK, j, none⟩ = #[.int .i64 x0, .int .i64 x1, .int .i64 x2, .int .i64 x3, .int .i64 x4, .int .i64 x5, .bool x6][j]?) := Lib.hid fun W hW j => obj_cell (obj_below HK6.out (HJO.out W hW)) j
      have HF : Hid (∀ W, J W → Calls Try.prog 80 #[.agg #[.int .i64 x0, .int .i64 x1, .int .i64 x2, .int .i64 x3, .int .i64 x4, .int .i64 x5, .bool x6]] W fun e w' => e = .returned (.bool true) ∧ J w') := Lib.hid fun W hW =>
        (HSO.out W).mono fun e w' g => ⟨g.1, HJI.out _ ((HJO.out W hW).trans (g.2.mono (HJO.out W hW).size))⟩
      have egF := enters_of Try.func80 (by kernel_rfl) rfl
      clear hJ hw6 hbK c0 c1 c2 c3 c4 c5 c6
      cases k with
      | zero =>
        have hq6 : ¬ (0 : Int) < 0 := by omega
        clear HPV
        go_cut [29] (fun c wx => c = .bool false ∧ Hid (J wx))
        case first =>
          refine wp_region_props [12, 13, 14, 15, 16, 17, 18, 19, 20, 21, 22, 23, 24, 25, 26, 27, 28, 29] (slotS [12, 13, 14, 15, 16, 17, 18, 19, 20, 21, 22, 23, 24, 25, 26, 27, 28, 29]) (readsS [12, 13, 14, 15, 16, 17, 18, 19, 20, 21, 22, 23, 24, 25, 26, 27, 28, 29]) (RTs [12, 13, 14, 15, 16, 17, 18, 19, 20, 21, 22, 23, 24, 25, 26, 27, 28, 29] [.agg #[.int .i64 x0, .int .i64 x1, .int .i64 x2, .int .i64 x3, .int .i64 x4, .int .i64 x5, .bool x6], .bool true, .bool false, .bool false, .int .i64 0, .bool false, .bool false, undef, undef, undef, undef, undef, undef, undef, undef, undef, .bool false, .bool false]) J (by kernel_rfl) (by kernel_rfl) (by kernel_rfl) (HJD.out _ HJ0.out) (fun j f q v W hq h => RTs.upd hq h) ?_ ?_
          case refine_1 =>
            intro iq hiq f W hIW hdep
            have hiq' : iq < 18 := hiq
            generalize ha1 : putsL _ [12, 13, 14, 15, 16, 17, 18, 19, 20, 21, 22, 23, 24, 25, 26, 27, 28, 29] f = a1
            match iq, hiq', hdep with
            | 0, _, hdep =>
              have E4 : a1.tmps[4]?.getD undef = .pointer (some ⟨bK, 0, none⟩) := by rw [← ha1]; exact (putsL_out2 _ _ _ _ (by decide)).trans rfl
              have v0 : W.cell? ⟨bK, 0, none⟩ = some (.int .i64 x0) := by simpa using HCK.out W hIW 0
              have v1 : W.cell? ⟨bK, 1, none⟩ = some (.int .i64 x1) := by simpa using HCK.out W hIW 1
              have v2 : W.cell? ⟨bK, 2, none⟩ = some (.int .i64 x2) := by simpa using HCK.out W hIW 2
              have v3 : W.cell? ⟨bK, 3, none⟩ = some (.int .i64 x3) := by simpa using HCK.out W hIW 3
              have v4 : W.cell? ⟨bK, 4, none⟩ = some (.int .i64 x4) := by simpa using HCK.out W hIW 4
              have v5 : W.cell? ⟨bK, 5, none⟩ = some (.int .i64 x5) := by simpa using HCK.out W hIW 5
              have v6 : W.cell? ⟨bK, 6, none⟩ = some (.bool x6) := by simpa using HCK.out W hIW 6
              exact wpOp_val rfl rfl (v := .agg #[.int .i64 x0, .int .i64 x1, .int .i64 x2, .int .i64 x3, .int .i64 x4, .int .i64 x5, .bool x6]) (w' := W) (by simp [execOp, go_sem, E4, v0, v1, v2, v3, v4, v5, v6]) ⟨hIW, fun _ h => h, Or.inl ⟨_, by decide, rfl, updF_same _ _ _⟩⟩
            | 1, _, hdep =>
              have E12 : a1.tmps[12]?.getD undef = .agg #[.int .i64 x0, .int .i64 x1, .int .i64 x2, .int .i64 x3, .int .i64 x4, .int .i64 x5, .bool x6] := by rw [← ha1]; exact (putsL_in2 _ _ _ _ (by decide) (show 12 < 31 from by decide)).trans (hdep 0 (by kernel_rfl))
              refine wpOp_call rfl rfl (n := 80) (vs := #[.agg #[.int .i64 x0, .int .i64 x1, .int .i64 x2, .int .i64 x3, .int .i64 x4, .int .i64 x5, .bool x6]]) (by have := egF #[.agg #[.int .i64 x0, .int .i64 x1, .int .i64 x2, .int .i64 x3, .int .i64 x4, .int .i64 x5, .bool x6]] W; simp [execOp, E12, resolve, invoke, go_sem] <;> exact this) ((HF.out W hIW).mono fun e w' h => (⟨_, h.1, rfl, h.2⟩ : ∃ v, e = .returned v ∧ (v = .bool true ∧ J w'))) ?_
              rintro v w' ⟨rfl, hI'⟩
              exact ⟨hI', fun _ h => h, Or.inl ⟨_, by decide, rfl, updF_same _ _ _⟩⟩
            | 2, _, hdep =>
              have E13 : a1.tmps[13]?.getD undef = .bool true := by rw [← ha1]; exact (putsL_in2 _ _ _ _ (by decide) (show 13 < 31 from by decide)).trans (hdep 1 (by kernel_rfl))
              exact wpOp_val rfl rfl (v := .bool false) (w' := W) (by simp [execOp, go_sem, E13]) ⟨hIW, fun _ h => h, Or.inl ⟨_, by decide, rfl, updF_same _ _ _⟩⟩
            | 3, _, hdep =>
              have E14 : a1.tmps[14]?.getD undef = .bool false := by rw [← ha1]; exact (putsL_in2 _ _ _ _ (by decide) (show 14 < 31 from by decide)).trans (hdep 2 (by kernel_rfl))
              exact wpOp_val rfl rfl (v := .bool false) (w' := W) (by simp [execOp, go_sem, E14]) ⟨hIW, fun _ h => h, Or.inl ⟨_, by decide, rfl, updF_same _ _ _⟩⟩
            | 4, _, hdep =>
              have G3 : a1.tmps[15]? = some (.bool false) := by rw [← ha1]; exact (putsL_some _ _ _ _ (by decide) (show 15 < 31 from by decide)).trans (congrArg some (hdep 3 (by kernel_rfl)))
              have E3 : a1.tmps[3]?.getD undef = .int .i64 0 := by rw [← ha1]; exact (putsL_out2 _ _ _ _ (by decide)).trans rfl
              exact wpOp_valG rfl rfl (yielded_of rfl G3) (v := .int .i64 0) (w' := W) (by simp [execOp, go_sem, E3]) ⟨hIW, fun _ h => h, Or.inl ⟨_, by decide, rfl, updF_same _ _ _⟩⟩
            | 5, _, hdep =>
              have G3 : a1.tmps[15]? = some (.bool false) := by rw [← ha1]; exact (putsL_some _ _ _ _ (by decide) (show 15 < 31 from by decide)).trans (congrArg some (hdep 3 (by kernel_rfl)))
              have E16 : a1.tmps[16]?.getD undef = .int .i64 0 := by rw [← ha1]; exact (putsL_in2 _ _ _ _ (by decide) (show 16 < 31 from by decide)).trans (hdep 4 (by kernel_rfl))
              exact wpOp_valG rfl rfl (yielded_of rfl G3) (v := .bool false) (w' := W) (by simp [execOp, go_sem, E16, hq6]) ⟨hIW, fun _ h => h, Or.inl ⟨_, by decide, rfl, updF_same _ _ _⟩⟩
            | 6, _, hdep =>
              have G3 : a1.tmps[15]? = some (.bool false) := by rw [← ha1]; exact (putsL_some _ _ _ _ (by decide) (show 15 < 31 from by decide)).trans (congrArg some (hdep 3 (by kernel_rfl)))
              have E17 : a1.tmps[17]?.getD undef = .bool false := by rw [← ha1]; exact (putsL_in2 _ _ _ _ (by decide) (show 17 < 31 from by decide)).trans (hdep 5 (by kernel_rfl))
              exact wpOp_valG rfl rfl (yielded_of rfl G3) (v := .bool false) (w' := W) (by simp [execOp, go_sem, E17]) ⟨hIW, fun _ h => h, Or.inl ⟨_, by decide, rfl, updF_same _ _ _⟩⟩
            | 7, _, hdep =>
              have G6 : a1.tmps[18]? = some (.bool false) := by rw [← ha1]; exact (putsL_some _ _ _ _ (by decide) (show 18 < 31 from by decide)).trans (congrArg some (hdep 6 (by kernel_rfl)))
              exact wpOp_off rfl rfl (yielded_of rfl G6) ⟨hIW, fun _ h => h, Or.inl ⟨_, by decide, rfl, updF_same _ _ _⟩⟩
            | 8, _, hdep =>
              have G6 : a1.tmps[18]? = some (.bool false) := by rw [← ha1]; exact (putsL_some _ _ _ _ (by decide) (show 18 < 31 from by decide)).trans (congrArg some (hdep 6 (by kernel_rfl)))
              exact wpOp_off rfl rfl (yielded_of rfl G6) ⟨hIW, fun _ h => h, Or.inl ⟨_, by decide, rfl, updF_same _ _ _⟩⟩
            | 9, _, hdep =>
              have G6 : a1.tmps[18]? = some (.bool false) := by rw [← ha1]; exact (putsL_some _ _ _ _ (by decide) (show 18 < 31 from by decide)).trans (congrArg some (hdep 6 (by kernel_rfl)))
              exact wpOp_off rfl rfl (yielded_of rfl G6) ⟨hIW, fun _ h => h, Or.inl ⟨_, by decide, rfl, updF_same _ _ _⟩⟩
            | 10, _, hdep =>
              have G6 : a1.tmps[18]? = some (.bool false) := by rw [← ha1]; exact (putsL_some _ _ _ _ (by decide) (show 18 < 31 from by decide)).trans (congrArg some (hdep 6 (by kernel_rfl)))
              exact wpOp_off rfl rfl (yielded_of rfl G6) ⟨hIW, fun _ h => h, Or.inl ⟨_, by decide, rfl, updF_same _ _ _⟩⟩
            | 11, _, hdep =>
              have G6 : a1.tmps[18]? = some (.bool false) := by rw [← ha1]; exact (putsL_some _ _ _ _ (by decide) (show 18 < 31 from by decide)).trans (congrArg some (hdep 6 (by kernel_rfl)))
              exact wpOp_off rfl rfl (yielded_of rfl G6) ⟨hIW, fun _ h => h, Or.inl ⟨_, by decide, rfl, updF_same _ _ _⟩⟩
            | 12, _, hdep =>
              have G6 : a1.tmps[18]? = some (.bool false) := by rw [← ha1]; exact (putsL_some _ _ _ _ (by decide) (show 18 < 31 from by decide)).trans (congrArg some (hdep 6 (by kernel_rfl)))
              exact wpOp_off rfl rfl (yielded_of rfl G6) ⟨hIW, fun _ h => h, Or.inl ⟨_, by decide, rfl, updF_same _ _ _⟩⟩
            | 13, _, hdep =>
              have G6 : a1.tmps[18]? = some (.bool false) := by rw [← ha1]; exact (putsL_some _ _ _ _ (by decide) (show 18 < 31 from by decide)).trans (congrArg some (hdep 6 (by kernel_rfl)))
              exact wpOp_off rfl rfl (yielded_of rfl G6) ⟨hIW, fun _ h => h, Or.inl ⟨_, by decide, rfl, updF_same _ _ _⟩⟩
            | 14, _, hdep =>
              have G6 : a1.tmps[18]? = some (.bool false) := by rw [← ha1]; exact (putsL_some _ _ _ _ (by decide) (show 18 < 31 from by decide)).trans (congrArg some (hdep 6 (by kernel_rfl)))
              exact wpOp_off rfl rfl (yielded_of rfl G6) ⟨hIW, fun _ h => h, Or.inl ⟨_, by decide, rfl, updF_same _ _ _⟩⟩
            | 15, _, hdep =>
              have G6 : a1.tmps[18]? = some (.bool false) := by rw [← ha1]; exact (putsL_some _ _ _ _ (by decide) (show 18 < 31 from by decide)).trans (congrArg some (hdep 6 (by kernel_rfl)))
              exact wpOp_off rfl rfl (yielded_of rfl G6) ⟨hIW, fun _ h => h, Or.inl ⟨_, by decide, rfl, updF_same _ _ _⟩⟩
            | 16, _, hdep =>
              have G3 : a1.tmps[15]? = some (.bool false) := by rw [← ha1]; exact (putsL_some _ _ _ _ (by decide) (show 15 < 31 from by decide)).trans (congrArg some (hdep 3 (by kernel_rfl)))
              have E18 : a1.tmps[18]?.getD undef = .bool false := by rw [← ha1]; exact (putsL_in2 _ _ _ _ (by decide) (show 18 < 31 from by decide)).trans (hdep 6 (by kernel_rfl))
              exact wpOp_valG rfl rfl (yielded_of rfl G3) (v := .bool false) (w' := W) (by simp [execOp, go_sem, E18]) ⟨hIW, fun _ h => h, Or.inl ⟨_, by decide, rfl, updF_same _ _ _⟩⟩
            | 17, _, hdep =>
              have E15 : a1.tmps[15]?.getD undef = .bool false := by rw [← ha1]; exact (putsL_in2 _ _ _ _ (by decide) (show 15 < 31 from by decide)).trans (hdep 3 (by kernel_rfl))
              have E28 : a1.tmps[28]?.getD undef = .bool false := by rw [← ha1]; exact (putsL_in2 _ _ _ _ (by decide) (show 28 < 31 from by decide)).trans (hdep 16 (by kernel_rfl))
              exact wpOp_val rfl rfl (v := .bool false) (w' := W) (by simp [execOp, go_sem, E15, E28]) ⟨hIW, fun _ h => h, Or.inl ⟨_, by decide, rfl, updF_same _ _ _⟩⟩
            | iq + 18, h, _ => exact absurd h (by omega)
          case refine_2 =>
            intro f W hIW hR
            have h29 : f 29 = .bool false := hR 17 (show 17 < 18 from by decide)
            simp only [putsL, List.foldl_cons, List.foldl_nil, Act.put, List.setIfInBounds_toArray, List.set_cons_zero, List.set_cons_succ]
            go_wp2
            go_meet
            exact ⟨(by first | rfl | exact h29), Lib.hid hIW⟩
        case rest =>
          obtain ⟨rfl, HJW⟩ := hcut
          have HBW := Lib.hid (HB6.out.trans ((HJO.out _ HJW.out).mono HB6.out.size))
          clear HJ0 HJD HJI HJO HF HCK
          go_wp2
          go_roundw
          case rel => exact ⟨0 + 1, by first | rfl | go_num, by omega, HBW⟩
          case measure => simp [RowKit.intOf]; omega
      | succ k =>
        obtain ⟨y0, hy1, hy2⟩ := HPV.out k rfl
        have HC1 : Hid (∀ W, J W → W.cell? ⟨b, o + k * 7, none⟩ = some (.int .i64 y0)) := Lib.hid fun W hW => hy1 W (HB6.out.trans ((HJO.out W hW).mono HB6.out.size))
        have hq6 : (0 : Int) < ((k + 1 : Nat) : Int) := by omega
        have hq7 : ¬ x0 ≤ y0 := by omega
        have hq8 : IntKind.i64.wrap (k : Int) = (k : Int) := by rw [IntKind.wrap_i64]; omega
        have hk2 : (0 : Int) ≤ (k : Int) := by omega
        have hk3 : (k : Int) < (n : Int) := by omega
        clear HPV hy1 hy2
        go_cut [29] (fun c wx => c = .bool false ∧ Hid (J wx))
        case first =>
          refine wp_region_props [12, 13, 14, 15, 16, 17, 18, 19, 20, 21, 22, 23, 24, 25, 26, 27, 28, 29] (slotS [12, 13, 14, 15, 16, 17, 18, 19, 20, 21, 22, 23, 24, 25, 26, 27, 28, 29]) (readsS [12, 13, 14, 15, 16, 17, 18, 19, 20, 21, 22, 23, 24, 25, 26, 27, 28, 29]) (RTs [12, 13, 14, 15, 16, 17, 18, 19, 20, 21, 22, 23, 24, 25, 26, 27, 28, 29] [.agg #[.int .i64 x0, .int .i64 x1, .int .i64 x2, .int .i64 x3, .int .i64 x4, .int .i64 x5, .bool x6], .bool true, .bool false, .bool false, .int .i64 ((k + 1 : Nat) : Int), .bool true, .bool true, .slice (some ⟨b, o, none⟩) n cap, .int .i64 ((k + 1 : Nat) : Int), .int .i64 (k : Int), .pointer (some ⟨b, o + k * 7, none⟩), .pointer (some ⟨b, o + k * 7, none⟩), .int .i64 y0, .pointer (some ⟨bK, 0, none⟩), .int .i64 x0, .bool false, .bool false, .bool false]) J (by kernel_rfl) (by kernel_rfl) (by kernel_rfl) (HJD.out _ HJ0.out) (fun j f q v W hq h => RTs.upd hq h) ?_ ?_
          case refine_1 =>
            intro iq hiq f W hIW hdep
            have hiq' : iq < 18 := hiq
            generalize ha1 : putsL _ [12, 13, 14, 15, 16, 17, 18, 19, 20, 21, 22, 23, 24, 25, 26, 27, 28, 29] f = a1
            match iq, hiq', hdep with
            | 0, _, hdep =>
              have E4 : a1.tmps[4]?.getD undef = .pointer (some ⟨bK, 0, none⟩) := by rw [← ha1]; exact (putsL_out2 _ _ _ _ (by decide)).trans rfl
              have v0 : W.cell? ⟨bK, 0, none⟩ = some (.int .i64 x0) := by simpa using HCK.out W hIW 0
              have v1 : W.cell? ⟨bK, 1, none⟩ = some (.int .i64 x1) := by simpa using HCK.out W hIW 1
              have v2 : W.cell? ⟨bK, 2, none⟩ = some (.int .i64 x2) := by simpa using HCK.out W hIW 2
              have v3 : W.cell? ⟨bK, 3, none⟩ = some (.int .i64 x3) := by simpa using HCK.out W hIW 3
              have v4 : W.cell? ⟨bK, 4, none⟩ = some (.int .i64 x4) := by simpa using HCK.out W hIW 4
              have v5 : W.cell? ⟨bK, 5, none⟩ = some (.int .i64 x5) := by simpa using HCK.out W hIW 5
              have v6 : W.cell? ⟨bK, 6, none⟩ = some (.bool x6) := by simpa using HCK.out W hIW 6
              exact wpOp_val rfl rfl (v := .agg #[.int .i64 x0, .int .i64 x1, .int .i64 x2, .int .i64 x3, .int .i64 x4, .int .i64 x5, .bool x6]) (w' := W) (by simp [execOp, go_sem, E4, v0, v1, v2, v3, v4, v5, v6]) ⟨hIW, fun _ h => h, Or.inl ⟨_, by decide, rfl, updF_same _ _ _⟩⟩
            | 1, _, hdep =>
              have E12 : a1.tmps[12]?.getD undef = .agg #[.int .i64 x0, .int .i64 x1, .int .i64 x2, .int .i64 x3, .int .i64 x4, .int .i64 x5, .bool x6] := by rw [← ha1]; exact (putsL_in2 _ _ _ _ (by decide) (show 12 < 31 from by decide)).trans (hdep 0 (by kernel_rfl))
              refine wpOp_call rfl rfl (n := 80) (vs := #[.agg #[.int .i64 x0, .int .i64 x1, .int .i64 x2, .int .i64 x3, .int .i64 x4, .int .i64 x5, .bool x6]]) (by have := egF #[.agg #[.int .i64 x0, .int .i64 x1, .int .i64 x2, .int .i64 x3, .int .i64 x4, .int .i64 x5, .bool x6]] W; simp [execOp, E12, resolve, invoke, go_sem] <;> exact this) ((HF.out W hIW).mono fun e w' h => (⟨_, h.1, rfl, h.2⟩ : ∃ v, e = .returned v ∧ (v = .bool true ∧ J w'))) ?_
              rintro v w' ⟨rfl, hI'⟩
              exact ⟨hI', fun _ h => h, Or.inl ⟨_, by decide, rfl, updF_same _ _ _⟩⟩
            | 2, _, hdep =>
              have E13 : a1.tmps[13]?.getD undef = .bool true := by rw [← ha1]; exact (putsL_in2 _ _ _ _ (by decide) (show 13 < 31 from by decide)).trans (hdep 1 (by kernel_rfl))
              exact wpOp_val rfl rfl (v := .bool false) (w' := W) (by simp [execOp, go_sem, E13]) ⟨hIW, fun _ h => h, Or.inl ⟨_, by decide, rfl, updF_same _ _ _⟩⟩
            | 3, _, hdep =>
              have E14 : a1.tmps[14]?.getD undef = .bool false := by rw [← ha1]; exact (putsL_in2 _ _ _ _ (by decide) (show 14 < 31 from by decide)).trans (hdep 2 (by kernel_rfl))
              exact wpOp_val rfl rfl (v := .bool false) (w' := W) (by simp [execOp, go_sem, E14]) ⟨hIW, fun _ h => h, Or.inl ⟨_, by decide, rfl, updF_same _ _ _⟩⟩
            | 4, _, hdep =>
              have G3 : a1.tmps[15]? = some (.bool false) := by rw [← ha1]; exact (putsL_some _ _ _ _ (by decide) (show 15 < 31 from by decide)).trans (congrArg some (hdep 3 (by kernel_rfl)))
              have E3 : a1.tmps[3]?.getD undef = .int .i64 ((k + 1 : Nat) : Int) := by rw [← ha1]; exact (putsL_out2 _ _ _ _ (by decide)).trans rfl
              exact wpOp_valG rfl rfl (yielded_of rfl G3) (v := .int .i64 ((k + 1 : Nat) : Int)) (w' := W) (by simp [execOp, go_sem, E3]) ⟨hIW, fun _ h => h, Or.inl ⟨_, by decide, rfl, updF_same _ _ _⟩⟩
            | 5, _, hdep =>
              have G3 : a1.tmps[15]? = some (.bool false) := by rw [← ha1]; exact (putsL_some _ _ _ _ (by decide) (show 15 < 31 from by decide)).trans (congrArg some (hdep 3 (by kernel_rfl)))
              have E16 : a1.tmps[16]?.getD undef = .int .i64 ((k + 1 : Nat) : Int) := by rw [← ha1]; exact (putsL_in2 _ _ _ _ (by decide) (show 16 < 31 from by decide)).trans (hdep 4 (by kernel_rfl))
              exact wpOp_valG rfl rfl (yielded_of rfl G3) (v := .bool true) (w' := W) (by simp [execOp, go_sem, E16, hq6]) ⟨hIW, fun _ h => h, Or.inl ⟨_, by decide, rfl, updF_same _ _ _⟩⟩
            | 6, _, hdep =>
              have G3 : a1.tmps[15]? = some (.bool false) := by rw [← ha1]; exact (putsL_some _ _ _ _ (by decide) (show 15 < 31 from by decide)).trans (congrArg some (hdep 3 (by kernel_rfl)))
              have E17 : a1.tmps[17]?.getD undef = .bool true := by rw [← ha1]; exact (putsL_in2 _ _ _ _ (by decide) (show 17 < 31 from by decide)).trans (hdep 5 (by kernel_rfl))
              exact wpOp_valG rfl rfl (yielded_of rfl G3) (v := .bool true) (w' := W) (by simp [execOp, go_sem, E17]) ⟨hIW, fun _ h => h, Or.inl ⟨_, by decide, rfl, updF_same _ _ _⟩⟩
            | 7, _, hdep =>
              have G6 : a1.tmps[18]? = some (.bool true) := by rw [← ha1]; exact (putsL_some _ _ _ _ (by decide) (show 18 < 31 from by decide)).trans (congrArg some (hdep 6 (by kernel_rfl)))
              have E0 : a1.tmps[0]?.getD undef = .slice (some ⟨b, o, none⟩) n cap := by rw [← ha1]; exact (putsL_out2 _ _ _ _ (by decide)).trans rfl
              exact wpOp_valG rfl rfl (yielded_of rfl G6) (v := .slice (some ⟨b, o, none⟩) n cap) (w' := W) (by simp [execOp, go_sem, E0]) ⟨hIW, fun _ h => h, Or.inl ⟨_, by decide, rfl, updF_same _ _ _⟩⟩
            | 8, _, hdep =>
              have G6 : a1.tmps[18]? = some (.bool true) := by rw [← ha1]; exact (putsL_some _ _ _ _ (by decide) (show 18 < 31 from by decide)).trans (congrArg some (hdep 6 (by kernel_rfl)))
              have E3 : a1.tmps[3]?.getD undef = .int .i64 ((k + 1 : Nat) : Int) := by rw [← ha1]; exact (putsL_out2 _ _ _ _ (by decide)).trans rfl
              exact wpOp_valG rfl rfl (yielded_of rfl G6) (v := .int .i64 ((k + 1 : Nat) : Int)) (w' := W) (by simp [execOp, go_sem, E3]) ⟨hIW, fun _ h => h, Or.inl ⟨_, by decide, rfl, updF_same _ _ _⟩⟩
            | 9, _, hdep =>
              have G6 : a1.tmps[18]? = some (.bool true) := by rw [← ha1]; exact (putsL_some _ _ _ _ (by decide) (show 18 < 31 from by decide)).trans (congrArg some (hdep 6 (by kernel_rfl)))
              have E20 : a1.tmps[20]?.getD undef = .int .i64 ((k + 1 : Nat) : Int) := by rw [← ha1]; exact (putsL_in2 _ _ _ _ (by decide) (show 20 < 31 from by decide)).trans (hdep 8 (by kernel_rfl))
              exact wpOp_valG rfl rfl (yielded_of rfl G6) (v := .int .i64 (k : Int)) (w' := W) (by simp [execOp, go_sem, E20, hq8]) ⟨hIW, fun _ h => h, Or.inl ⟨_, by decide, rfl, updF_same _ _ _⟩⟩
            | 10, _, hdep =>
              have G6 : a1.tmps[18]? = some (.bool true) := by rw [← ha1]; exact (putsL_some _ _ _ _ (by decide) (show 18 < 31 from by decide)).trans (congrArg some (hdep 6 (by kernel_rfl)))
              have E19 : a1.tmps[19]?.getD undef = .slice (some ⟨b, o, none⟩) n cap := by rw [← ha1]; exact (putsL_in2 _ _ _ _ (by decide) (show 19 < 31 from by decide)).trans (hdep 7 (by kernel_rfl))
              have E21 : a1.tmps[21]?.getD undef = .int .i64 (k : Int) := by rw [← ha1]; exact (putsL_in2 _ _ _ _ (by decide) (show 21 < 31 from by decide)).trans (hdep 9 (by kernel_rfl))
              exact wpOp_valG rfl rfl (yielded_of rfl G6) (v := .pointer (some ⟨b, o + k * 7, none⟩)) (w' := W) (by simp [execOp, go_sem, E19, E21, hk2, hk3]) ⟨hIW, fun _ h => h, Or.inl ⟨_, by decide, rfl, updF_same _ _ _⟩⟩
            | 11, _, hdep =>
              have G6 : a1.tmps[18]? = some (.bool true) := by rw [← ha1]; exact (putsL_some _ _ _ _ (by decide) (show 18 < 31 from by decide)).trans (congrArg some (hdep 6 (by kernel_rfl)))
              have E22 : a1.tmps[22]?.getD undef = .pointer (some ⟨b, o + k * 7, none⟩) := by rw [← ha1]; exact (putsL_in2 _ _ _ _ (by decide) (show 22 < 31 from by decide)).trans (hdep 10 (by kernel_rfl))
              exact wpOp_valG rfl rfl (yielded_of rfl G6) (v := .pointer (some ⟨b, o + k * 7, none⟩)) (w' := W) (by simp [execOp, go_sem, E22]) ⟨hIW, fun _ h => h, Or.inl ⟨_, by decide, rfl, updF_same _ _ _⟩⟩
            | 12, _, hdep =>
              have G6 : a1.tmps[18]? = some (.bool true) := by rw [← ha1]; exact (putsL_some _ _ _ _ (by decide) (show 18 < 31 from by decide)).trans (congrArg some (hdep 6 (by kernel_rfl)))
              have E23 : a1.tmps[23]?.getD undef = .pointer (some ⟨b, o + k * 7, none⟩) := by rw [← ha1]; exact (putsL_in2 _ _ _ _ (by decide) (show 23 < 31 from by decide)).trans (hdep 11 (by kernel_rfl))
              exact wpOp_valG rfl rfl (yielded_of rfl G6) (v := .int .i64 y0) (w' := W) (by simp [execOp, go_sem, E23, HC1.out W hIW]) ⟨hIW, fun _ h => h, Or.inl ⟨_, by decide, rfl, updF_same _ _ _⟩⟩
            | 13, _, hdep =>
              have G6 : a1.tmps[18]? = some (.bool true) := by rw [← ha1]; exact (putsL_some _ _ _ _ (by decide) (show 18 < 31 from by decide)).trans (congrArg some (hdep 6 (by kernel_rfl)))
              have E4 : a1.tmps[4]?.getD undef = .pointer (some ⟨bK, 0, none⟩) := by rw [← ha1]; exact (putsL_out2 _ _ _ _ (by decide)).trans rfl
              exact wpOp_valG rfl rfl (yielded_of rfl G6) (v := .pointer (some ⟨bK, 0, none⟩)) (w' := W) (by simp [execOp, go_sem, E4]) ⟨hIW, fun _ h => h, Or.inl ⟨_, by decide, rfl, updF_same _ _ _⟩⟩
            | 14, _, hdep =>
              have G6 : a1.tmps[18]? = some (.bool true) := by rw [← ha1]; exact (putsL_some _ _ _ _ (by decide) (show 18 < 31 from by decide)).trans (congrArg some (hdep 6 (by kernel_rfl)))
              have E25 : a1.tmps[25]?.getD undef = .pointer (some ⟨bK, 0, none⟩) := by rw [← ha1]; exact (putsL_in2 _ _ _ _ (by decide) (show 25 < 31 from by decide)).trans (hdep 13 (by kernel_rfl))
              have v0 : W.cell? ⟨bK, 0, none⟩ = some (.int .i64 x0) := by simpa using HCK.out W hIW 0
              exact wpOp_valG rfl rfl (yielded_of rfl G6) (v := .int .i64 x0) (w' := W) (by simp [execOp, go_sem, E25, v0]) ⟨hIW, fun _ h => h, Or.inl ⟨_, by decide, rfl, updF_same _ _ _⟩⟩
            | 15, _, hdep =>
              have G6 : a1.tmps[18]? = some (.bool true) := by rw [← ha1]; exact (putsL_some _ _ _ _ (by decide) (show 18 < 31 from by decide)).trans (congrArg some (hdep 6 (by kernel_rfl)))
              have E24 : a1.tmps[24]?.getD undef = .int .i64 y0 := by rw [← ha1]; exact (putsL_in2 _ _ _ _ (by decide) (show 24 < 31 from by decide)).trans (hdep 12 (by kernel_rfl))
              have E26 : a1.tmps[26]?.getD undef = .int .i64 x0 := by rw [← ha1]; exact (putsL_in2 _ _ _ _ (by decide) (show 26 < 31 from by decide)).trans (hdep 14 (by kernel_rfl))
              exact wpOp_valG rfl rfl (yielded_of rfl G6) (v := .bool false) (w' := W) (by simp [execOp, go_sem, E24, E26, hq7]) ⟨hIW, fun _ h => h, Or.inl ⟨_, by decide, rfl, updF_same _ _ _⟩⟩
            | 16, _, hdep =>
              have G3 : a1.tmps[15]? = some (.bool false) := by rw [← ha1]; exact (putsL_some _ _ _ _ (by decide) (show 15 < 31 from by decide)).trans (congrArg some (hdep 3 (by kernel_rfl)))
              have E18 : a1.tmps[18]?.getD undef = .bool true := by rw [← ha1]; exact (putsL_in2 _ _ _ _ (by decide) (show 18 < 31 from by decide)).trans (hdep 6 (by kernel_rfl))
              have E27 : a1.tmps[27]?.getD undef = .bool false := by rw [← ha1]; exact (putsL_in2 _ _ _ _ (by decide) (show 27 < 31 from by decide)).trans (hdep 15 (by kernel_rfl))
              exact wpOp_valG rfl rfl (yielded_of rfl G3) (v := .bool false) (w' := W) (by simp [execOp, go_sem, E18, E27]) ⟨hIW, fun _ h => h, Or.inl ⟨_, by decide, rfl, updF_same _ _ _⟩⟩
            | 17, _, hdep =>
              have E15 : a1.tmps[15]?.getD undef = .bool false := by rw [← ha1]; exact (putsL_in2 _ _ _ _ (by decide) (show 15 < 31 from by decide)).trans (hdep 3 (by kernel_rfl))
              have E28 : a1.tmps[28]?.getD undef = .bool false := by rw [← ha1]; exact (putsL_in2 _ _ _ _ (by decide) (show 28 < 31 from by decide)).trans (hdep 16 (by kernel_rfl))
              exact wpOp_val rfl rfl (v := .bool false) (w' := W) (by simp [execOp, go_sem, E15, E28]) ⟨hIW, fun _ h => h, Or.inl ⟨_, by decide, rfl, updF_same _ _ _⟩⟩
            | iq + 18, h, _ => exact absurd h (by omega)
          case refine_2 =>
            intro f W hIW hR
            have h29 : f 29 = .bool false := hR 17 (show 17 < 18 from by decide)
            simp only [putsL, List.foldl_cons, List.foldl_nil, Act.put, List.setIfInBounds_toArray, List.set_cons_zero, List.set_cons_succ]
            go_wp2
            go_meet
            exact ⟨(by first | rfl | exact h29), Lib.hid hIW⟩
        case rest =>
          obtain ⟨rfl, HJW⟩ := hcut
          have HBW := Lib.hid (HB6.out.trans ((HJO.out _ HJW.out).mono HB6.out.size))
          clear HJ0 HJD HJI HJO HF HCK
          go_wp2
          go_roundw
          case rel => exact ⟨(k + 1) + 1, by first | rfl | go_num, by omega, HBW⟩
          case measure => simp [RowKit.intOf]; omega
    · obtain rfl : k = n := by omega
      go_wp2
      go_ret
      exact ⟨rfl, HB.out⟩

end Go.Proofs.Ytblidmkkbcobgaa
