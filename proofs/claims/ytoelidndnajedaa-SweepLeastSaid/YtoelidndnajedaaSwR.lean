/- The reference's sweep on right accounts and rules: Check, Plan, Sweep. -/
import Derived.Test.YtoelidndnajedaaSwS
import Derived.Test.YtoelidndnajedaaAcBa
set_option linter.unusedSimpArgs false
set_option linter.unusedVariables false
namespace Go.Proofs.Ytoelidndnajedaa
open Go.RowKit Go.Lib Go.Proofs

theorem balanceM_at {a : Acc} (hr : checkM a = 0) {x : Int} (hx : (atS a.subs x).isSome = true) : balanceM a x = (balOf a.subs x, true) := by
  obtain ⟨i, hi⟩ := Option.isSome_iff_exists.1 hx
  unfold balanceM balOf
  rw [if_pos hr, hi]

set_option maxRecDepth 100000 in
set_option maxHeartbeats 8000000 in
theorem rwCheck_right (a : Acc) (ks : List Kp) (su en kv : Value) (w : World) (h : SubsAt w su a.subs) (he : EntsAt w en a.ents) (hk : KeepsAt w kv ks) (hkl : ks.length ≤ 1000) (hr : checkM a = 0) (hks : keepsB a.subs 0 true ks = true) :
    Calls Try.prog 44 #[.agg #[.int .i64 a.credit, su, en], kv] w fun e w' => e = .returned (.int .i64 0) ∧ Below w.heap.size w w' := by
  have hz := checkM_zero.1 hr
  have HCK := Lib.hid (fun W (hW : Below w.heap.size w W) => raCheck_any a su en W (h.below hW) (he.below hW) (by omega) (by omega))
  rw [hr] at HCK
  have HFD : Hid (∀ id, (atS a.subs id).isSome = true → ∀ W, Below w.heap.size w W → Calls Try.prog 19 #[.agg #[.int .i64 a.credit, su, en], .int .i64 id] W fun e w' => e = .returned (.tuple #[.int .i64 (balOf a.subs id), .bool true]) ∧ Below W.heap.size W w') := Lib.hid fun id hid W hW => by
    have g := raBalance_any a su en id W (h.below hW) (he.below hW) (by omega) (by omega)
    rw [balanceM_at hr hid] at g
    exact g
  obtain ⟨ao, cap, rfl, hcap, hcs⟩ := hk.open
  have HCS := Lib.hid hcs
  obtain ⟨n, hn⟩ : ∃ n, n = ks.length := ⟨_, rfl⟩
  have HN := Lib.hid hn
  have HKS := Lib.hid hks
  rw [← hn] at hcap hkl ⊢
  obtain ⟨bA, hbA⟩ : ∃ bA, bA = w.heap.size := ⟨_, rfl⟩
  have HX0 := Lib.hid (heap_alloc_new w (.cells #[.int .i64 a.credit, su, en] 28))
  have HB0 := Lib.hid (below_alloc w (.cells #[.int .i64 a.credit, su, en] 28))
  have HBA := Lib.hid hbA
  clear hn hcs h he hk hz hr hks hbA
  go_enter Try.func44, Try.ntmps44
  go_wp2_with fail
  refine (HCK.out _ HB0.out).mono ?_
  rintro e w1 ⟨rfl, hb1⟩
  have HX1 : Hid (w1.heap[bA]? = some (.cells #[.int .i64 a.credit, su, en] 28 (0, 0))) := Lib.hid (by rw [HBA.out]; exact obj_below HX0.out hb1)
  have HB1 := Lib.hid (HB0.out.trans (hb1.mono HB0.out.size))
  rw [← HBA.out]
  clear hb1 HX0 HB0 HCK
  go_wp2
  go_loopw [17] (fun i wr => ∃ k : Nat, i = .int .i64 k ∧ k ≤ n ∧ Hid (Below w1.heap.size w1 wr)) (fun i _ => n - (RowKit.intOf i).toNat)
  case atStart => exact ⟨0, rfl, by omega, Lib.hid (Below.refl _ _)⟩
  case round =>
    obtain ⟨k, rfl, hkn, HB⟩ := hrel
    by_cases hlt : k < n
    · have hkl' : k < ks.length := by rw [← HN.out]; exact hlt
      obtain ⟨b, o, rfl, hb, hcc⟩ := HCS.out (by omega)
      have HWB := Lib.hid (HB1.out.trans (HB.out.mono HB1.out.size))
      obtain ⟨q1, q2, q3, q4, q5⟩ := keepsB_get HKS.out hkl'
      have hcell := fun j (hj : j < 3) => (HWB.out.cell (p := ⟨b, o + k * 3 + j, none⟩) hb).trans (hcc k hkl' j hj)
      have HPV : Hid (∀ m, k = m + 1 → ∃ y0, (∀ W, Below w.heap.size w W → W.cell? ⟨b, o + m * 3, none⟩ = some (.int .i64 y0)) ∧ y0 < (keepAt ks k).sub) := Lib.hid fun m hm => by
        subst hm
        exact ⟨_, fun W hW => (hW.cell (p := ⟨b, o + m * 3, none⟩) hb).trans (hcc m (by omega) 0 (by omega)), keepsB_lt HKS.out hkl'⟩
      have HFX := Lib.hid (HFD.out (keepAt ks k).sub q1)
      generalize keepAt ks k = x at *
      obtain ⟨x0, x1, x2⟩ := x
      simp only at q1 q2 q3 q4 q5 HFX HPV
      have c0 := hcell 0 (by omega)
      have c1 := hcell 1 (by omega)
      have c2 := hcell 2 (by omega)
      simp [kpC] at c0 c1 c2
      generalize balOf a.subs x0 = bq at *
      have hq1 : (x0 == 1) = false := by rw [beq_eq_false_iff_ne]; exact q2
      have hq3 : ¬ x1 < 0 := by omega
      have hq4 : ¬ x2 < x1 := by omega
      have hq5 : ¬ (1000000000000 : Int) < x2 := by omega
      have hk0 : (0 : Int) ≤ (k : Int) := by omega
      have hk1 : (k : Int) < (n : Int) := by omega
      have HBA6 := Lib.hid (HB.out.alloc HB.out.size (.cells #[.int .i64 x0, .int .i64 x1, .int .i64 x2] 50))
      have HKA6 := Lib.hid (heap_alloc_new wr (.cells #[.int .i64 x0, .int .i64 x1, .int .i64 x2] 50))
      have hbx := obj_below HX1.out HBA6.out
      have u0 := obj_cell hbx 0
      have u1 := obj_cell hbx 1
      have u2 := obj_cell hbx 2
      simp at u0 u1 u2
      clear hcell hcc q1 q2 q3 q4 q5 hkl' hbx
      go_wp2_with fail
      refine (HFX.out _ (HB1.out.trans (HBA6.out.mono HB1.out.size))).mono ?_
      rintro e w6 ⟨rfl, hb6⟩
      have HB6 : Hid (Below w1.heap.size w1 w6) := Lib.hid (HBA6.out.trans (hb6.mono HBA6.out.size))
      have HK6 := Lib.hid (obj_below HKA6.out hb6)
      have HW6 := Lib.hid (HB1.out.trans (HB6.out.mono HB1.out.size))
      clear hb6 u0 u1 u2 c0 c1 c2 HBA6 HKA6 HFX
      go_upto_region 8 with fail
      generalize wr.heap.size = bK at *
      obtain ⟨J, hJ⟩ : ∃ J, J = fun W : World => Below w6.heap.size w6 W := ⟨_, rfl⟩
      have HJO : Hid (∀ W, J W → Below w6.heap.size w6 W) := Lib.hid fun W hW => by rw [hJ] at hW; exact hW
      have HJI : Hid (∀ W, Below w6.heap.size w6 W → J W) := Lib.hid fun W hW => by rw [hJ]; exact hW
      have HJD : Hid (∀ W, J W → J W.drew) := Lib.hid fun W hW => HJI.out _ ((HJO.out W hW).drew)
      have HJ0 : Hid (J w6) := Lib.hid (HJI.out _ (Below.refl _ _))
      have HCK : Hid (∀ W, J W → ∀ j, W.cell? ⟨bK, j, none⟩ = #[.int .i64 x0, .int .i64 x1, .int .i64 x2][j]?) := Lib.hid fun W hW j => obj_cell (obj_below HK6.out (HJO.out W hW)) j
      have HFW : Hid (∀ W, J W → Below w.heap.size w W) := Lib.hid fun W hW => HW6.out.trans ((HJO.out W hW).mono HW6.out.size)
      have HFW1 : Hid (∀ W, J W → Below w1.heap.size w1 W) := Lib.hid fun W hW => HB6.out.trans ((HJO.out W hW).mono HB6.out.size)
      clear hJ
      cases k with
      | zero =>
        have hq6 : ¬ (0 : Int) < 0 := by omega
        clear HPV
        go_cut [67] (fun c wx => c = .bool false ∧ Hid (J wx))
        case first =>
          refine wp_region_props [29, 30, 31, 32, 33, 34, 35, 36, 37, 38, 39, 40, 41, 42, 43, 44, 45, 46, 47, 48, 49, 50, 51, 52, 53, 54, 55, 56, 57, 58, 59, 60, 61, 62, 63, 64, 65, 66, 67] (slotS [29, 30, 31, 32, 33, 34, 35, 36, 37, 38, 39, 40, 41, 42, 43, 44, 45, 46, 47, 48, 49, 50, 51, 52, 53, 54, 55, 56, 57, 58, 59, 60, 61, 62, 63, 64, 65, 66, 67]) (readsS [29, 30, 31, 32, 33, 34, 35, 36, 37, 38, 39, 40, 41, 42, 43, 44, 45, 46, 47, 48, 49, 50, 51, 52, 53, 54, 55, 56, 57, 58, 59, 60, 61, 62, 63, 64, 65, 66, 67]) (RTs [29, 30, 31, 32, 33, 34, 35, 36, 37, 38, 39, 40, 41, 42, 43, 44, 45, 46, 47, 48, 49, 50, 51, 52, 53, 54, 55, 56, 57, 58, 59, 60, 61, 62, 63, 64, 65, 66, 67] [.bool true, .bool false, .bool false, .pointer (some ⟨bK, 0, none⟩), .int .i64 x0, .bool false, .bool false, .bool false, .int .i64 0, .bool false, .bool false, undef, undef, undef, undef, undef, undef, undef, undef, undef, .bool false, .bool false, .bool false, .pointer (some ⟨bK, 1, none⟩), .int .i64 x1, .bool false, .bool false, .bool false, .pointer (some ⟨bK, 1, none⟩), .int .i64 x1, .pointer (some ⟨bK, 2, none⟩), .int .i64 x2, .bool false, .bool false, .bool false, .pointer (some ⟨bK, 2, none⟩), .int .i64 x2, .bool false, .bool false]) J (by kernel_rfl) (by kernel_rfl) (by kernel_rfl) (HJD.out _ HJ0.out) (fun j f q v W hq h => RTs.upd hq h) ?_ ?_
          case refine_1 =>
            intro iq hiq f W hIW hdep
            have hiq' : iq < 39 := hiq
            generalize ha1 : putsL _ [29, 30, 31, 32, 33, 34, 35, 36, 37, 38, 39, 40, 41, 42, 43, 44, 45, 46, 47, 48, 49, 50, 51, 52, 53, 54, 55, 56, 57, 58, 59, 60, 61, 62, 63, 64, 65, 66, 67] f = a1
            match iq, hiq', hdep with
            | 0, _, hdep =>
              have E9 : a1.tmps[9]?.getD undef = .bool true := by rw [← ha1]; exact (putsL_out2 _ _ _ _ (by decide)).trans rfl
              exact wpOp_val rfl rfl (v := .bool true) (w' := W) (by simp [execOp, go_sem, E9]) ⟨hIW, fun _ h => h, Or.inl ⟨_, by decide, rfl, updF_same _ _ _⟩⟩
            | 1, _, hdep =>
              have E29 : a1.tmps[29]?.getD undef = .bool true := by rw [← ha1]; exact (putsL_in2 _ _ _ _ (by decide) (show 29 < 69 from by decide)).trans (hdep 0 (by kernel_rfl))
              exact wpOp_val rfl rfl (v := .bool false) (w' := W) (by simp [execOp, go_sem, E29]) ⟨hIW, fun _ h => h, Or.inl ⟨_, by decide, rfl, updF_same _ _ _⟩⟩
            | 2, _, hdep =>
              have E30 : a1.tmps[30]?.getD undef = .bool false := by rw [← ha1]; exact (putsL_in2 _ _ _ _ (by decide) (show 30 < 69 from by decide)).trans (hdep 1 (by kernel_rfl))
              exact wpOp_val rfl rfl (v := .bool false) (w' := W) (by simp [execOp, go_sem, E30]) ⟨hIW, fun _ h => h, Or.inl ⟨_, by decide, rfl, updF_same _ _ _⟩⟩
            | 3, _, hdep =>
              have G2 : a1.tmps[31]? = some (.bool false) := by rw [← ha1]; exact (putsL_some _ _ _ _ (by decide) (show 31 < 69 from by decide)).trans (congrArg some (hdep 2 (by kernel_rfl)))
              have E7 : a1.tmps[7]?.getD undef = .pointer (some ⟨bK, 0, none⟩) := by rw [← ha1]; exact (putsL_out2 _ _ _ _ (by decide)).trans rfl
              exact wpOp_valG rfl rfl (yielded_of rfl G2) (v := .pointer (some ⟨bK, 0, none⟩)) (w' := W) (by simp [execOp, go_sem, E7]) ⟨hIW, fun _ h => h, Or.inl ⟨_, by decide, rfl, updF_same _ _ _⟩⟩
            | 4, _, hdep =>
              have G2 : a1.tmps[31]? = some (.bool false) := by rw [← ha1]; exact (putsL_some _ _ _ _ (by decide) (show 31 < 69 from by decide)).trans (congrArg some (hdep 2 (by kernel_rfl)))
              have E32 : a1.tmps[32]?.getD undef = .pointer (some ⟨bK, 0, none⟩) := by rw [← ha1]; exact (putsL_in2 _ _ _ _ (by decide) (show 32 < 69 from by decide)).trans (hdep 3 (by kernel_rfl))
              have v0 : W.cell? ⟨bK, 0, none⟩ = some (.int .i64 x0) := by simpa using HCK.out W hIW 0
              exact wpOp_valG rfl rfl (yielded_of rfl G2) (v := .int .i64 x0) (w' := W) (by simp [execOp, go_sem, E32, v0]) ⟨hIW, fun _ h => h, Or.inl ⟨_, by decide, rfl, updF_same _ _ _⟩⟩
            | 5, _, hdep =>
              have G2 : a1.tmps[31]? = some (.bool false) := by rw [← ha1]; exact (putsL_some _ _ _ _ (by decide) (show 31 < 69 from by decide)).trans (congrArg some (hdep 2 (by kernel_rfl)))
              have E33 : a1.tmps[33]?.getD undef = .int .i64 x0 := by rw [← ha1]; exact (putsL_in2 _ _ _ _ (by decide) (show 33 < 69 from by decide)).trans (hdep 4 (by kernel_rfl))
              exact wpOp_valG rfl rfl (yielded_of rfl G2) (v := .bool false) (w' := W) (by simp [execOp, go_sem, E33, hq1]) ⟨hIW, fun _ h => h, Or.inl ⟨_, by decide, rfl, updF_same _ _ _⟩⟩
            | 6, _, hdep =>
              have E31 : a1.tmps[31]?.getD undef = .bool false := by rw [← ha1]; exact (putsL_in2 _ _ _ _ (by decide) (show 31 < 69 from by decide)).trans (hdep 2 (by kernel_rfl))
              have E34 : a1.tmps[34]?.getD undef = .bool false := by rw [← ha1]; exact (putsL_in2 _ _ _ _ (by decide) (show 34 < 69 from by decide)).trans (hdep 5 (by kernel_rfl))
              exact wpOp_val rfl rfl (v := .bool false) (w' := W) (by simp [execOp, go_sem, E31, E34]) ⟨hIW, fun _ h => h, Or.inl ⟨_, by decide, rfl, updF_same _ _ _⟩⟩
            | 7, _, hdep =>
              have E35 : a1.tmps[35]?.getD undef = .bool false := by rw [← ha1]; exact (putsL_in2 _ _ _ _ (by decide) (show 35 < 69 from by decide)).trans (hdep 6 (by kernel_rfl))
              exact wpOp_val rfl rfl (v := .bool false) (w' := W) (by simp [execOp, go_sem, E35]) ⟨hIW, fun _ h => h, Or.inl ⟨_, by decide, rfl, updF_same _ _ _⟩⟩
            | 8, _, hdep =>
              have G7 : a1.tmps[36]? = some (.bool false) := by rw [← ha1]; exact (putsL_some _ _ _ _ (by decide) (show 36 < 69 from by decide)).trans (congrArg some (hdep 7 (by kernel_rfl)))
              have E6 : a1.tmps[6]?.getD undef = .int .i64 0 := by rw [← ha1]; exact (putsL_out2 _ _ _ _ (by decide)).trans rfl
              exact wpOp_valG rfl rfl (yielded_of rfl G7) (v := .int .i64 0) (w' := W) (by simp [execOp, go_sem, E6]) ⟨hIW, fun _ h => h, Or.inl ⟨_, by decide, rfl, updF_same _ _ _⟩⟩
            | 9, _, hdep =>
              have G7 : a1.tmps[36]? = some (.bool false) := by rw [← ha1]; exact (putsL_some _ _ _ _ (by decide) (show 36 < 69 from by decide)).trans (congrArg some (hdep 7 (by kernel_rfl)))
              have E37 : a1.tmps[37]?.getD undef = .int .i64 0 := by rw [← ha1]; exact (putsL_in2 _ _ _ _ (by decide) (show 37 < 69 from by decide)).trans (hdep 8 (by kernel_rfl))
              exact wpOp_valG rfl rfl (yielded_of rfl G7) (v := .bool false) (w' := W) (by simp [execOp, go_sem, E37, hq6]) ⟨hIW, fun _ h => h, Or.inl ⟨_, by decide, rfl, updF_same _ _ _⟩⟩
            | 10, _, hdep =>
              have G7 : a1.tmps[36]? = some (.bool false) := by rw [← ha1]; exact (putsL_some _ _ _ _ (by decide) (show 36 < 69 from by decide)).trans (congrArg some (hdep 7 (by kernel_rfl)))
              have E38 : a1.tmps[38]?.getD undef = .bool false := by rw [← ha1]; exact (putsL_in2 _ _ _ _ (by decide) (show 38 < 69 from by decide)).trans (hdep 9 (by kernel_rfl))
              exact wpOp_valG rfl rfl (yielded_of rfl G7) (v := .bool false) (w' := W) (by simp [execOp, go_sem, E38]) ⟨hIW, fun _ h => h, Or.inl ⟨_, by decide, rfl, updF_same _ _ _⟩⟩
            | 11, _, hdep =>
              have G10 : a1.tmps[39]? = some (.bool false) := by rw [← ha1]; exact (putsL_some _ _ _ _ (by decide) (show 39 < 69 from by decide)).trans (congrArg some (hdep 10 (by kernel_rfl)))
              exact wpOp_off rfl rfl (yielded_of rfl G10) ⟨hIW, fun _ h => h, Or.inl ⟨_, by decide, rfl, updF_same _ _ _⟩⟩
            | 12, _, hdep =>
              have G10 : a1.tmps[39]? = some (.bool false) := by rw [← ha1]; exact (putsL_some _ _ _ _ (by decide) (show 39 < 69 from by decide)).trans (congrArg some (hdep 10 (by kernel_rfl)))
              exact wpOp_off rfl rfl (yielded_of rfl G10) ⟨hIW, fun _ h => h, Or.inl ⟨_, by decide, rfl, updF_same _ _ _⟩⟩
            | 13, _, hdep =>
              have G10 : a1.tmps[39]? = some (.bool false) := by rw [← ha1]; exact (putsL_some _ _ _ _ (by decide) (show 39 < 69 from by decide)).trans (congrArg some (hdep 10 (by kernel_rfl)))
              exact wpOp_off rfl rfl (yielded_of rfl G10) ⟨hIW, fun _ h => h, Or.inl ⟨_, by decide, rfl, updF_same _ _ _⟩⟩
            | 14, _, hdep =>
              have G10 : a1.tmps[39]? = some (.bool false) := by rw [← ha1]; exact (putsL_some _ _ _ _ (by decide) (show 39 < 69 from by decide)).trans (congrArg some (hdep 10 (by kernel_rfl)))
              exact wpOp_off rfl rfl (yielded_of rfl G10) ⟨hIW, fun _ h => h, Or.inl ⟨_, by decide, rfl, updF_same _ _ _⟩⟩
            | 15, _, hdep =>
              have G10 : a1.tmps[39]? = some (.bool false) := by rw [← ha1]; exact (putsL_some _ _ _ _ (by decide) (show 39 < 69 from by decide)).trans (congrArg some (hdep 10 (by kernel_rfl)))
              exact wpOp_off rfl rfl (yielded_of rfl G10) ⟨hIW, fun _ h => h, Or.inl ⟨_, by decide, rfl, updF_same _ _ _⟩⟩
            | 16, _, hdep =>
              have G10 : a1.tmps[39]? = some (.bool false) := by rw [← ha1]; exact (putsL_some _ _ _ _ (by decide) (show 39 < 69 from by decide)).trans (congrArg some (hdep 10 (by kernel_rfl)))
              exact wpOp_off rfl rfl (yielded_of rfl G10) ⟨hIW, fun _ h => h, Or.inl ⟨_, by decide, rfl, updF_same _ _ _⟩⟩
            | 17, _, hdep =>
              have G10 : a1.tmps[39]? = some (.bool false) := by rw [← ha1]; exact (putsL_some _ _ _ _ (by decide) (show 39 < 69 from by decide)).trans (congrArg some (hdep 10 (by kernel_rfl)))
              exact wpOp_off rfl rfl (yielded_of rfl G10) ⟨hIW, fun _ h => h, Or.inl ⟨_, by decide, rfl, updF_same _ _ _⟩⟩
            | 18, _, hdep =>
              have G10 : a1.tmps[39]? = some (.bool false) := by rw [← ha1]; exact (putsL_some _ _ _ _ (by decide) (show 39 < 69 from by decide)).trans (congrArg some (hdep 10 (by kernel_rfl)))
              exact wpOp_off rfl rfl (yielded_of rfl G10) ⟨hIW, fun _ h => h, Or.inl ⟨_, by decide, rfl, updF_same _ _ _⟩⟩
            | 19, _, hdep =>
              have G10 : a1.tmps[39]? = some (.bool false) := by rw [← ha1]; exact (putsL_some _ _ _ _ (by decide) (show 39 < 69 from by decide)).trans (congrArg some (hdep 10 (by kernel_rfl)))
              exact wpOp_off rfl rfl (yielded_of rfl G10) ⟨hIW, fun _ h => h, Or.inl ⟨_, by decide, rfl, updF_same _ _ _⟩⟩
            | 20, _, hdep =>
              have G7 : a1.tmps[36]? = some (.bool false) := by rw [← ha1]; exact (putsL_some _ _ _ _ (by decide) (show 36 < 69 from by decide)).trans (congrArg some (hdep 7 (by kernel_rfl)))
              have E39 : a1.tmps[39]?.getD undef = .bool false := by rw [← ha1]; exact (putsL_in2 _ _ _ _ (by decide) (show 39 < 69 from by decide)).trans (hdep 10 (by kernel_rfl))
              exact wpOp_valG rfl rfl (yielded_of rfl G7) (v := .bool false) (w' := W) (by simp [execOp, go_sem, E39]) ⟨hIW, fun _ h => h, Or.inl ⟨_, by decide, rfl, updF_same _ _ _⟩⟩
            | 21, _, hdep =>
              have E36 : a1.tmps[36]?.getD undef = .bool false := by rw [← ha1]; exact (putsL_in2 _ _ _ _ (by decide) (show 36 < 69 from by decide)).trans (hdep 7 (by kernel_rfl))
              have E49 : a1.tmps[49]?.getD undef = .bool false := by rw [← ha1]; exact (putsL_in2 _ _ _ _ (by decide) (show 49 < 69 from by decide)).trans (hdep 20 (by kernel_rfl))
              exact wpOp_val rfl rfl (v := .bool false) (w' := W) (by simp [execOp, go_sem, E36, E49]) ⟨hIW, fun _ h => h, Or.inl ⟨_, by decide, rfl, updF_same _ _ _⟩⟩
            | 22, _, hdep =>
              have E50 : a1.tmps[50]?.getD undef = .bool false := by rw [← ha1]; exact (putsL_in2 _ _ _ _ (by decide) (show 50 < 69 from by decide)).trans (hdep 21 (by kernel_rfl))
              exact wpOp_val rfl rfl (v := .bool false) (w' := W) (by simp [execOp, go_sem, E50]) ⟨hIW, fun _ h => h, Or.inl ⟨_, by decide, rfl, updF_same _ _ _⟩⟩
            | 23, _, hdep =>
              have G22 : a1.tmps[51]? = some (.bool false) := by rw [← ha1]; exact (putsL_some _ _ _ _ (by decide) (show 51 < 69 from by decide)).trans (congrArg some (hdep 22 (by kernel_rfl)))
              have E7 : a1.tmps[7]?.getD undef = .pointer (some ⟨bK, 0, none⟩) := by rw [← ha1]; exact (putsL_out2 _ _ _ _ (by decide)).trans rfl
              exact wpOp_valG rfl rfl (yielded_of rfl G22) (v := .pointer (some ⟨bK, 1, none⟩)) (w' := W) (by simp [execOp, go_sem, E7]) ⟨hIW, fun _ h => h, Or.inl ⟨_, by decide, rfl, updF_same _ _ _⟩⟩
            | 24, _, hdep =>
              have G22 : a1.tmps[51]? = some (.bool false) := by rw [← ha1]; exact (putsL_some _ _ _ _ (by decide) (show 51 < 69 from by decide)).trans (congrArg some (hdep 22 (by kernel_rfl)))
              have E52 : a1.tmps[52]?.getD undef = .pointer (some ⟨bK, 1, none⟩) := by rw [← ha1]; exact (putsL_in2 _ _ _ _ (by decide) (show 52 < 69 from by decide)).trans (hdep 23 (by kernel_rfl))
              have v1 : W.cell? ⟨bK, 1, none⟩ = some (.int .i64 x1) := by simpa using HCK.out W hIW 1
              exact wpOp_valG rfl rfl (yielded_of rfl G22) (v := .int .i64 x1) (w' := W) (by simp [execOp, go_sem, E52, v1]) ⟨hIW, fun _ h => h, Or.inl ⟨_, by decide, rfl, updF_same _ _ _⟩⟩
            | 25, _, hdep =>
              have G22 : a1.tmps[51]? = some (.bool false) := by rw [← ha1]; exact (putsL_some _ _ _ _ (by decide) (show 51 < 69 from by decide)).trans (congrArg some (hdep 22 (by kernel_rfl)))
              have E53 : a1.tmps[53]?.getD undef = .int .i64 x1 := by rw [← ha1]; exact (putsL_in2 _ _ _ _ (by decide) (show 53 < 69 from by decide)).trans (hdep 24 (by kernel_rfl))
              exact wpOp_valG rfl rfl (yielded_of rfl G22) (v := .bool false) (w' := W) (by simp [execOp, go_sem, E53, hq3]) ⟨hIW, fun _ h => h, Or.inl ⟨_, by decide, rfl, updF_same _ _ _⟩⟩
            | 26, _, hdep =>
              have E51 : a1.tmps[51]?.getD undef = .bool false := by rw [← ha1]; exact (putsL_in2 _ _ _ _ (by decide) (show 51 < 69 from by decide)).trans (hdep 22 (by kernel_rfl))
              have E54 : a1.tmps[54]?.getD undef = .bool false := by rw [← ha1]; exact (putsL_in2 _ _ _ _ (by decide) (show 54 < 69 from by decide)).trans (hdep 25 (by kernel_rfl))
              exact wpOp_val rfl rfl (v := .bool false) (w' := W) (by simp [execOp, go_sem, E51, E54]) ⟨hIW, fun _ h => h, Or.inl ⟨_, by decide, rfl, updF_same _ _ _⟩⟩
            | 27, _, hdep =>
              have E55 : a1.tmps[55]?.getD undef = .bool false := by rw [← ha1]; exact (putsL_in2 _ _ _ _ (by decide) (show 55 < 69 from by decide)).trans (hdep 26 (by kernel_rfl))
              exact wpOp_val rfl rfl (v := .bool false) (w' := W) (by simp [execOp, go_sem, E55]) ⟨hIW, fun _ h => h, Or.inl ⟨_, by decide, rfl, updF_same _ _ _⟩⟩
            | 28, _, hdep =>
              have G27 : a1.tmps[56]? = some (.bool false) := by rw [← ha1]; exact (putsL_some _ _ _ _ (by decide) (show 56 < 69 from by decide)).trans (congrArg some (hdep 27 (by kernel_rfl)))
              have E7 : a1.tmps[7]?.getD undef = .pointer (some ⟨bK, 0, none⟩) := by rw [← ha1]; exact (putsL_out2 _ _ _ _ (by decide)).trans rfl
              exact wpOp_valG rfl rfl (yielded_of rfl G27) (v := .pointer (some ⟨bK, 1, none⟩)) (w' := W) (by simp [execOp, go_sem, E7]) ⟨hIW, fun _ h => h, Or.inl ⟨_, by decide, rfl, updF_same _ _ _⟩⟩
            | 29, _, hdep =>
              have G27 : a1.tmps[56]? = some (.bool false) := by rw [← ha1]; exact (putsL_some _ _ _ _ (by decide) (show 56 < 69 from by decide)).trans (congrArg some (hdep 27 (by kernel_rfl)))
              have E57 : a1.tmps[57]?.getD undef = .pointer (some ⟨bK, 1, none⟩) := by rw [← ha1]; exact (putsL_in2 _ _ _ _ (by decide) (show 57 < 69 from by decide)).trans (hdep 28 (by kernel_rfl))
              have v1 : W.cell? ⟨bK, 1, none⟩ = some (.int .i64 x1) := by simpa using HCK.out W hIW 1
              exact wpOp_valG rfl rfl (yielded_of rfl G27) (v := .int .i64 x1) (w' := W) (by simp [execOp, go_sem, E57, v1]) ⟨hIW, fun _ h => h, Or.inl ⟨_, by decide, rfl, updF_same _ _ _⟩⟩
            | 30, _, hdep =>
              have G27 : a1.tmps[56]? = some (.bool false) := by rw [← ha1]; exact (putsL_some _ _ _ _ (by decide) (show 56 < 69 from by decide)).trans (congrArg some (hdep 27 (by kernel_rfl)))
              have E7 : a1.tmps[7]?.getD undef = .pointer (some ⟨bK, 0, none⟩) := by rw [← ha1]; exact (putsL_out2 _ _ _ _ (by decide)).trans rfl
              exact wpOp_valG rfl rfl (yielded_of rfl G27) (v := .pointer (some ⟨bK, 2, none⟩)) (w' := W) (by simp [execOp, go_sem, E7]) ⟨hIW, fun _ h => h, Or.inl ⟨_, by decide, rfl, updF_same _ _ _⟩⟩
            | 31, _, hdep =>
              have G27 : a1.tmps[56]? = some (.bool false) := by rw [← ha1]; exact (putsL_some _ _ _ _ (by decide) (show 56 < 69 from by decide)).trans (congrArg some (hdep 27 (by kernel_rfl)))
              have E59 : a1.tmps[59]?.getD undef = .pointer (some ⟨bK, 2, none⟩) := by rw [← ha1]; exact (putsL_in2 _ _ _ _ (by decide) (show 59 < 69 from by decide)).trans (hdep 30 (by kernel_rfl))
              have v2 : W.cell? ⟨bK, 2, none⟩ = some (.int .i64 x2) := by simpa using HCK.out W hIW 2
              exact wpOp_valG rfl rfl (yielded_of rfl G27) (v := .int .i64 x2) (w' := W) (by simp [execOp, go_sem, E59, v2]) ⟨hIW, fun _ h => h, Or.inl ⟨_, by decide, rfl, updF_same _ _ _⟩⟩
            | 32, _, hdep =>
              have G27 : a1.tmps[56]? = some (.bool false) := by rw [← ha1]; exact (putsL_some _ _ _ _ (by decide) (show 56 < 69 from by decide)).trans (congrArg some (hdep 27 (by kernel_rfl)))
              have E58 : a1.tmps[58]?.getD undef = .int .i64 x1 := by rw [← ha1]; exact (putsL_in2 _ _ _ _ (by decide) (show 58 < 69 from by decide)).trans (hdep 29 (by kernel_rfl))
              have E60 : a1.tmps[60]?.getD undef = .int .i64 x2 := by rw [← ha1]; exact (putsL_in2 _ _ _ _ (by decide) (show 60 < 69 from by decide)).trans (hdep 31 (by kernel_rfl))
              exact wpOp_valG rfl rfl (yielded_of rfl G27) (v := .bool false) (w' := W) (by simp [execOp, go_sem, E58, E60, hq4]) ⟨hIW, fun _ h => h, Or.inl ⟨_, by decide, rfl, updF_same _ _ _⟩⟩
            | 33, _, hdep =>
              have E56 : a1.tmps[56]?.getD undef = .bool false := by rw [← ha1]; exact (putsL_in2 _ _ _ _ (by decide) (show 56 < 69 from by decide)).trans (hdep 27 (by kernel_rfl))
              have E61 : a1.tmps[61]?.getD undef = .bool false := by rw [← ha1]; exact (putsL_in2 _ _ _ _ (by decide) (show 61 < 69 from by decide)).trans (hdep 32 (by kernel_rfl))
              exact wpOp_val rfl rfl (v := .bool false) (w' := W) (by simp [execOp, go_sem, E56, E61]) ⟨hIW, fun _ h => h, Or.inl ⟨_, by decide, rfl, updF_same _ _ _⟩⟩
            | 34, _, hdep =>
              have E62 : a1.tmps[62]?.getD undef = .bool false := by rw [← ha1]; exact (putsL_in2 _ _ _ _ (by decide) (show 62 < 69 from by decide)).trans (hdep 33 (by kernel_rfl))
              exact wpOp_val rfl rfl (v := .bool false) (w' := W) (by simp [execOp, go_sem, E62]) ⟨hIW, fun _ h => h, Or.inl ⟨_, by decide, rfl, updF_same _ _ _⟩⟩
            | 35, _, hdep =>
              have G34 : a1.tmps[63]? = some (.bool false) := by rw [← ha1]; exact (putsL_some _ _ _ _ (by decide) (show 63 < 69 from by decide)).trans (congrArg some (hdep 34 (by kernel_rfl)))
              have E7 : a1.tmps[7]?.getD undef = .pointer (some ⟨bK, 0, none⟩) := by rw [← ha1]; exact (putsL_out2 _ _ _ _ (by decide)).trans rfl
              exact wpOp_valG rfl rfl (yielded_of rfl G34) (v := .pointer (some ⟨bK, 2, none⟩)) (w' := W) (by simp [execOp, go_sem, E7]) ⟨hIW, fun _ h => h, Or.inl ⟨_, by decide, rfl, updF_same _ _ _⟩⟩
            | 36, _, hdep =>
              have G34 : a1.tmps[63]? = some (.bool false) := by rw [← ha1]; exact (putsL_some _ _ _ _ (by decide) (show 63 < 69 from by decide)).trans (congrArg some (hdep 34 (by kernel_rfl)))
              have E64 : a1.tmps[64]?.getD undef = .pointer (some ⟨bK, 2, none⟩) := by rw [← ha1]; exact (putsL_in2 _ _ _ _ (by decide) (show 64 < 69 from by decide)).trans (hdep 35 (by kernel_rfl))
              have v2 : W.cell? ⟨bK, 2, none⟩ = some (.int .i64 x2) := by simpa using HCK.out W hIW 2
              exact wpOp_valG rfl rfl (yielded_of rfl G34) (v := .int .i64 x2) (w' := W) (by simp [execOp, go_sem, E64, v2]) ⟨hIW, fun _ h => h, Or.inl ⟨_, by decide, rfl, updF_same _ _ _⟩⟩
            | 37, _, hdep =>
              have G34 : a1.tmps[63]? = some (.bool false) := by rw [← ha1]; exact (putsL_some _ _ _ _ (by decide) (show 63 < 69 from by decide)).trans (congrArg some (hdep 34 (by kernel_rfl)))
              have E65 : a1.tmps[65]?.getD undef = .int .i64 x2 := by rw [← ha1]; exact (putsL_in2 _ _ _ _ (by decide) (show 65 < 69 from by decide)).trans (hdep 36 (by kernel_rfl))
              exact wpOp_valG rfl rfl (yielded_of rfl G34) (v := .bool false) (w' := W) (by simp [execOp, go_sem, E65, hq5]) ⟨hIW, fun _ h => h, Or.inl ⟨_, by decide, rfl, updF_same _ _ _⟩⟩
            | 38, _, hdep =>
              have E63 : a1.tmps[63]?.getD undef = .bool false := by rw [← ha1]; exact (putsL_in2 _ _ _ _ (by decide) (show 63 < 69 from by decide)).trans (hdep 34 (by kernel_rfl))
              have E66 : a1.tmps[66]?.getD undef = .bool false := by rw [← ha1]; exact (putsL_in2 _ _ _ _ (by decide) (show 66 < 69 from by decide)).trans (hdep 37 (by kernel_rfl))
              exact wpOp_val rfl rfl (v := .bool false) (w' := W) (by simp [execOp, go_sem, E63, E66]) ⟨hIW, fun _ h => h, Or.inl ⟨_, by decide, rfl, updF_same _ _ _⟩⟩
            | iq + 39, h, _ => exact absurd h (by omega)
          case refine_2 =>
            intro f W hIW hR
            have h67 : f 67 = .bool false := hR 38 (show 38 < 39 from by decide)
            simp only [putsL, List.foldl_cons, List.foldl_nil, Act.put, List.setIfInBounds_toArray, List.set_cons_zero, List.set_cons_succ]
            go_wp2
            go_meet
            exact ⟨(by first | rfl | exact h67), Lib.hid hIW⟩
        case rest =>
          obtain ⟨rfl, HJW⟩ := hcut
          have HBW := Lib.hid (HFW1.out _ HJW.out)
          clear HJ0 HJD HJI HJO HFW HCK HFW1
          go_wp2
          go_roundw
          case rel => exact ⟨0 + 1, by first | rfl | go_num, by omega, HBW⟩
          case measure => simp [RowKit.intOf]; omega
      | succ k =>
        obtain ⟨y0, hy1, hy2⟩ := HPV.out k rfl
        have HC1 : Hid (∀ W, J W → W.cell? ⟨b, o + k * 3, none⟩ = some (.int .i64 y0)) := Lib.hid fun W hW => hy1 W (HFW.out W hW)
        have hq6 : (0 : Int) < ((k + 1 : Nat) : Int) := by omega
        have hq7 : ¬ x0 ≤ y0 := by omega
        have hq8 : IntKind.i64.wrap (k : Int) = (k : Int) := IntWalk.i64_in _ (by omega)
        have hk2 : (0 : Int) ≤ (k : Int) := by omega
        have hk3 : (k : Int) < (n : Int) := by omega
        clear HPV hy1 hy2
        go_cut [67] (fun c wx => c = .bool false ∧ Hid (J wx))
        case first =>
          refine wp_region_props [29, 30, 31, 32, 33, 34, 35, 36, 37, 38, 39, 40, 41, 42, 43, 44, 45, 46, 47, 48, 49, 50, 51, 52, 53, 54, 55, 56, 57, 58, 59, 60, 61, 62, 63, 64, 65, 66, 67] (slotS [29, 30, 31, 32, 33, 34, 35, 36, 37, 38, 39, 40, 41, 42, 43, 44, 45, 46, 47, 48, 49, 50, 51, 52, 53, 54, 55, 56, 57, 58, 59, 60, 61, 62, 63, 64, 65, 66, 67]) (readsS [29, 30, 31, 32, 33, 34, 35, 36, 37, 38, 39, 40, 41, 42, 43, 44, 45, 46, 47, 48, 49, 50, 51, 52, 53, 54, 55, 56, 57, 58, 59, 60, 61, 62, 63, 64, 65, 66, 67]) (RTs [29, 30, 31, 32, 33, 34, 35, 36, 37, 38, 39, 40, 41, 42, 43, 44, 45, 46, 47, 48, 49, 50, 51, 52, 53, 54, 55, 56, 57, 58, 59, 60, 61, 62, 63, 64, 65, 66, 67] [.bool true, .bool false, .bool false, .pointer (some ⟨bK, 0, none⟩), .int .i64 x0, .bool false, .bool false, .bool false, .int .i64 ((k + 1 : Nat) : Int), .bool true, .bool true, .slice (some ⟨b, o, none⟩) n cap, .int .i64 ((k + 1 : Nat) : Int), .int .i64 (k : Int), .pointer (some ⟨b, o + k * 3, none⟩), .pointer (some ⟨b, o + k * 3, none⟩), .int .i64 y0, .pointer (some ⟨bK, 0, none⟩), .int .i64 x0, .bool false, .bool false, .bool false, .bool false, .pointer (some ⟨bK, 1, none⟩), .int .i64 x1, .bool false, .bool false, .bool false, .pointer (some ⟨bK, 1, none⟩), .int .i64 x1, .pointer (some ⟨bK, 2, none⟩), .int .i64 x2, .bool false, .bool false, .bool false, .pointer (some ⟨bK, 2, none⟩), .int .i64 x2, .bool false, .bool false]) J (by kernel_rfl) (by kernel_rfl) (by kernel_rfl) (HJD.out _ HJ0.out) (fun j f q v W hq h => RTs.upd hq h) ?_ ?_
          case refine_1 =>
            intro iq hiq f W hIW hdep
            have hiq' : iq < 39 := hiq
            generalize ha1 : putsL _ [29, 30, 31, 32, 33, 34, 35, 36, 37, 38, 39, 40, 41, 42, 43, 44, 45, 46, 47, 48, 49, 50, 51, 52, 53, 54, 55, 56, 57, 58, 59, 60, 61, 62, 63, 64, 65, 66, 67] f = a1
            match iq, hiq', hdep with
            | 0, _, hdep =>
              have E9 : a1.tmps[9]?.getD undef = .bool true := by rw [← ha1]; exact (putsL_out2 _ _ _ _ (by decide)).trans rfl
              exact wpOp_val rfl rfl (v := .bool true) (w' := W) (by simp [execOp, go_sem, E9]) ⟨hIW, fun _ h => h, Or.inl ⟨_, by decide, rfl, updF_same _ _ _⟩⟩
            | 1, _, hdep =>
              have E29 : a1.tmps[29]?.getD undef = .bool true := by rw [← ha1]; exact (putsL_in2 _ _ _ _ (by decide) (show 29 < 69 from by decide)).trans (hdep 0 (by kernel_rfl))
              exact wpOp_val rfl rfl (v := .bool false) (w' := W) (by simp [execOp, go_sem, E29]) ⟨hIW, fun _ h => h, Or.inl ⟨_, by decide, rfl, updF_same _ _ _⟩⟩
            | 2, _, hdep =>
              have E30 : a1.tmps[30]?.getD undef = .bool false := by rw [← ha1]; exact (putsL_in2 _ _ _ _ (by decide) (show 30 < 69 from by decide)).trans (hdep 1 (by kernel_rfl))
              exact wpOp_val rfl rfl (v := .bool false) (w' := W) (by simp [execOp, go_sem, E30]) ⟨hIW, fun _ h => h, Or.inl ⟨_, by decide, rfl, updF_same _ _ _⟩⟩
            | 3, _, hdep =>
              have G2 : a1.tmps[31]? = some (.bool false) := by rw [← ha1]; exact (putsL_some _ _ _ _ (by decide) (show 31 < 69 from by decide)).trans (congrArg some (hdep 2 (by kernel_rfl)))
              have E7 : a1.tmps[7]?.getD undef = .pointer (some ⟨bK, 0, none⟩) := by rw [← ha1]; exact (putsL_out2 _ _ _ _ (by decide)).trans rfl
              exact wpOp_valG rfl rfl (yielded_of rfl G2) (v := .pointer (some ⟨bK, 0, none⟩)) (w' := W) (by simp [execOp, go_sem, E7]) ⟨hIW, fun _ h => h, Or.inl ⟨_, by decide, rfl, updF_same _ _ _⟩⟩
            | 4, _, hdep =>
              have G2 : a1.tmps[31]? = some (.bool false) := by rw [← ha1]; exact (putsL_some _ _ _ _ (by decide) (show 31 < 69 from by decide)).trans (congrArg some (hdep 2 (by kernel_rfl)))
              have E32 : a1.tmps[32]?.getD undef = .pointer (some ⟨bK, 0, none⟩) := by rw [← ha1]; exact (putsL_in2 _ _ _ _ (by decide) (show 32 < 69 from by decide)).trans (hdep 3 (by kernel_rfl))
              have v0 : W.cell? ⟨bK, 0, none⟩ = some (.int .i64 x0) := by simpa using HCK.out W hIW 0
              exact wpOp_valG rfl rfl (yielded_of rfl G2) (v := .int .i64 x0) (w' := W) (by simp [execOp, go_sem, E32, v0]) ⟨hIW, fun _ h => h, Or.inl ⟨_, by decide, rfl, updF_same _ _ _⟩⟩
            | 5, _, hdep =>
              have G2 : a1.tmps[31]? = some (.bool false) := by rw [← ha1]; exact (putsL_some _ _ _ _ (by decide) (show 31 < 69 from by decide)).trans (congrArg some (hdep 2 (by kernel_rfl)))
              have E33 : a1.tmps[33]?.getD undef = .int .i64 x0 := by rw [← ha1]; exact (putsL_in2 _ _ _ _ (by decide) (show 33 < 69 from by decide)).trans (hdep 4 (by kernel_rfl))
              exact wpOp_valG rfl rfl (yielded_of rfl G2) (v := .bool false) (w' := W) (by simp [execOp, go_sem, E33, hq1]) ⟨hIW, fun _ h => h, Or.inl ⟨_, by decide, rfl, updF_same _ _ _⟩⟩
            | 6, _, hdep =>
              have E31 : a1.tmps[31]?.getD undef = .bool false := by rw [← ha1]; exact (putsL_in2 _ _ _ _ (by decide) (show 31 < 69 from by decide)).trans (hdep 2 (by kernel_rfl))
              have E34 : a1.tmps[34]?.getD undef = .bool false := by rw [← ha1]; exact (putsL_in2 _ _ _ _ (by decide) (show 34 < 69 from by decide)).trans (hdep 5 (by kernel_rfl))
              exact wpOp_val rfl rfl (v := .bool false) (w' := W) (by simp [execOp, go_sem, E31, E34]) ⟨hIW, fun _ h => h, Or.inl ⟨_, by decide, rfl, updF_same _ _ _⟩⟩
            | 7, _, hdep =>
              have E35 : a1.tmps[35]?.getD undef = .bool false := by rw [← ha1]; exact (putsL_in2 _ _ _ _ (by decide) (show 35 < 69 from by decide)).trans (hdep 6 (by kernel_rfl))
              exact wpOp_val rfl rfl (v := .bool false) (w' := W) (by simp [execOp, go_sem, E35]) ⟨hIW, fun _ h => h, Or.inl ⟨_, by decide, rfl, updF_same _ _ _⟩⟩
            | 8, _, hdep =>
              have G7 : a1.tmps[36]? = some (.bool false) := by rw [← ha1]; exact (putsL_some _ _ _ _ (by decide) (show 36 < 69 from by decide)).trans (congrArg some (hdep 7 (by kernel_rfl)))
              have E6 : a1.tmps[6]?.getD undef = .int .i64 ((k + 1 : Nat) : Int) := by rw [← ha1]; exact (putsL_out2 _ _ _ _ (by decide)).trans rfl
              exact wpOp_valG rfl rfl (yielded_of rfl G7) (v := .int .i64 ((k + 1 : Nat) : Int)) (w' := W) (by simp [execOp, go_sem, E6]) ⟨hIW, fun _ h => h, Or.inl ⟨_, by decide, rfl, updF_same _ _ _⟩⟩
            | 9, _, hdep =>
              have G7 : a1.tmps[36]? = some (.bool false) := by rw [← ha1]; exact (putsL_some _ _ _ _ (by decide) (show 36 < 69 from by decide)).trans (congrArg some (hdep 7 (by kernel_rfl)))
              have E37 : a1.tmps[37]?.getD undef = .int .i64 ((k + 1 : Nat) : Int) := by rw [← ha1]; exact (putsL_in2 _ _ _ _ (by decide) (show 37 < 69 from by decide)).trans (hdep 8 (by kernel_rfl))
              exact wpOp_valG rfl rfl (yielded_of rfl G7) (v := .bool true) (w' := W) (by simp [execOp, go_sem, E37, hq6]) ⟨hIW, fun _ h => h, Or.inl ⟨_, by decide, rfl, updF_same _ _ _⟩⟩
            | 10, _, hdep =>
              have G7 : a1.tmps[36]? = some (.bool false) := by rw [← ha1]; exact (putsL_some _ _ _ _ (by decide) (show 36 < 69 from by decide)).trans (congrArg some (hdep 7 (by kernel_rfl)))
              have E38 : a1.tmps[38]?.getD undef = .bool true := by rw [← ha1]; exact (putsL_in2 _ _ _ _ (by decide) (show 38 < 69 from by decide)).trans (hdep 9 (by kernel_rfl))
              exact wpOp_valG rfl rfl (yielded_of rfl G7) (v := .bool true) (w' := W) (by simp [execOp, go_sem, E38]) ⟨hIW, fun _ h => h, Or.inl ⟨_, by decide, rfl, updF_same _ _ _⟩⟩
            | 11, _, hdep =>
              have G10 : a1.tmps[39]? = some (.bool true) := by rw [← ha1]; exact (putsL_some _ _ _ _ (by decide) (show 39 < 69 from by decide)).trans (congrArg some (hdep 10 (by kernel_rfl)))
              have E1 : a1.tmps[1]?.getD undef = .slice (some ⟨b, o, none⟩) n cap := by rw [← ha1]; exact (putsL_out2 _ _ _ _ (by decide)).trans rfl
              exact wpOp_valG rfl rfl (yielded_of rfl G10) (v := .slice (some ⟨b, o, none⟩) n cap) (w' := W) (by simp [execOp, go_sem, E1]) ⟨hIW, fun _ h => h, Or.inl ⟨_, by decide, rfl, updF_same _ _ _⟩⟩
            | 12, _, hdep =>
              have G10 : a1.tmps[39]? = some (.bool true) := by rw [← ha1]; exact (putsL_some _ _ _ _ (by decide) (show 39 < 69 from by decide)).trans (congrArg some (hdep 10 (by kernel_rfl)))
              have E6 : a1.tmps[6]?.getD undef = .int .i64 ((k + 1 : Nat) : Int) := by rw [← ha1]; exact (putsL_out2 _ _ _ _ (by decide)).trans rfl
              exact wpOp_valG rfl rfl (yielded_of rfl G10) (v := .int .i64 ((k + 1 : Nat) : Int)) (w' := W) (by simp [execOp, go_sem, E6]) ⟨hIW, fun _ h => h, Or.inl ⟨_, by decide, rfl, updF_same _ _ _⟩⟩
            | 13, _, hdep =>
              have G10 : a1.tmps[39]? = some (.bool true) := by rw [← ha1]; exact (putsL_some _ _ _ _ (by decide) (show 39 < 69 from by decide)).trans (congrArg some (hdep 10 (by kernel_rfl)))
              have E41 : a1.tmps[41]?.getD undef = .int .i64 ((k + 1 : Nat) : Int) := by rw [← ha1]; exact (putsL_in2 _ _ _ _ (by decide) (show 41 < 69 from by decide)).trans (hdep 12 (by kernel_rfl))
              exact wpOp_valG rfl rfl (yielded_of rfl G10) (v := .int .i64 (k : Int)) (w' := W) (by simp [execOp, go_sem, E41, hq8]) ⟨hIW, fun _ h => h, Or.inl ⟨_, by decide, rfl, updF_same _ _ _⟩⟩
            | 14, _, hdep =>
              have G10 : a1.tmps[39]? = some (.bool true) := by rw [← ha1]; exact (putsL_some _ _ _ _ (by decide) (show 39 < 69 from by decide)).trans (congrArg some (hdep 10 (by kernel_rfl)))
              have E40 : a1.tmps[40]?.getD undef = .slice (some ⟨b, o, none⟩) n cap := by rw [← ha1]; exact (putsL_in2 _ _ _ _ (by decide) (show 40 < 69 from by decide)).trans (hdep 11 (by kernel_rfl))
              have E42 : a1.tmps[42]?.getD undef = .int .i64 (k : Int) := by rw [← ha1]; exact (putsL_in2 _ _ _ _ (by decide) (show 42 < 69 from by decide)).trans (hdep 13 (by kernel_rfl))
              exact wpOp_valG rfl rfl (yielded_of rfl G10) (v := .pointer (some ⟨b, o + k * 3, none⟩)) (w' := W) (by simp [execOp, go_sem, E40, E42, hk2, hk3]) ⟨hIW, fun _ h => h, Or.inl ⟨_, by decide, rfl, updF_same _ _ _⟩⟩
            | 15, _, hdep =>
              have G10 : a1.tmps[39]? = some (.bool true) := by rw [← ha1]; exact (putsL_some _ _ _ _ (by decide) (show 39 < 69 from by decide)).trans (congrArg some (hdep 10 (by kernel_rfl)))
              have E43 : a1.tmps[43]?.getD undef = .pointer (some ⟨b, o + k * 3, none⟩) := by rw [← ha1]; exact (putsL_in2 _ _ _ _ (by decide) (show 43 < 69 from by decide)).trans (hdep 14 (by kernel_rfl))
              exact wpOp_valG rfl rfl (yielded_of rfl G10) (v := .pointer (some ⟨b, o + k * 3, none⟩)) (w' := W) (by simp [execOp, go_sem, E43]) ⟨hIW, fun _ h => h, Or.inl ⟨_, by decide, rfl, updF_same _ _ _⟩⟩
            | 16, _, hdep =>
              have G10 : a1.tmps[39]? = some (.bool true) := by rw [← ha1]; exact (putsL_some _ _ _ _ (by decide) (show 39 < 69 from by decide)).trans (congrArg some (hdep 10 (by kernel_rfl)))
              have E44 : a1.tmps[44]?.getD undef = .pointer (some ⟨b, o + k * 3, none⟩) := by rw [← ha1]; exact (putsL_in2 _ _ _ _ (by decide) (show 44 < 69 from by decide)).trans (hdep 15 (by kernel_rfl))
              exact wpOp_valG rfl rfl (yielded_of rfl G10) (v := .int .i64 y0) (w' := W) (by simp [execOp, go_sem, E44, HC1.out W hIW]) ⟨hIW, fun _ h => h, Or.inl ⟨_, by decide, rfl, updF_same _ _ _⟩⟩
            | 17, _, hdep =>
              have G10 : a1.tmps[39]? = some (.bool true) := by rw [← ha1]; exact (putsL_some _ _ _ _ (by decide) (show 39 < 69 from by decide)).trans (congrArg some (hdep 10 (by kernel_rfl)))
              have E7 : a1.tmps[7]?.getD undef = .pointer (some ⟨bK, 0, none⟩) := by rw [← ha1]; exact (putsL_out2 _ _ _ _ (by decide)).trans rfl
              exact wpOp_valG rfl rfl (yielded_of rfl G10) (v := .pointer (some ⟨bK, 0, none⟩)) (w' := W) (by simp [execOp, go_sem, E7]) ⟨hIW, fun _ h => h, Or.inl ⟨_, by decide, rfl, updF_same _ _ _⟩⟩
            | 18, _, hdep =>
              have G10 : a1.tmps[39]? = some (.bool true) := by rw [← ha1]; exact (putsL_some _ _ _ _ (by decide) (show 39 < 69 from by decide)).trans (congrArg some (hdep 10 (by kernel_rfl)))
              have E46 : a1.tmps[46]?.getD undef = .pointer (some ⟨bK, 0, none⟩) := by rw [← ha1]; exact (putsL_in2 _ _ _ _ (by decide) (show 46 < 69 from by decide)).trans (hdep 17 (by kernel_rfl))
              have v0 : W.cell? ⟨bK, 0, none⟩ = some (.int .i64 x0) := by simpa using HCK.out W hIW 0
              exact wpOp_valG rfl rfl (yielded_of rfl G10) (v := .int .i64 x0) (w' := W) (by simp [execOp, go_sem, E46, v0]) ⟨hIW, fun _ h => h, Or.inl ⟨_, by decide, rfl, updF_same _ _ _⟩⟩
            | 19, _, hdep =>
              have G10 : a1.tmps[39]? = some (.bool true) := by rw [← ha1]; exact (putsL_some _ _ _ _ (by decide) (show 39 < 69 from by decide)).trans (congrArg some (hdep 10 (by kernel_rfl)))
              have E45 : a1.tmps[45]?.getD undef = .int .i64 y0 := by rw [← ha1]; exact (putsL_in2 _ _ _ _ (by decide) (show 45 < 69 from by decide)).trans (hdep 16 (by kernel_rfl))
              have E47 : a1.tmps[47]?.getD undef = .int .i64 x0 := by rw [← ha1]; exact (putsL_in2 _ _ _ _ (by decide) (show 47 < 69 from by decide)).trans (hdep 18 (by kernel_rfl))
              exact wpOp_valG rfl rfl (yielded_of rfl G10) (v := .bool false) (w' := W) (by simp [execOp, go_sem, E45, E47, hq7]) ⟨hIW, fun _ h => h, Or.inl ⟨_, by decide, rfl, updF_same _ _ _⟩⟩
            | 20, _, hdep =>
              have G7 : a1.tmps[36]? = some (.bool false) := by rw [← ha1]; exact (putsL_some _ _ _ _ (by decide) (show 36 < 69 from by decide)).trans (congrArg some (hdep 7 (by kernel_rfl)))
              have E39 : a1.tmps[39]?.getD undef = .bool true := by rw [← ha1]; exact (putsL_in2 _ _ _ _ (by decide) (show 39 < 69 from by decide)).trans (hdep 10 (by kernel_rfl))
              have E48 : a1.tmps[48]?.getD undef = .bool false := by rw [← ha1]; exact (putsL_in2 _ _ _ _ (by decide) (show 48 < 69 from by decide)).trans (hdep 19 (by kernel_rfl))
              exact wpOp_valG rfl rfl (yielded_of rfl G7) (v := .bool false) (w' := W) (by simp [execOp, go_sem, E39, E48]) ⟨hIW, fun _ h => h, Or.inl ⟨_, by decide, rfl, updF_same _ _ _⟩⟩
            | 21, _, hdep =>
              have E36 : a1.tmps[36]?.getD undef = .bool false := by rw [← ha1]; exact (putsL_in2 _ _ _ _ (by decide) (show 36 < 69 from by decide)).trans (hdep 7 (by kernel_rfl))
              have E49 : a1.tmps[49]?.getD undef = .bool false := by rw [← ha1]; exact (putsL_in2 _ _ _ _ (by decide) (show 49 < 69 from by decide)).trans (hdep 20 (by kernel_rfl))
              exact wpOp_val rfl rfl (v := .bool false) (w' := W) (by simp [execOp, go_sem, E36, E49]) ⟨hIW, fun _ h => h, Or.inl ⟨_, by decide, rfl, updF_same _ _ _⟩⟩
            | 22, _, hdep =>
              have E50 : a1.tmps[50]?.getD undef = .bool false := by rw [← ha1]; exact (putsL_in2 _ _ _ _ (by decide) (show 50 < 69 from by decide)).trans (hdep 21 (by kernel_rfl))
              exact wpOp_val rfl rfl (v := .bool false) (w' := W) (by simp [execOp, go_sem, E50]) ⟨hIW, fun _ h => h, Or.inl ⟨_, by decide, rfl, updF_same _ _ _⟩⟩
            | 23, _, hdep =>
              have G22 : a1.tmps[51]? = some (.bool false) := by rw [← ha1]; exact (putsL_some _ _ _ _ (by decide) (show 51 < 69 from by decide)).trans (congrArg some (hdep 22 (by kernel_rfl)))
              have E7 : a1.tmps[7]?.getD undef = .pointer (some ⟨bK, 0, none⟩) := by rw [← ha1]; exact (putsL_out2 _ _ _ _ (by decide)).trans rfl
              exact wpOp_valG rfl rfl (yielded_of rfl G22) (v := .pointer (some ⟨bK, 1, none⟩)) (w' := W) (by simp [execOp, go_sem, E7]) ⟨hIW, fun _ h => h, Or.inl ⟨_, by decide, rfl, updF_same _ _ _⟩⟩
            | 24, _, hdep =>
              have G22 : a1.tmps[51]? = some (.bool false) := by rw [← ha1]; exact (putsL_some _ _ _ _ (by decide) (show 51 < 69 from by decide)).trans (congrArg some (hdep 22 (by kernel_rfl)))
              have E52 : a1.tmps[52]?.getD undef = .pointer (some ⟨bK, 1, none⟩) := by rw [← ha1]; exact (putsL_in2 _ _ _ _ (by decide) (show 52 < 69 from by decide)).trans (hdep 23 (by kernel_rfl))
              have v1 : W.cell? ⟨bK, 1, none⟩ = some (.int .i64 x1) := by simpa using HCK.out W hIW 1
              exact wpOp_valG rfl rfl (yielded_of rfl G22) (v := .int .i64 x1) (w' := W) (by simp [execOp, go_sem, E52, v1]) ⟨hIW, fun _ h => h, Or.inl ⟨_, by decide, rfl, updF_same _ _ _⟩⟩
            | 25, _, hdep =>
              have G22 : a1.tmps[51]? = some (.bool false) := by rw [← ha1]; exact (putsL_some _ _ _ _ (by decide) (show 51 < 69 from by decide)).trans (congrArg some (hdep 22 (by kernel_rfl)))
              have E53 : a1.tmps[53]?.getD undef = .int .i64 x1 := by rw [← ha1]; exact (putsL_in2 _ _ _ _ (by decide) (show 53 < 69 from by decide)).trans (hdep 24 (by kernel_rfl))
              exact wpOp_valG rfl rfl (yielded_of rfl G22) (v := .bool false) (w' := W) (by simp [execOp, go_sem, E53, hq3]) ⟨hIW, fun _ h => h, Or.inl ⟨_, by decide, rfl, updF_same _ _ _⟩⟩
            | 26, _, hdep =>
              have E51 : a1.tmps[51]?.getD undef = .bool false := by rw [← ha1]; exact (putsL_in2 _ _ _ _ (by decide) (show 51 < 69 from by decide)).trans (hdep 22 (by kernel_rfl))
              have E54 : a1.tmps[54]?.getD undef = .bool false := by rw [← ha1]; exact (putsL_in2 _ _ _ _ (by decide) (show 54 < 69 from by decide)).trans (hdep 25 (by kernel_rfl))
              exact wpOp_val rfl rfl (v := .bool false) (w' := W) (by simp [execOp, go_sem, E51, E54]) ⟨hIW, fun _ h => h, Or.inl ⟨_, by decide, rfl, updF_same _ _ _⟩⟩
            | 27, _, hdep =>
              have E55 : a1.tmps[55]?.getD undef = .bool false := by rw [← ha1]; exact (putsL_in2 _ _ _ _ (by decide) (show 55 < 69 from by decide)).trans (hdep 26 (by kernel_rfl))
              exact wpOp_val rfl rfl (v := .bool false) (w' := W) (by simp [execOp, go_sem, E55]) ⟨hIW, fun _ h => h, Or.inl ⟨_, by decide, rfl, updF_same _ _ _⟩⟩
            | 28, _, hdep =>
              have G27 : a1.tmps[56]? = some (.bool false) := by rw [← ha1]; exact (putsL_some _ _ _ _ (by decide) (show 56 < 69 from by decide)).trans (congrArg some (hdep 27 (by kernel_rfl)))
              have E7 : a1.tmps[7]?.getD undef = .pointer (some ⟨bK, 0, none⟩) := by rw [← ha1]; exact (putsL_out2 _ _ _ _ (by decide)).trans rfl
              exact wpOp_valG rfl rfl (yielded_of rfl G27) (v := .pointer (some ⟨bK, 1, none⟩)) (w' := W) (by simp [execOp, go_sem, E7]) ⟨hIW, fun _ h => h, Or.inl ⟨_, by decide, rfl, updF_same _ _ _⟩⟩
            | 29, _, hdep =>
              have G27 : a1.tmps[56]? = some (.bool false) := by rw [← ha1]; exact (putsL_some _ _ _ _ (by decide) (show 56 < 69 from by decide)).trans (congrArg some (hdep 27 (by kernel_rfl)))
              have E57 : a1.tmps[57]?.getD undef = .pointer (some ⟨bK, 1, none⟩) := by rw [← ha1]; exact (putsL_in2 _ _ _ _ (by decide) (show 57 < 69 from by decide)).trans (hdep 28 (by kernel_rfl))
              have v1 : W.cell? ⟨bK, 1, none⟩ = some (.int .i64 x1) := by simpa using HCK.out W hIW 1
              exact wpOp_valG rfl rfl (yielded_of rfl G27) (v := .int .i64 x1) (w' := W) (by simp [execOp, go_sem, E57, v1]) ⟨hIW, fun _ h => h, Or.inl ⟨_, by decide, rfl, updF_same _ _ _⟩⟩
            | 30, _, hdep =>
              have G27 : a1.tmps[56]? = some (.bool false) := by rw [← ha1]; exact (putsL_some _ _ _ _ (by decide) (show 56 < 69 from by decide)).trans (congrArg some (hdep 27 (by kernel_rfl)))
              have E7 : a1.tmps[7]?.getD undef = .pointer (some ⟨bK, 0, none⟩) := by rw [← ha1]; exact (putsL_out2 _ _ _ _ (by decide)).trans rfl
              exact wpOp_valG rfl rfl (yielded_of rfl G27) (v := .pointer (some ⟨bK, 2, none⟩)) (w' := W) (by simp [execOp, go_sem, E7]) ⟨hIW, fun _ h => h, Or.inl ⟨_, by decide, rfl, updF_same _ _ _⟩⟩
            | 31, _, hdep =>
              have G27 : a1.tmps[56]? = some (.bool false) := by rw [← ha1]; exact (putsL_some _ _ _ _ (by decide) (show 56 < 69 from by decide)).trans (congrArg some (hdep 27 (by kernel_rfl)))
              have E59 : a1.tmps[59]?.getD undef = .pointer (some ⟨bK, 2, none⟩) := by rw [← ha1]; exact (putsL_in2 _ _ _ _ (by decide) (show 59 < 69 from by decide)).trans (hdep 30 (by kernel_rfl))
              have v2 : W.cell? ⟨bK, 2, none⟩ = some (.int .i64 x2) := by simpa using HCK.out W hIW 2
              exact wpOp_valG rfl rfl (yielded_of rfl G27) (v := .int .i64 x2) (w' := W) (by simp [execOp, go_sem, E59, v2]) ⟨hIW, fun _ h => h, Or.inl ⟨_, by decide, rfl, updF_same _ _ _⟩⟩
            | 32, _, hdep =>
              have G27 : a1.tmps[56]? = some (.bool false) := by rw [← ha1]; exact (putsL_some _ _ _ _ (by decide) (show 56 < 69 from by decide)).trans (congrArg some (hdep 27 (by kernel_rfl)))
              have E58 : a1.tmps[58]?.getD undef = .int .i64 x1 := by rw [← ha1]; exact (putsL_in2 _ _ _ _ (by decide) (show 58 < 69 from by decide)).trans (hdep 29 (by kernel_rfl))
              have E60 : a1.tmps[60]?.getD undef = .int .i64 x2 := by rw [← ha1]; exact (putsL_in2 _ _ _ _ (by decide) (show 60 < 69 from by decide)).trans (hdep 31 (by kernel_rfl))
              exact wpOp_valG rfl rfl (yielded_of rfl G27) (v := .bool false) (w' := W) (by simp [execOp, go_sem, E58, E60, hq4]) ⟨hIW, fun _ h => h, Or.inl ⟨_, by decide, rfl, updF_same _ _ _⟩⟩
            | 33, _, hdep =>
              have E56 : a1.tmps[56]?.getD undef = .bool false := by rw [← ha1]; exact (putsL_in2 _ _ _ _ (by decide) (show 56 < 69 from by decide)).trans (hdep 27 (by kernel_rfl))
              have E61 : a1.tmps[61]?.getD undef = .bool false := by rw [← ha1]; exact (putsL_in2 _ _ _ _ (by decide) (show 61 < 69 from by decide)).trans (hdep 32 (by kernel_rfl))
              exact wpOp_val rfl rfl (v := .bool false) (w' := W) (by simp [execOp, go_sem, E56, E61]) ⟨hIW, fun _ h => h, Or.inl ⟨_, by decide, rfl, updF_same _ _ _⟩⟩
            | 34, _, hdep =>
              have E62 : a1.tmps[62]?.getD undef = .bool false := by rw [← ha1]; exact (putsL_in2 _ _ _ _ (by decide) (show 62 < 69 from by decide)).trans (hdep 33 (by kernel_rfl))
              exact wpOp_val rfl rfl (v := .bool false) (w' := W) (by simp [execOp, go_sem, E62]) ⟨hIW, fun _ h => h, Or.inl ⟨_, by decide, rfl, updF_same _ _ _⟩⟩
            | 35, _, hdep =>
              have G34 : a1.tmps[63]? = some (.bool false) := by rw [← ha1]; exact (putsL_some _ _ _ _ (by decide) (show 63 < 69 from by decide)).trans (congrArg some (hdep 34 (by kernel_rfl)))
              have E7 : a1.tmps[7]?.getD undef = .pointer (some ⟨bK, 0, none⟩) := by rw [← ha1]; exact (putsL_out2 _ _ _ _ (by decide)).trans rfl
              exact wpOp_valG rfl rfl (yielded_of rfl G34) (v := .pointer (some ⟨bK, 2, none⟩)) (w' := W) (by simp [execOp, go_sem, E7]) ⟨hIW, fun _ h => h, Or.inl ⟨_, by decide, rfl, updF_same _ _ _⟩⟩
            | 36, _, hdep =>
              have G34 : a1.tmps[63]? = some (.bool false) := by rw [← ha1]; exact (putsL_some _ _ _ _ (by decide) (show 63 < 69 from by decide)).trans (congrArg some (hdep 34 (by kernel_rfl)))
              have E64 : a1.tmps[64]?.getD undef = .pointer (some ⟨bK, 2, none⟩) := by rw [← ha1]; exact (putsL_in2 _ _ _ _ (by decide) (show 64 < 69 from by decide)).trans (hdep 35 (by kernel_rfl))
              have v2 : W.cell? ⟨bK, 2, none⟩ = some (.int .i64 x2) := by simpa using HCK.out W hIW 2
              exact wpOp_valG rfl rfl (yielded_of rfl G34) (v := .int .i64 x2) (w' := W) (by simp [execOp, go_sem, E64, v2]) ⟨hIW, fun _ h => h, Or.inl ⟨_, by decide, rfl, updF_same _ _ _⟩⟩
            | 37, _, hdep =>
              have G34 : a1.tmps[63]? = some (.bool false) := by rw [← ha1]; exact (putsL_some _ _ _ _ (by decide) (show 63 < 69 from by decide)).trans (congrArg some (hdep 34 (by kernel_rfl)))
              have E65 : a1.tmps[65]?.getD undef = .int .i64 x2 := by rw [← ha1]; exact (putsL_in2 _ _ _ _ (by decide) (show 65 < 69 from by decide)).trans (hdep 36 (by kernel_rfl))
              exact wpOp_valG rfl rfl (yielded_of rfl G34) (v := .bool false) (w' := W) (by simp [execOp, go_sem, E65, hq5]) ⟨hIW, fun _ h => h, Or.inl ⟨_, by decide, rfl, updF_same _ _ _⟩⟩
            | 38, _, hdep =>
              have E63 : a1.tmps[63]?.getD undef = .bool false := by rw [← ha1]; exact (putsL_in2 _ _ _ _ (by decide) (show 63 < 69 from by decide)).trans (hdep 34 (by kernel_rfl))
              have E66 : a1.tmps[66]?.getD undef = .bool false := by rw [← ha1]; exact (putsL_in2 _ _ _ _ (by decide) (show 66 < 69 from by decide)).trans (hdep 37 (by kernel_rfl))
              exact wpOp_val rfl rfl (v := .bool false) (w' := W) (by simp [execOp, go_sem, E63, E66]) ⟨hIW, fun _ h => h, Or.inl ⟨_, by decide, rfl, updF_same _ _ _⟩⟩
            | iq + 39, h, _ => exact absurd h (by omega)
          case refine_2 =>
            intro f W hIW hR
            have h67 : f 67 = .bool false := hR 38 (show 38 < 39 from by decide)
            simp only [putsL, List.foldl_cons, List.foldl_nil, Act.put, List.setIfInBounds_toArray, List.set_cons_zero, List.set_cons_succ]
            go_wp2
            go_meet
            exact ⟨(by first | rfl | exact h67), Lib.hid hIW⟩
        case rest =>
          obtain ⟨rfl, HJW⟩ := hcut
          have HBW := Lib.hid (HFW1.out _ HJW.out)
          clear HJ0 HJD HJI HJO HFW HCK HFW1
          go_wp2
          go_roundw
          case rel => exact ⟨(k + 1) + 1, by first | rfl | go_num, by omega, HBW⟩
          case measure => simp [RowKit.intOf]; omega
    · obtain rfl : k = n := by omega
      go_wp2
      go_ret
      exact ⟨rfl, HB1.out.trans (HB.out.mono HB1.out.size)⟩


set_option maxRecDepth 100000 in
set_option maxHeartbeats 16000000 in
theorem rwPlan_right (a : Acc) (ks : List Kp) (su en kv : Value) (day : Int) (es : List Ent) (w : World) (h : SubsAt w su a.subs) (he : EntsAt w en a.ents) (hk : KeepsAt w kv ks) (hkl : ks.length ≤ 1000) (hp : planM a ks day = .ok es) :
    Calls Try.prog 47 #[.agg #[.int .i64 a.credit, su, en], kv, .int .i64 day] w (PlanPost w es) := by
  obtain ⟨i0, hi0, hz0, hz1, hz2⟩ := infoE_parts
  obtain ⟨hr, hks, hd1, hd2, h400, rfl⟩ := planM_ok hp
  have hz := checkM_zero.1 hr
  have HCK := Lib.hid (fun W (hW : Below w.heap.size w W) => rwCheck_right a ks su en kv W (h.below hW) (he.below hW) (hk.below hW) hkl hr hks)
  have HBLQ : Hid (∀ id, (atS a.subs id).isSome = true → ∀ W, Below w.heap.size w W → Calls Try.prog 19 #[.agg #[.int .i64 a.credit, su, en], .int .i64 id] W fun e w' => e = .returned (.tuple #[.int .i64 (balOf a.subs id), .bool true]) ∧ Below W.heap.size W w') := Lib.hid fun id hid W hW => by
    have g := raBalance_any a su en id W (h.below hW) (he.below hW) (by omega) (by omega)
    rw [balanceM_at hr hid] at g
    exact g
  have HBL := Lib.hid (balOf_range hr)
  have hmain := balOf_range hr 1
  have HONE : Hid ((atS a.subs 1).isSome = true) := Lib.hid (by rw [right_one hr]; rfl)
  have hday0 := lastE_day hr
  have hpush : 0 < a.ents.length → ∃ b o, (∃ cap, en = .slice (some ⟨b, o, none⟩) a.ents.length cap) ∧ b < w.heap.size ∧ w.cell? ⟨b, o + (a.ents.length - 1) * 6 + 1, none⟩ = some (.int .i64 (lastE a.ents).day) := fun hp => by
    obtain ⟨ao, cap, h1, h2, h3⟩ := entsAt_shape he
    obtain ⟨b, o, rfl, hb, hc⟩ := h3 hp
    refine ⟨b, o, ⟨cap, h1⟩, hb, ?_⟩
    rw [lastE_at (m := a.ents.length - 1) (by omega), hc _ (by omega) 1 (by omega)]
    rfl
  obtain ⟨aE, cE, rfl, hcE, -⟩ := entsAt_shape he
  obtain ⟨ao, cap, rfl, hcap, hcs⟩ := hk.open
  have HCS := Lib.hid hcs
  obtain ⟨n, hn⟩ : ∃ n, n = ks.length := ⟨_, rfl⟩
  have HN := Lib.hid hn
  have HKS := Lib.hid hks
  have HR := Lib.hid hr
  obtain ⟨m, hm⟩ : ∃ m, m = a.ents.length := ⟨_, rfl⟩
  have HM := Lib.hid hm
  have hm4 : m ≤ 400 := by rw [hm]; exact hz.2.1
  obtain ⟨en, hen⟩ : ∃ en : Value, en = .slice aE a.ents.length cE := ⟨_, rfl⟩
  rw [← hen] at HCK HBLQ ⊢
  have HEE : Hid (en = .slice aE m cE) := Lib.hid (by rw [hen, hm])
  rw [← hn] at hcap hkl HCK ⊢
  obtain ⟨ld, hld⟩ : ∃ ld, ld = (lastE a.ents).day := ⟨_, rfl⟩
  rw [← hld] at hd1 hday0 hpush
  rw [← hm] at hpush
  have HPU : Hid (0 < m → ∃ b o, aE = some ⟨b, o, none⟩ ∧ b < w.heap.size ∧ w.cell? ⟨b, o + (m - 1) * 6 + 1, none⟩ = some (.int .i64 ld)) := Lib.hid fun hp => by
    obtain ⟨b, o, ⟨cap, h1⟩, h2, h3⟩ := hpush hp
    injection h1 with h1 _ _
    exact ⟨b, o, h1, h2, h3⟩
  have HX0 := Lib.hid (heap_alloc_new w (.cells #[.int .i64 a.credit, su, en] 28))
  have HB0 := Lib.hid (below_alloc w (.cells #[.int .i64 a.credit, su, en] 28))
  obtain ⟨bA, hbA⟩ : ∃ bA, bA = w.heap.size := ⟨_, rfl⟩
  have HBA := Lib.hid hbA
  obtain ⟨mb, hmb⟩ : ∃ x, x = balOf a.subs 1 := ⟨_, rfl⟩
  rw [← hmb] at hmain
  have HMB0 := Lib.hid hmb
  clear hn hcs h he hk hz hr hks hp hm hld hen hbA hmb hpush
  go_enter Try.func47, Try.ntmps47
  go_wp2_with fail
  refine (HCK.out _ HB0.out).mono ?_
  rintro e w0 ⟨rfl, hb0⟩
  have HX9 : Hid (w0.heap[bA]? = some (.cells #[.int .i64 a.credit, su, en] 28 (0, 0))) := Lib.hid (by rw [HBA.out]; exact obj_below HX0.out hb0)
  have HB9 := Lib.hid (HB0.out.trans (hb0.mono HB0.out.size))
  rw [← HBA.out]
  clear hb0 HX0 HB0 HCK
  have hbx := HX9.out
  have u0 := obj_cell hbx 0
  have u1 := obj_cell hbx 1
  have u2 := obj_cell hbx 2
  simp at u0 u1 u2
  have hee := HEE.out
  subst hee
  clear hbx
  go_upto_region 5 with fail
  have hd0 : ¬ day < 0 := by omega
  have hd3 : ¬ (36000 : Int) < day := by omega
  have hd4 : ¬ day < ld := by omega
  have hm0 : (0 : Int) ≤ (m : Int) := by omega
  go_cut [52] (fun c wx => c = .bool false ∧ w0 = wx)
  case first =>
    cases m with
    | zero =>
      have hz0 : ¬ (0 : Int) < 0 := by omega
      go_wp2
      go_meet
      exact ⟨rfl, rfl⟩
    | succ m =>
      obtain ⟨b, o, rfl, hb, hc⟩ := HPU.out (by omega)
      have hcl := (HB9.out.cell (p := ⟨b, o + m * 6 + 1, none⟩) hb).trans hc
      have hp0 : (0 : Int) < ((m + 1 : Nat) : Int) := by omega
      have hp1 : IntKind.i64.wrap (((m + 1 : Nat) : Int) - 1) = (m : Int) := by rw [show ((m + 1 : Nat) : Int) - 1 = (m : Int) by omega]; exact IntWalk.i64_in _ (by omega)
      have hp2 : (0 : Int) ≤ (m : Int) := by omega
      have hp3 : (m : Int) < ((m + 1 : Nat) : Int) := by omega
      clear hc
      go_wp2
      go_meet
      exact ⟨rfl, rfl⟩
  case rest =>
  obtain ⟨rfl, rfl⟩ := hcut
  have HMQ := Lib.hid (HBLQ.out 1 HONE.out)
  rw [← HMB0.out] at HMQ
  clear HPU hd0 hd3 hd4
  go_wp2_with fail
  refine (HMQ.out _ HB9.out).mono ?_
  rintro e w1 ⟨rfl, hb1⟩
  have HX1 := Lib.hid (obj_below HX9.out hb1)
  have HB1 := Lib.hid (HB9.out.trans (hb1.mono HB9.out.size))
  have HMB : Hid (mb = (([], balOf a.subs 1) : PS).2) := Lib.hid HMB0.out
  clear hb1 u0 u1 u2 HMQ HX9 HB9
  have HB9 : Hid (Below w1.heap.size w1 w1) := Lib.hid (Below.refl _ _)
  go_wp2
  go_loopw [10, 12, 60] (fun hv u iv wr => ∃ (k : Nat) (s : PS) (hs : Int), hv = .int .i64 hs ∧ iv = .int .i64 k ∧ Hid (hs = s.2) ∧ k ≤ n ∧ Hid (s = (ks.take k).foldl (upStep a.subs day a.ents.length) ([], balOf a.subs 1)) ∧ Hid (wr.ownsRow w1.heap.size 38 6 u s.1.length (cellsN s.1)) ∧ Hid (Below w1.heap.size w1 wr) ∧ s.1.length ≤ k ∧ -1000000000000 ≤ hs ∧ hs ≤ 1000000000000000 + 1000000000000 * (k : Int)) (fun _ _ iv _ => n - (RowKit.intOf iv).toNat)
  case atStart => exact ⟨0, ([], balOf a.subs 1), mb, rfl, rfl, HMB, by omega, Lib.hid rfl, Lib.hid (World.ownsRow_nil _ _ _ _), HB9, by simp, by omega, by omega⟩
  case round =>
    obtain ⟨k, s, hs, rfl, rfl, hhs, hkn, HSS, HO, HB, hln, hlo, hhi⟩ := hrel
    obtain ⟨L, hL⟩ : ∃ L, L = s.1.length := ⟨_, rfl⟩
    have HL := Lib.hid hL
    rw [← hL] at HO hln
    clear hL
    obtain ⟨au, cu, rfl, -, -⟩ := owns_gen HO.out
    by_cases hlt : k < n
    · have hkl' : k < ks.length := by rw [← HN.out]; exact hlt
      obtain ⟨b, o, rfl, hb, hcc⟩ := HCS.out (by omega)
      have HWB := Lib.hid (HB1.out.trans (HB.out.mono HB1.out.size))
      have hcell := fun j (hj : j < 3) => (HWB.out.cell (p := ⟨b, o + k * 3 + j, none⟩) hb).trans (hcc k hkl' j hj)
      obtain ⟨q1, q2, q3, q4, q5⟩ := keepsB_get HKS.out hkl'
      have hbq0 := right_nonneg HR.out q2
      have hbq1 := HBL.out (keepAt ks k).sub
      have HST : Hid ((ks.take (k + 1)).foldl (upStep a.subs day a.ents.length) ([], balOf a.subs 1) = upStep a.subs day a.ents.length s (keepAt ks k)) := Lib.hid (by
        rw [List.take_succ_eq_append_getElem hkl', List.foldl_append, ← HSS.out, keepAt_get hkl']
        rfl)
      have HBX := Lib.hid (HBLQ.out (keepAt ks k).sub q1)
      generalize keepAt ks k = x at *
      obtain ⟨x0, x1, x2⟩ := x
      simp only at q1 q2 q3 q4 q5 hbq0 hbq1 HBX
      have c0 := hcell 0 (by omega)
      have c1 := hcell 1 (by omega)
      have c2 := hcell 2 (by omega)
      simp [kpC] at c0 c1 c2
      obtain ⟨bq, hbq⟩ : ∃ bq, bq = balOf a.subs x0 := ⟨_, rfl⟩
      obtain ⟨mn, hmn0⟩ : ∃ mn, mn = upX a.subs ⟨x0, x1, x2⟩ := ⟨_, rfl⟩
      have hmn : (if 1000000000000 < bq - x2 then 1000000000000 else bq - x2) = mn := by rw [hmn0, hbq]; unfold upX; simp only; split <;> omega
      have hmb : mn ≤ 1000000000000 ∧ mn ≤ bq - x2 := by
        have := hmn0
        unfold upX at this
        simp only at this
        rw [← hbq] at this
        omega
      have hsg : 0 < mn ↔ x2 < bq := by
        have := hmn0
        unfold upX at this
        simp only at this
        rw [← hbq] at this
        omega
      rw [← hbq] at hbq0 hbq1 HBX
      have HMN := Lib.hid hmn0
      have hk0 : (0 : Int) ≤ (k : Int) := by omega
      have hk1 : (k : Int) < (n : Int) := by omega
      have hwr : IntKind.i64.wrap (bq - x2) = bq - x2 := IntWalk.i64_in _ (by omega)
      have HK6 := Lib.hid (heap_alloc_new wr (.cells #[.int .i64 x0, .int .i64 x1, .int .i64 x2] 50))
      have HB6 := Lib.hid (HB.out.alloc HB.out.size (.cells #[.int .i64 x0, .int .i64 x1, .int .i64 x2] 50))
      have HO6 := Lib.hid (HO.out.alloc (.cells #[.int .i64 x0, .int .i64 x1, .int .i64 x2] 50))
      have HW6 := Lib.hid (HB1.out.trans (HB6.out.mono HB1.out.size))
      have hbx := obj_below HX1.out HB6.out
      have u0 := obj_cell hbx 0
      have u1 := obj_cell hbx 1
      have u2 := obj_cell hbx 2
      simp at u0 u1 u2
      clear hcell hcc q1 hkl' hbq hmn0 hbx
      go_wp2_with fail
      refine (HBX.out _ HW6.out).mono ?_
      rintro e w7 ⟨rfl, hb7⟩
      have HB7 := Lib.hid (HB6.out.trans (hb7.mono HB6.out.size))
      have HO7 := Lib.hid (ownsRow_below HO6.out hb7)
      have hkb := obj_below HK6.out hb7
      have k0 := obj_cell hkb 0
      have k1 := obj_cell hkb 1
      have k2 := obj_cell hkb 2
      simp at k0 k1 k2
      have HSZ : Hid (w1.heap.size ≤ w7.heap.size) := Lib.hid HB7.out.size
      clear hb7 hkb u0 u1 u2 c0 c1 c2 HB6 HO6 HW6 HK6 HB HO HWB HBX
      by_cases hpos : 0 < mn
      · have hp1 := hsg.1 hpos
        have HNX : Hid (upStep a.subs day a.ents.length s ⟨x0, x1, x2⟩ = (s.1 ++ [⟨a.ents.length + 1 + s.1.length, day, x0, 1, mn, 0⟩], s.2 + mn)) := Lib.hid (by
          unfold upStep
          skip
          rw [← HMN.out]
          exact if_pos hpos)
        clear hsg
        go_wp2_with (at_builtin; refine wpList_append_own _ rfl _ _ 26 rfl w1.heap.size 38 i0 (.agg #[.int .i64 0, .int .i64 0, .int .i64 0, .int .i64 0, .int .i64 0, .int .i64 0]) 6 48 Try.underlying26 hi0 hz0 hz1 hz2 rfl (by decide) _ _ _ rfl (HO7.out.alloc _) ⟨w7.heap.size, 0, none⟩ 1 1 [.int .i64 ((m : Int) + 1 + (L : Int)), .int .i64 day, .int .i64 x0, .int .i64 1, .int .i64 mn, .int .i64 0] rfl rfl (new_cells _ _ _ _ rfl) (entF.one ⟨_, _, _, _, _, _⟩) (by unfold maxLen; omega) (by omega) (by have := HSZ.out; simp; omega) ?_; intro v' w8 hown8 hgr8 _)
        have HO8 : Hid (w8.ownsRow w1.heap.size 38 6 v' (L + 1) (cellsN (s.1 ++ [⟨(m : Int) + 1 + (L : Int), day, x0, 1, mn, 0⟩]))) := Lib.hid (by rw [← cellsN_snoc]; exact hown8)
        have HB8 : Hid (Below w1.heap.size w1 w8) := Lib.hid ((HB7.out.alloc HB7.out.size _).grown hgr8 (by have := HB7.out.size; simp; omega) fun j e => ownBlock_le HO7.out j e)
        clear hown8 hgr8 k0 k1 k2
        go_wp2
        go_roundw
        case rel => exact ⟨k + 1, upStep a.subs day a.ents.length s ⟨x0, x1, x2⟩, hs + mn, rfl, (by first | rfl | go_num), Lib.hid (by rw [HNX.out]; simp only; rw [← hhs.out]), by omega, Lib.hid HST.out.symm, Lib.hid (by rw [HNX.out, ← HM.out, ← HL.out]; simp only [List.length_append, List.length_singleton, ← HL.out]; exact HO8.out), HB8, by rw [HNX.out]; have hLq := HL.out; simp; omega, by omega, by omega⟩
        case measure => simp [RowKit.intOf]; omega
      · have hp1 : ¬ (x2 < bq) := fun h => hpos (hsg.2 h)
        have HNX : Hid (upStep a.subs day a.ents.length s ⟨x0, x1, x2⟩ = s) := Lib.hid (by
          unfold upStep
          skip
          rw [← HMN.out]
          exact if_neg hpos)
        clear hsg
        go_wp2
        go_roundw
        case rel => exact ⟨k + 1, s, hs, rfl, (by first | rfl | go_num), hhs, by omega, Lib.hid (HNX.out.symm.trans HST.out.symm), Lib.hid (by rw [← HL.out]; exact HO7.out), HB7, by rw [← HL.out]; omega, by omega, by omega⟩
        case measure => simp [RowKit.intOf]; omega
    · obtain rfl : n = k := by omega
      rw [show ks.take n = ks by rw [HN.out, List.take_length]] at HSS
      have H9S := Lib.hid hhs.out
      have H9E : Hid (s = (ks.take 0).foldl (downStep a.subs day a.ents.length) (upS a.subs day a.ents.length ks)) := Lib.hid (by rw [List.take_zero]; exact HSS.out)
      have H9O : Hid (wr.ownsRow w1.heap.size 38 6 (.slice au L cu) s.1.length (cellsN s.1)) := Lib.hid (by rw [← HL.out]; exact HO.out)
      have H9B := Lib.hid HB.out
      have H9L : s.1.length ≤ n := by rw [← HL.out]; omega
      clear hhs HSS HO HB HB9 HMB HL
      go_wp2
      go_loopw [10, 12, 99] (fun hv u iv wr => ∃ (k : Nat) (s : PS) (hs : Int), hv = .int .i64 hs ∧ iv = .int .i64 k ∧ Hid (hs = s.2) ∧ k ≤ n ∧ Hid (s = (ks.take k).foldl (downStep a.subs day a.ents.length) (upS a.subs day a.ents.length ks)) ∧ Hid (wr.ownsRow w1.heap.size 38 6 u s.1.length (cellsN s.1)) ∧ Hid (Below w1.heap.size w1 wr) ∧ s.1.length ≤ n + k ∧ -1000000000000 ≤ hs ∧ hs ≤ 1000000000000000 + 1000000000000 * 1000) (fun _ _ iv _ => n - (RowKit.intOf iv).toNat)
      case atStart => exact ⟨0, s, hs, rfl, rfl, H9S, by omega, H9E, H9O, H9B, by omega, by omega, by omega⟩
      case round =>
        clear H9S H9E H9O H9B
        obtain ⟨k, s, hs, rfl, rfl, hhs, hkn, HSS, HO, HB, hln, hlo, hhi⟩ := hrel
        obtain ⟨L, hL⟩ : ∃ L, L = s.1.length := ⟨_, rfl⟩
        have HL := Lib.hid hL
        rw [← hL] at HO hln
        clear hL
        obtain ⟨au, cu, rfl, -, -⟩ := owns_gen HO.out
        by_cases hlt : k < n
        · have hkl' : k < ks.length := by rw [← HN.out]; exact hlt
          obtain ⟨b, o, rfl, hb, hcc⟩ := HCS.out (by omega)
          have HWB := Lib.hid (HB1.out.trans (HB.out.mono HB1.out.size))
          have hcell := fun j (hj : j < 3) => (HWB.out.cell (p := ⟨b, o + k * 3 + j, none⟩) hb).trans (hcc k hkl' j hj)
          obtain ⟨q1, q2, q3, q4, q5⟩ := keepsB_get HKS.out hkl'
          have hbq0 := right_nonneg HR.out q2
          have hbq1 := HBL.out (keepAt ks k).sub
          have HST : Hid ((ks.take (k + 1)).foldl (downStep a.subs day a.ents.length) (upS a.subs day a.ents.length ks) = downStep a.subs day a.ents.length s (keepAt ks k)) := Lib.hid (by
            rw [List.take_succ_eq_append_getElem hkl', List.foldl_append, ← HSS.out, keepAt_get hkl']
            rfl)
          have HBX := Lib.hid (HBLQ.out (keepAt ks k).sub q1)
          generalize keepAt ks k = x at *
          obtain ⟨x0, x1, x2⟩ := x
          simp only at q1 q2 q3 q4 q5 hbq0 hbq1 HBX
          have c0 := hcell 0 (by omega)
          have c1 := hcell 1 (by omega)
          have c2 := hcell 2 (by omega)
          simp [kpC] at c0 c1 c2
          obtain ⟨bq, hbq⟩ : ∃ bq, bq = balOf a.subs x0 := ⟨_, rfl⟩
          obtain ⟨mn, hmn0⟩ : ∃ mn, mn = downX a.subs hs ⟨x0, x1, x2⟩ := ⟨_, rfl⟩
          have hmn : (if hs < x1 - bq then hs else x1 - bq) = mn := by rw [hmn0, hbq]; unfold downX; simp only; split <;> omega
          have hmb : mn ≤ 1000000000000 ∧ mn ≤ hs := by
            have := hmn0
            unfold downX at this
            simp only at this
            rw [← hbq] at this
            omega
          have hsg : 0 < mn ↔ bq < x1 ∧ 0 < mn := by
            have := hmn0
            unfold downX at this
            simp only at this
            rw [← hbq] at this
            omega
          rw [← hbq] at hbq0 hbq1 HBX
          have HMN := Lib.hid hmn0
          have hk0 : (0 : Int) ≤ (k : Int) := by omega
          have hk1 : (k : Int) < (n : Int) := by omega
          have hwr : IntKind.i64.wrap (x1 - bq) = x1 - bq := IntWalk.i64_in _ (by omega)
          have HK6 := Lib.hid (heap_alloc_new wr (.cells #[.int .i64 x0, .int .i64 x1, .int .i64 x2] 50))
          have HB6 := Lib.hid (HB.out.alloc HB.out.size (.cells #[.int .i64 x0, .int .i64 x1, .int .i64 x2] 50))
          have HO6 := Lib.hid (HO.out.alloc (.cells #[.int .i64 x0, .int .i64 x1, .int .i64 x2] 50))
          have HW6 := Lib.hid (HB1.out.trans (HB6.out.mono HB1.out.size))
          have hbx := obj_below HX1.out HB6.out
          have u0 := obj_cell hbx 0
          have u1 := obj_cell hbx 1
          have u2 := obj_cell hbx 2
          simp at u0 u1 u2
          clear hcell hcc q1 hkl' hbq hmn0 hbx
          go_wp2_with fail
          refine (HBX.out _ HW6.out).mono ?_
          rintro e w7 ⟨rfl, hb7⟩
          have HB7 := Lib.hid (HB6.out.trans (hb7.mono HB6.out.size))
          have HO7 := Lib.hid (ownsRow_below HO6.out hb7)
          have hkb := obj_below HK6.out hb7
          have k0 := obj_cell hkb 0
          have k1 := obj_cell hkb 1
          have k2 := obj_cell hkb 2
          simp at k0 k1 k2
          have HSZ : Hid (w1.heap.size ≤ w7.heap.size) := Lib.hid HB7.out.size
          clear hb7 hkb u0 u1 u2 c0 c1 c2 HB6 HO6 HW6 HK6 HB HO HWB HBX
          by_cases hpos : 0 < mn
          · have hp1 := hsg.1 hpos
            have HNX : Hid (downStep a.subs day a.ents.length s ⟨x0, x1, x2⟩ = (s.1 ++ [⟨a.ents.length + 1 + s.1.length, day, 1, x0, mn, 0⟩], s.2 - mn)) := Lib.hid (by
              unfold downStep
              rw [← hhs.out]
              rw [← HMN.out]
              exact if_pos hpos)
            clear hsg
            go_wp2_with (at_builtin; refine wpList_append_own _ rfl _ _ 26 rfl w1.heap.size 38 i0 (.agg #[.int .i64 0, .int .i64 0, .int .i64 0, .int .i64 0, .int .i64 0, .int .i64 0]) 6 48 Try.underlying26 hi0 hz0 hz1 hz2 rfl (by decide) _ _ _ rfl (HO7.out.alloc _) ⟨w7.heap.size, 0, none⟩ 1 1 [.int .i64 ((m : Int) + 1 + (L : Int)), .int .i64 day, .int .i64 1, .int .i64 x0, .int .i64 mn, .int .i64 0] rfl rfl (new_cells _ _ _ _ rfl) (entF.one ⟨_, _, _, _, _, _⟩) (by unfold maxLen; omega) (by omega) (by have := HSZ.out; simp; omega) ?_; intro v' w8 hown8 hgr8 _)
            have HO8 : Hid (w8.ownsRow w1.heap.size 38 6 v' (L + 1) (cellsN (s.1 ++ [⟨(m : Int) + 1 + (L : Int), day, 1, x0, mn, 0⟩]))) := Lib.hid (by rw [← cellsN_snoc]; exact hown8)
            have HB8 : Hid (Below w1.heap.size w1 w8) := Lib.hid ((HB7.out.alloc HB7.out.size _).grown hgr8 (by have := HB7.out.size; simp; omega) fun j e => ownBlock_le HO7.out j e)
            clear hown8 hgr8 k0 k1 k2
            go_wp2
            go_roundw
            case rel => exact ⟨k + 1, downStep a.subs day a.ents.length s ⟨x0, x1, x2⟩, hs - mn, rfl, (by first | rfl | go_num), Lib.hid (by rw [HNX.out]; simp only; rw [← hhs.out]), by omega, Lib.hid HST.out.symm, Lib.hid (by rw [HNX.out, ← HM.out, ← HL.out]; simp only [List.length_append, List.length_singleton, ← HL.out]; exact HO8.out), HB8, by rw [HNX.out]; have hLq := HL.out; simp; omega, by omega, by omega⟩
            case measure => simp [RowKit.intOf]; omega
          · have hp1 : ¬ (bq < x1 ∧ 0 < mn) := fun h => hpos (hsg.2 h)
            have HNX : Hid (downStep a.subs day a.ents.length s ⟨x0, x1, x2⟩ = s) := Lib.hid (by
              unfold downStep
              rw [← hhs.out]
              rw [← HMN.out]
              exact if_neg hpos)
            clear hsg
            by_cases hlb : bq < x1
            · go_wp2
              go_roundw
              case rel => exact ⟨k + 1, s, hs, rfl, (by first | rfl | go_num), hhs, by omega, Lib.hid (HNX.out.symm.trans HST.out.symm), Lib.hid (by rw [← HL.out]; exact HO7.out), HB7, by rw [← HL.out]; omega, by omega, by omega⟩
              case measure => simp [RowKit.intOf]; omega
            · go_wp2
              go_roundw
              case rel => exact ⟨k + 1, s, hs, rfl, (by first | rfl | go_num), hhs, by omega, Lib.hid (HNX.out.symm.trans HST.out.symm), Lib.hid (by rw [← HL.out]; exact HO7.out), HB7, by rw [← HL.out]; omega, by omega, by omega⟩
              case measure => simp [RowKit.intOf]; omega
        · obtain rfl : n = k := by omega
          rw [show ks.take n = ks by rw [HN.out, List.take_length]] at HSS
          have hpl : s = planS a.subs day a.ents.length ks := HSS.out
          rw [← hpl, ← HL.out, ← HM.out] at h400
          have hle : (m : Int) + (L : Int) ≤ 400 := by omega
          have hwl : IntKind.i64.wrap ((m : Int) + (L : Int)) = (m : Int) + (L : Int) := IntWalk.i64_in _ (by omega)
          have hle2 : ¬ (400 : Int) < (m : Int) + (L : Int) := by omega
          have HPL := Lib.hid hpl
          clear hpl h400
          go_wp2
          go_ret2
          refine ⟨au, cu, ?_, ?_, HB1.out.trans (HB.out.mono HB1.out.size)⟩
          · rw [← HPL.out, ← HL.out]; rfl
          · rw [← HPL.out, ← HL.out]
            exact ownsRow_mono HO.out HB1.out.size

set_option maxRecDepth 100000 in
set_option maxHeartbeats 16000000 in
theorem rwSweep_right (a b : Acc) (ks : List Kp) (su en kv : Value) (day : Int) (es : List Ent) (w : World) (h : SubsAt w su a.subs) (he : EntsAt w en a.ents) (hk : KeepsAt w kv ks) (hkl : ks.length ≤ 1000) (hp : planM a ks day = .ok es) (hpo : postsM a es = .ok b) :
    Calls Try.prog 22 #[.agg #[.int .i64 a.credit, su, en], kv, .int .i64 day] w (PostPost w (.ok b)) := by
  obtain ⟨hr, hks, hd1, hd2, h400, hes⟩ := planM_ok hp
  have hz := checkM_zero.1 hr
  have hel : es.length ≤ 400 := by rw [hes]; omega
  have HPL := Lib.hid (fun W (hW : Below w.heap.size w W) => rwPlan_right a ks su en kv day es W (h.below hW) (he.below hW) (hk.below hW) hkl hp)
  obtain ⟨aS, cS, rfl, -, -⟩ := h.shape
  obtain ⟨aE, cE, rfl, -, -⟩ := entsAt_shape he
  obtain ⟨nS, hnS⟩ : ∃ n, n = a.subs.length := ⟨_, rfl⟩
  obtain ⟨nE, hnE⟩ : ∃ n, n = a.ents.length := ⟨_, rfl⟩
  obtain ⟨cr, hcr⟩ : ∃ c, c = a.credit := ⟨_, rfl⟩
  have HNS := Lib.hid hnS
  have HNE := Lib.hid hnE
  have HCR := Lib.hid hcr
  rw [← hnS] at h
  rw [← hnE] at he
  rw [← hnS, ← hnE, ← hcr] at HPL ⊢
  have HB0 := Lib.hid (below2 w (.cells #[.int .i64 cr, .slice aS nS cS, .slice aE nE cE] 28) (.cells #[.int .i64 0, .slice none 0 0, .slice none 0 0] 28))
  have HI0 : Hid (SwI w w.heap.size (w.heap.size + 1) a (.slice aS nS cS) (.slice aE nE cE) ((w.alloc (.cells #[.int .i64 cr, .slice aS nS cS, .slice aE nE cE] 28)).alloc (.cells #[.int .i64 0, .slice none 0 0, .slice none 0 0] 28))) := Lib.hid (by
    rw [hcr]
    exact ⟨below2 w _ _, alloc1_at w _ _, alloc2_at w _ _, h.below (below2 w _ _), he.below (below2 w _ _), Nat.le_refl _, by omega⟩)
  have hns20 : nS ≤ 20 := by rw [hnS]; exact hz.1
  have hne4 : nE ≤ 400 := by rw [hnE]; exact hz.2.1
  have HPO := Lib.hid hpo
  have hbx := HI0.out.box
  have u0 := obj_cell hbx 0
  have u1 := obj_cell hbx 1
  have u2 := obj_cell hbx 2
  rw [← hcr] at u0
  simp at u0 u1 u2
  clear h he hk hkl hp hpo hr hks hd1 hd2 h400 hes hz hnS hnE hcr hbx
  go_enter Try.func22, Try.ntmps22
  go_wp2_with fail
  refine (HPL.out _ HB0.out).mono ?_
  rintro e w1 ⟨aP, cP, rfl, hown1, hb1⟩
  have HI1 := Lib.hid (HI0.out.below hb1)
  have hpn : EntsAt w1 (.slice aP es.length cP) es := by unfold EntsAt; exact RowG.owns hown1
  obtain ⟨L, hL⟩ : ∃ L, L = es.length := ⟨_, rfl⟩
  have HL := Lib.hid hL
  rw [← hL] at hel hpn ⊢
  have HPN := Lib.hid hpn
  clear hpn hb1 hown1 HPL HB0 HI0 hL u0 u1 u2
  go_upto_region 4 with fail
  generalize w.heap.size + 1 = bR at *
  obtain ⟨bA, hbA⟩ : ∃ bA, bA = w.heap.size := ⟨_, rfl⟩
  rw [← hbA] at HI1 ⊢
  clear hbA
  have hL0 : (0 : Int) ≤ (L : Int) := by omega
  go_wp2
  go_loopw [27] (fun iv wr => ∃ (j : Nat) (c : Acc) (aU aV : Option Addr) (cU cV nU nV : Nat), iv = .int .i64 j ∧ j ≤ L ∧ Hid (postsM a (es.take j) = .ok c) ∧ Hid (SwI w bA bR c (.slice aU nU cU) (.slice aV nV cV) wr) ∧ Hid (EntsAt wr (.slice aP L cP) es)) (fun iv _ => L - (RowKit.intOf iv).toNat)
  case atStart => exact ⟨0, a, aS, aE, cS, cE, nS, nE, rfl, by omega, Lib.hid rfl, HI1, HPN⟩
  case round =>
    clear HI1 HPN
    obtain ⟨j, c, aU, aV, cU, cV, nU, nV, rfl, hjL, HPC, HSW, HPN⟩ := hrel
    have hbx := HSW.out.box
    have b0 := obj_cell hbx 0
    have b1 := obj_cell hbx 1
    have b2 := obj_cell hbx 2
    simp at b0 b1 b2
    by_cases hlt : j < L
    · have hjl : j < es.length := by rw [← HL.out]; exact hlt
      obtain ⟨d, hd1, hd2⟩ := postsM_mid hjl HPO.out HPC.out
      obtain ⟨hc0, hdr, -, hdc, -, -⟩ := postM_right hd1
      have hcz := checkM_zero.1 hc0
      obtain ⟨ao, cap, h1, h2, h3⟩ := entsAt_shape HPN.out
      obtain ⟨bq, o, rfl, hb, hcc⟩ := h3 (by omega)
      injection h1 with h4 h5 h6
      subst h4 h6
      have HPT : Hid (∀ W, Below wr.heap.size wr W → Calls Try.prog 14 #[.agg #[.int .i64 c.credit, .slice aU nU cU, .slice aV nV cV], .agg (entAt es j).cells.toArray] W fun e w' => ∃ (aX aY : Option Addr) (nX cX nY cY : Nat), e = .returned (.tuple #[.agg #[.int .i64 d.credit, .slice aX nX cX, .slice aY nY cY], .int .i64 0]) ∧ SubsAt w' (.slice aX nX cX) d.subs ∧ EntsAt w' (.slice aY nY cY) d.ents ∧ Below W.heap.size W w') := Lib.hid fun W hW => by
        have g := raPost_any c (entAt es j) (.slice aU nU cU) (.slice aV nV cV) W (HSW.out.subs.below hW) (HSW.out.ents.below hW) (by omega) (by omega)
        rw [hd1] at g
        refine g.mono ?_
        rintro e w' ⟨su, en, q1, q2, q3, q4⟩
        obtain ⟨aX, cX, rfl, -, -⟩ := q2.shape
        obtain ⟨aY, cY, rfl, -, -⟩ := entsAt_shape q3
        exact ⟨aX, aY, _, cX, _, cY, q1, q2, q3, q4⟩
      have HPD := Lib.hid hd2
      have hcj := hcc j hjl
      generalize entAt es j = x at *
      obtain ⟨x0, x1, x2, x3, x4, x5⟩ := x
      have e0 := hcj 0 (by omega)
      have e1 := hcj 1 (by omega)
      have e2 := hcj 2 (by omega)
      have e3 := hcj 3 (by omega)
      have e4 := hcj 4 (by omega)
      have e5 := hcj 5 (by omega)
      simp [Ent.cells] at e0 e1 e2 e3 e4 e5 HPT
      have hj0 : (0 : Int) ≤ (j : Int) := by omega
      have hj1 : (j : Int) < (L : Int) := by omega
      have HBA := Lib.hid (below_alloc wr (.cells #[.int .i64 x0, .int .i64 x1, .int .i64 x2, .int .i64 x3, .int .i64 x4, .int .i64 x5] 38))
      have hbx2 := obj_below hbx HBA.out
      have d0 := obj_cell hbx2 0
      have d1 := obj_cell hbx2 1
      have d2 := obj_cell hbx2 2
      simp at d0 d1 d2
      clear h2 h3 h5 hcc hcj hd1 hd2 hc0 hdr hdc hcz hjl hb
      go_wp2_with fail
      refine (HPT.out _ HBA.out).mono ?_
      rintro e w7 ⟨aX, aY, nX, cX, nY, cY, rfl, hs7, he7, hb7⟩
      obtain ⟨w8, hw8⟩ : ∃ x, x = w7.alloc (.cells #[.int .i64 d.credit, .slice aX nX cX, .slice aY nY cY] 28) := ⟨_, rfl⟩
      obtain ⟨bN, hbN⟩ : ∃ x, x = w7.heap.size := ⟨_, rfl⟩
      have HN8 : Hid (w8.heap[bN]? = some (.cells #[.int .i64 d.credit, .slice aX nX cX, .slice aY nY cY] 28 (0, 0))) := Lib.hid (by rw [hw8, hbN]; exact heap_alloc_new _ _)
      have hb78 : Below w7.heap.size w7 w8 := by rw [hw8]; exact below_alloc _ _
      have hb8 := HBA.out.trans ((hb7.trans (hb78.mono hb7.size)).mono HBA.out.size)
      have hs8 := hs7.below hb78
      have he8 := he7.below hb78
      have HS7 := Lib.hid (HSW.out.below hb8)
      have HS8 : Hid (SwI w bA bR d (.slice aX nX cX) (.slice aY nY cY) (put3 w8 bA (.int .i64 d.credit) (.slice aX nX cX) (.slice aY nY cY))) := Lib.hid (HS7.out.put hs8 he8 rfl)
      have HP8 : Hid (EntsAt (put3 w8 bA (.int .i64 d.credit) (.slice aX nX cX) (.slice aY nY cY)) (.slice (some ⟨bq, o, none⟩) L cP) es) := Lib.hid ((HPN.out.below hb8).keep (lone_acc HS7.out.box) (put3_grown w8 bA _ _ _))
      have HW8 := Lib.hid hw8
      have HBN := Lib.hid hbN
      clear hbx hbx2 hs7 he7 hb7 hb8 hb78 hs8 he8 hw8 hbN HPN HSW HPC HPT HBA b0 b1 b2 d0 d1 d2 e0 e1 e2 e3 e4 e5
      go_upto_region 8 with fail
      rw [← HW8.out, ← HBN.out]
      have hbx3 := HS7.out.box
      have s0 := obj_cell hbx3 0
      have s1 := obj_cell hbx3 1
      have s2 := obj_cell hbx3 2
      have f0 := obj_free hbx3 0
      have f1 := obj_free hbx3 1
      have f2 := obj_free hbx3 2
      have hbn := HN8.out
      have n0 := obj_cell hbn 0
      have n1 := obj_cell hbn 1
      have n2 := obj_cell hbn 2
      simp at s0 s1 s2 n0 n1 n2
      clear hbx3 hbn HS7 HW8 HBN HN8
      go_wp2
      go_roundw
      case rel => exact ⟨j + 1, d, aX, aY, cX, cY, nX, nY, (by first | rfl | go_num), by omega, HPD, HS8, HP8⟩
      case measure => simp [RowKit.intOf]; omega
    · obtain rfl : L = j := by omega
      have hcb : c = b := by
        have h1 := HPC.out
        rw [HL.out, List.take_length, HPO.out] at h1
        injection h1 with h1
        exact h1.symm
      subst hcb
      have hrb := HSW.out.res
      have s0 := obj_cell hrb 0
      have f0 := obj_free hrb 0
      have s1 := obj_cell hrb 1
      have f1 := obj_free hrb 1
      have s2 := obj_cell hrb 2
      have f2 := obj_free hrb 2
      simp at s0 s1 s2
      clear hrb hbx
      go_wp2
      show bodyPost Try.prog Try.f22 _ Exit.ret _ (put3 wr bR (.int .i64 c.credit) (.slice aU nU cU) (.slice aV nV cV))
      have HG := Lib.hid (put3_grown wr bR (.int .i64 c.credit) (.slice aU nU cU) (.slice aV nV cV))
      exact ret3 HSW.out.res rfl _ _ _ (fun F hF => by
        have q0 := obj_cell hF 0
        have q1 := obj_cell hF 1
        have q2 := obj_cell hF 2
        simp [results, Try.results22, go_sem, q0, q1, q2]) rfl ⟨.slice aU nU cU, .slice aV nV cV, rfl, HSW.out.subs.keep (lone_acc HSW.out.res) HG.out, HSW.out.ents.keep (lone_acc HSW.out.res) HG.out, put3_below HSW.out.old (by have := HSW.out.lo; omega) _ _ _⟩

end Go.Proofs.Ytoelidndnajedaa
