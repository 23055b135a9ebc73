/- The ledger's reference on right ledgers: day, Class, Posting, Check. -/
import Derived.Test.YtoccnindkimjdaaMLgC
import Derived.Test.YtoccnindkimjdaaMRegInv
import Derived.Deep.DeepCutAuto
set_option linter.unusedSimpArgs false
set_option linter.unusedVariables false
set_option linter.unusedSimpArgs false
set_option linter.unusedVariables false
namespace Go.Proofs.Ytoccnindkimjdaa
open Go.RowKit Go.Lib Go.Proofs

set_option maxHeartbeats 400000 in
theorem rgday_yes {n : Int} (w : World) (h1 : 0 ≤ n) (h2 : n ≤ 36000) : Calls Try.prog 41 #[.int .i64 n] w fun e w' => e = .returned (.bool true) ∧ w = w' := by
  go_enter Try.func41, Try.ntmps41
  go_wp2
  go_ret
  exact ⟨rfl, rfl⟩

set_option maxHeartbeats 400000 in
theorem rgClass_any (a : Int) (w : World) :
    Calls Try.prog 80 #[.int .i64 a] w fun e w' => e = .returned (.int .i64 (classM a)) ∧ w = w' := by
  by_cases h1 : a < 100
  · rw [show classM a = 0 from if_neg (by omega)]
    go_enter Try.func80, Try.ntmps80
    go_wp2
    go_ret
    exact ⟨rfl, rfl⟩
  · by_cases h2 : 599 < a
    · rw [show classM a = 0 from if_neg (by omega)]
      go_enter Try.func80, Try.ntmps80
      go_wp2
      go_ret
      exact ⟨rfl, rfl⟩
    · have hc : IntKind.i64.wrap (a.tdiv 100) = classM a := by
        unfold classM
        rw [if_pos ⟨by omega, by omega⟩, Int.tdiv_eq_ediv_of_nonneg (by omega)]
        exact IntWalk.i64_in _ (by omega)
      go_enter Try.func80, Try.ntmps80
      go_wp2
      go_ret
      exact ⟨by first | rfl | rw [← hc], rfl⟩

set_option maxRecDepth 100000 in
set_option maxHeartbeats 4000000 in
theorem rgPosting_right {p : Pst} (h : PstOk p) (w : World) :
    Calls Try.prog 63 #[.agg (pstC p).toArray] w fun e w' => e = .returned (.bool true) ∧ Below w.heap.size w w' := by
  obtain ⟨⟨h1, h1b⟩, ⟨h2, h2b⟩, ⟨h3, h3b⟩, h4, h5, h6, ⟨h7, h7b⟩, ⟨h8, h8b⟩, h9, ⟨h10, h10b⟩⟩ := h
  obtain ⟨x0, x1, x2, x3, x4, x5, x6, x7⟩ := p
  simp only [pstC] at *
  obtain ⟨c3, hc3, hp3⟩ : ∃ c, classM x3 = c ∧ 0 < c := ⟨_, rfl, (classM_pos h4).1⟩
  obtain ⟨c4, hc4, hp4⟩ : ∃ c, classM x4 = c ∧ 0 < c := ⟨_, rfl, (classM_pos h5).1⟩
  have HC3 := Lib.hid (fun W => rgClass_any x3 W)
  have HC4 := Lib.hid (fun W => rgClass_any x4 W)
  rw [hc3] at HC3
  rw [hc4] at HC4
  clear hc3 hc4
  have h6' : (x3 != x4) = true := by simp [h6]
  have h9' : (x6 != x2) = true := by simp [h9]
  have hn3 : (c3 != 0) = true := by rw [bne_iff_ne]; omega
  have hn4 : (c4 != 0) = true := by rw [bne_iff_ne]; omega
  go_enter Try.func63, Try.ntmps63
  simp only [List.append_eq, List.cons_append, List.nil_append]
  go_wp2_with fail
  refine (rgday_yes _ h2 h2b).mono ?_
  rintro e w' ⟨rfl, rfl⟩
  go_wp2_with fail
  refine (HC3.out _).mono ?_
  rintro e w' ⟨rfl, rfl⟩
  go_wp2_with fail
  refine (HC4.out _).mono ?_
  rintro e w' ⟨rfl, rfl⟩
  go_wp2_with fail
  go_ret
  exact ⟨rfl, below_alloc w _⟩

set_option maxRecDepth 100000 in
set_option maxHeartbeats 8000000 in
theorem rgCheck_right {l : List Pst} (h : LdgOk l) (v : Value) (w : World) (hl : PstsAt w v l) :
    Calls Try.prog 40 #[.agg #[v]] w fun e w' => e = .returned (.int .i64 0) ∧ Below w.heap.size w w' := by
  have hlen := h.len
  obtain ⟨ao, cap, rfl, hcap, hcs⟩ := hl.open
  have HCS := Lib.hid hcs
  have HOK := Lib.hid h
  have HPO : Hid (∀ k, k < l.length → ∀ W, Calls Try.prog 63 #[.agg (pstC (pstAt l k)).toArray] W fun e w' => e = .returned (.bool true) ∧ Below W.heap.size W w') := Lib.hid fun k hk W => rgPosting_right (h.ok k hk) W
  obtain ⟨n, hn⟩ : ∃ n, n = l.length := ⟨_, rfl⟩
  have HN := Lib.hid hn
  rw [← hn] at hcap hlen ⊢
  have hlen4 : ¬ (400 : Int) < (n : Int) := by omega
  obtain ⟨w1, hw1⟩ : ∃ w1, w1 = w.alloc (.cells #[.slice ao n cap] 27) := ⟨_, rfl⟩
  have HX1 : Hid (w1.heap[w.heap.size]? = some (.cells #[.slice ao n cap] 27 (0, 0))) := Lib.hid (by rw [hw1]; exact heap_alloc_new w _)
  have HB1 : Hid (Below w.heap.size w w1) := Lib.hid (by rw [hw1]; exact below_alloc w _)
  have hwE := hw1.symm
  have hbx := HX1.out
  have u0 := obj_cell hbx 0
  simp at u0
  clear hn hcs h hl hbx hw1
  go_enter Try.func40, Try.ntmps40
  go_wp2
  go_loopw [14] (fun i wr => ∃ k : Nat, i = .int .i64 k ∧ k ≤ n ∧ Hid (Below w1.heap.size w1 wr)) (fun i _ => n - (RowKit.intOf i).toNat)
  case atStart => exact ⟨0, rfl, by omega, Lib.hid (Below.refl _ _)⟩
  case round =>
    clear u0
    obtain ⟨k, rfl, hkn, HB⟩ := hrel
    by_cases hlt : k < n
    · have hkl' : k < l.length := by rw [← HN.out]; exact hlt
      obtain ⟨b, o, rfl, hb, hcc⟩ := HCS.out (by omega)
      have HWB := Lib.hid (HB1.out.trans (HB.out.mono HB1.out.size))
      have hcell := fun j (hj : j < 8) => (HWB.out.cell (p := ⟨b, o + k * 8 + j, none⟩) hb).trans (hcc k hkl' j hj)
      have HP := Lib.hid (fun W => HPO.out k hkl' W)
      clear hcc
      generalize pstAt l k = x at *
      obtain ⟨x0, x1, x2, x3, x4, x5, x6, x7⟩ := x
      simp only [pstC] at HP
      have c0 := hcell 0 (by omega)
      have c1 := hcell 1 (by omega)
      have c2 := hcell 2 (by omega)
      have c3 := hcell 3 (by omega)
      have c4 := hcell 4 (by omega)
      have c5 := hcell 5 (by omega)
      have c6 := hcell 6 (by omega)
      have c7 := hcell 7 (by omega)
      simp [pstC] at c0 c1 c2 c3 c4 c5 c6 c7
      have hk0 : (0 : Int) ≤ (k : Int) := by omega
      have hk1 : (k : Int) < (n : Int) := by omega
      have HBP := Lib.hid (HB.out.alloc HB.out.size (.cells #[.int .i64 x0, .int .i64 x1, .int .i64 x2, .int .i64 x3, .int .i64 x4, .int .i64 x5, .int .i64 x6, .int .i64 x7] 55))
      clear hcell
      go_wp2_with fail
      refine (HP.out _).mono ?_
      rintro e w3 ⟨rfl, hb3⟩
      have HB3 := Lib.hid (HBP.out.trans (hb3.mono HBP.out.size))
      clear hb3 c0 c1 c2 c3 c4 c5 c6 c7
      go_wp2
      go_roundw
      case rel => exact ⟨k + 1, by first | rfl | go_num, by omega, HB3⟩
      case measure => simp [RowKit.intOf]; omega
    · obtain rfl : k = n := by omega
      have HW2 := Lib.hid (HB1.out.trans (HB.out.mono HB1.out.size))
      have HX2 := Lib.hid (obj_below HX1.out HB.out)
      obtain ⟨bA, hbA⟩ : ∃ bA, bA = w.heap.size := ⟨_, rfl⟩
      have HBA := Lib.hid hbA
      rw [← hbA] at HX2
      have hbx := HX2.out
      have u0 := obj_cell hbx 0
      simp at u0
      rw [← hbA]
      generalize hn2 : k = n at *
      have HBR := HB
      clear hbx hbA HB
      obtain ⟨w2, hw2⟩ : ∃ w2, w2 = wr := ⟨_, rfl⟩
      rw [← hw2] at HW2 HX2 u0 HBR ⊢
      clear hw2 hn2
      go_wp2
      go_loopw [25] (fun i wr => ∃ k : Nat, i = .int .i64 k ∧ k ≤ n ∧ Hid (Below w2.heap.size w2 wr)) (fun i _ => n - (RowKit.intOf i).toNat)
      case atStart => exact ⟨0, rfl, by omega, Lib.hid (Below.refl _ _)⟩
      case round =>
        clear u0
        obtain ⟨k, rfl, hkn2, HB⟩ := hrel
        by_cases hlt : k < n
        · have hkl' : k < l.length := by rw [← HN.out]; exact hlt
          obtain ⟨b, o, rfl, hb, hcc⟩ := HCS.out (by omega)
          have HWB := Lib.hid (HW2.out.trans (HB.out.mono HW2.out.size))
          have hcell := fun j (hj : j < 8) => (HWB.out.cell (p := ⟨b, o + k * 8 + j, none⟩) hb).trans (hcc k hkl' j hj)
          have hq := HOK.out.num k hkl'
          have HPV : Hid (∀ m, k = m + 1 → ∃ y1, (∀ W, Below w.heap.size w W → W.cell? ⟨b, o + m * 8 + 1, none⟩ = some (.int .i64 y1)) ∧ y1 ≤ (pstAt l k).day) := Lib.hid fun m hm => by
            subst hm
            exact ⟨_, fun W hW => (hW.cell (p := ⟨b, o + m * 8 + 1, none⟩) hb).trans (hcc m (by omega) 1 (by omega)), HOK.out.asc m hkl'⟩
          generalize pstAt l k = x at *
          obtain ⟨x0, x1, x2, x3, x4, x5, x6, x7⟩ := x
          simp only at hq HPV
          have c0 := hcell 0 (by omega)
          have c1 := hcell 1 (by omega)
          have c2 := hcell 2 (by omega)
          have c3 := hcell 3 (by omega)
          have c4 := hcell 4 (by omega)
          have c5 := hcell 5 (by omega)
          have c6 := hcell 6 (by omega)
          have c7 := hcell 7 (by omega)
          simp [pstC] at c0 c1 c2 c3 c4 c5 c6 c7
          have hk0 : (0 : Int) ≤ (k : Int) := by omega
          have hk1 : (k : Int) < (n : Int) := by omega
          have HQ := Lib.hid hq
          have HKP := Lib.hid (heap_alloc_new wr (.cells #[.int .i64 x0, .int .i64 x1, .int .i64 x2, .int .i64 x3, .int .i64 x4, .int .i64 x5, .int .i64 x6, .int .i64 x7] 55))
          have HBP := Lib.hid (HB.out.alloc HB.out.size (.cells #[.int .i64 x0, .int .i64 x1, .int .i64 x2, .int .i64 x3, .int .i64 x4, .int .i64 x5, .int .i64 x6, .int .i64 x7] 55))
          obtain ⟨w6, hw6⟩ : ∃ w6, w6 = wr.alloc (.cells #[.int .i64 x0, .int .i64 x1, .int .i64 x2, .int .i64 x3, .int .i64 x4, .int .i64 x5, .int .i64 x6, .int .i64 x7] 55) := ⟨_, rfl⟩
          rw [← hw6] at HKP HBP
          have HW6 := Lib.hid hw6
          clear hcell hcc hq hw6
          go_upto_region 12 with fail
          rw [← HW6.out]
          generalize wr.heap.size = bK at *
          obtain ⟨J, hJ⟩ : ∃ J, J = fun W : World => Below w6.heap.size w6 W := ⟨_, rfl⟩
          have HJO : Hid (∀ W, J W → Below w6.heap.size w6 W) := Lib.hid fun W hW => by rw [hJ] at hW; exact hW
          have HJI : Hid (∀ W, Below w6.heap.size w6 W → J W) := Lib.hid fun W hW => by rw [hJ]; exact hW
          have HJD : Hid (∀ W, J W → J W.drew) := Lib.hid fun W hW => HJI.out _ ((HJO.out W hW).drew)
          have HJ0 : Hid (J w6) := Lib.hid (HJI.out _ (Below.refl _ _))
          have HCK : Hid (∀ W, J W → ∀ j, W.cell? ⟨bK, j, none⟩ = #[.int .i64 x0, .int .i64 x1, .int .i64 x2, .int .i64 x3, .int .i64 x4, .int .i64 x5, .int .i64 x6, .int .i64 x7][j]?) := Lib.hid fun W hW j => obj_cell (obj_below HKP.out (HJO.out W hW)) j
          have HCA : Hid (∀ W, J W → ∀ j, W.cell? ⟨bA, j, none⟩ = #[.slice (some ⟨b, o, none⟩) n cap][j]?) := Lib.hid fun W hW j => obj_cell (obj_below HX2.out (HBP.out.trans ((HJO.out W hW).mono HBP.out.size))) j
          have HFW1 : Hid (∀ W, J W → Below w2.heap.size w2 W) := Lib.hid fun W hW => HBP.out.trans ((HJO.out W hW).mono HBP.out.size)
          have HFW : Hid (∀ W, J W → Below w.heap.size w W) := Lib.hid fun W hW => HW2.out.trans ((HFW1.out W hW).mono HW2.out.size)
          clear hJ c0 c1 c2 c3 c4 c5 c6 c7
          cases k with
          | zero =>
            have hx0 : x0 = 1 := by have := HQ.out; simpa using this
            have hq2 : IntKind.i64.wrap 1 = x0 := by rw [hx0]; rfl
            have hq6 : ¬ (0 : Int) < 0 := by omega
            clear HPV
            go_cut [50] (fun c wx => c = .bool false ∧ Hid (J wx))
            case first =>
              refine wp_region_props [30, 31, 32, 33, 34, 35, 36, 37, 38, 39, 40, 41, 42, 43, 44, 45, 46, 47, 48, 49, 50] (slotS [30, 31, 32, 33, 34, 35, 36, 37, 38, 39, 40, 41, 42, 43, 44, 45, 46, 47, 48, 49, 50]) (readsS [30, 31, 32, 33, 34, 35, 36, 37, 38, 39, 40, 41, 42, 43, 44, 45, 46, 47, 48, 49, 50]) (RTs [30, 31, 32, 33, 34, 35, 36, 37, 38, 39, 40, 41, 42, 43, 44, 45, 46, 47, 48, 49, 50] [.pointer (some ⟨bK, 0, none⟩), .int .i64 x0, .int .i64 0, .int .i64 x0, .bool false, .bool false, .int .i64 0, .bool false, .bool false, undef, undef, undef, undef, undef, undef, undef, undef, undef, undef, .bool false, .bool false]) J (by kernel_rfl) (by kernel_rfl) (by kernel_rfl) (HJD.out _ HJ0.out) (fun j f q v W hq h => RTs.upd hq h) ?_ ?_
              case refine_1 =>
                intro iq hiq f W hIW hdep
                have hiq' : iq < 21 := hiq
                generalize ha1 : putsL _ [30, 31, 32, 33, 34, 35, 36, 37, 38, 39, 40, 41, 42, 43, 44, 45, 46, 47, 48, 49, 50] f = a1
                match iq, hiq', hdep with
                | 0, _, hdep =>
                  have E6 : a1.tmps[6]?.getD undef = .pointer (some ⟨bK, 0, none⟩) := by rw [← ha1]; exact (putsL_out2 _ _ _ _ (by decide)).trans rfl
                  exact wpOp_val rfl rfl (v := .pointer (some ⟨bK, 0, none⟩)) (w' := W) (by simp [execOp, go_sem, E6]) ⟨hIW, fun _ h => h, Or.inl ⟨_, by decide, rfl, updF_same _ _ _⟩⟩
                | 1, _, hdep =>
                  have E30 : a1.tmps[30]?.getD undef = .pointer (some ⟨bK, 0, none⟩) := by rw [← ha1]; exact (putsL_in2 _ _ _ _ (by decide) (show 30 < 52 from by decide)).trans (hdep 0 (by kernel_rfl))
                  have v0 : W.cell? ⟨bK, 0, none⟩ = some (.int .i64 x0) := by simpa using HCK.out W hIW 0
                  exact wpOp_val rfl rfl (v := .int .i64 x0) (w' := W) (by simp [execOp, go_sem, E30, v0]) ⟨hIW, fun _ h => h, Or.inl ⟨_, by decide, rfl, updF_same _ _ _⟩⟩
                | 2, _, hdep =>
                  have E5 : a1.tmps[5]?.getD undef = .int .i64 0 := by rw [← ha1]; exact (putsL_out2 _ _ _ _ (by decide)).trans rfl
                  exact wpOp_val rfl rfl (v := .int .i64 0) (w' := W) (by simp [execOp, go_sem, E5]) ⟨hIW, fun _ h => h, Or.inl ⟨_, by decide, rfl, updF_same _ _ _⟩⟩
                | 3, _, hdep =>
                  have E32 : a1.tmps[32]?.getD undef = .int .i64 0 := by rw [← ha1]; exact (putsL_in2 _ _ _ _ (by decide) (show 32 < 52 from by decide)).trans (hdep 2 (by kernel_rfl))
                  exact wpOp_val rfl rfl (v := .int .i64 x0) (w' := W) (by simp [execOp, go_sem, E32, hq2]) ⟨hIW, fun _ h => h, Or.inl ⟨_, by decide, rfl, updF_same _ _ _⟩⟩
                | 4, _, hdep =>
                  have E31 : a1.tmps[31]?.getD undef = .int .i64 x0 := by rw [← ha1]; exact (putsL_in2 _ _ _ _ (by decide) (show 31 < 52 from by decide)).trans (hdep 1 (by kernel_rfl))
                  have E33 : a1.tmps[33]?.getD undef = .int .i64 x0 := by rw [← ha1]; exact (putsL_in2 _ _ _ _ (by decide) (show 33 < 52 from by decide)).trans (hdep 3 (by kernel_rfl))
                  exact wpOp_val rfl rfl (v := .bool false) (w' := W) (by simp [execOp, go_sem, E31, E33]) ⟨hIW, fun _ h => h, Or.inl ⟨_, by decide, rfl, updF_same _ _ _⟩⟩
                | 5, _, hdep =>
                  have E34 : a1.tmps[34]?.getD undef = .bool false := by rw [← ha1]; exact (putsL_in2 _ _ _ _ (by decide) (show 34 < 52 from by decide)).trans (hdep 4 (by kernel_rfl))
                  exact wpOp_val rfl rfl (v := .bool false) (w' := W) (by simp [execOp, go_sem, E34]) ⟨hIW, fun _ h => h, Or.inl ⟨_, by decide, rfl, updF_same _ _ _⟩⟩
                | 6, _, hdep =>
                  have G5 : a1.tmps[35]? = some (.bool false) := by rw [← ha1]; exact (putsL_some _ _ _ _ (by decide) (show 35 < 52 from by decide)).trans (congrArg some (hdep 5 (by kernel_rfl)))
                  have E5 : a1.tmps[5]?.getD undef = .int .i64 0 := by rw [← ha1]; exact (putsL_out2 _ _ _ _ (by decide)).trans rfl
                  exact wpOp_valG rfl rfl (yielded_of rfl G5) (v := .int .i64 0) (w' := W) (by simp [execOp, go_sem, E5]) ⟨hIW, fun _ h => h, Or.inl ⟨_, by decide, rfl, updF_same _ _ _⟩⟩
                | 7, _, hdep =>
                  have G5 : a1.tmps[35]? = some (.bool false) := by rw [← ha1]; exact (putsL_some _ _ _ _ (by decide) (show 35 < 52 from by decide)).trans (congrArg some (hdep 5 (by kernel_rfl)))
                  have E36 : a1.tmps[36]?.getD undef = .int .i64 0 := by rw [← ha1]; exact (putsL_in2 _ _ _ _ (by decide) (show 36 < 52 from by decide)).trans (hdep 6 (by kernel_rfl))
                  exact wpOp_valG rfl rfl (yielded_of rfl G5) (v := .bool false) (w' := W) (by simp [execOp, go_sem, E36, hq6]) ⟨hIW, fun _ h => h, Or.inl ⟨_, by decide, rfl, updF_same _ _ _⟩⟩
                | 8, _, hdep =>
                  have G5 : a1.tmps[35]? = some (.bool false) := by rw [← ha1]; exact (putsL_some _ _ _ _ (by decide) (show 35 < 52 from by decide)).trans (congrArg some (hdep 5 (by kernel_rfl)))
                  have E37 : a1.tmps[37]?.getD undef = .bool false := by rw [← ha1]; exact (putsL_in2 _ _ _ _ (by decide) (show 37 < 52 from by decide)).trans (hdep 7 (by kernel_rfl))
                  exact wpOp_valG rfl rfl (yielded_of rfl G5) (v := .bool false) (w' := W) (by simp [execOp, go_sem, E37]) ⟨hIW, fun _ h => h, Or.inl ⟨_, by decide, rfl, updF_same _ _ _⟩⟩
                | 9, _, hdep =>
                  have G8 : a1.tmps[38]? = some (.bool false) := by rw [← ha1]; exact (putsL_some _ _ _ _ (by decide) (show 38 < 52 from by decide)).trans (congrArg some (hdep 8 (by kernel_rfl)))
                  exact wpOp_off rfl rfl (yielded_of rfl G8) ⟨hIW, fun _ h => h, Or.inl ⟨_, by decide, rfl, updF_same _ _ _⟩⟩
                | 10, _, hdep =>
                  have G8 : a1.tmps[38]? = some (.bool false) := by rw [← ha1]; exact (putsL_some _ _ _ _ (by decide) (show 38 < 52 from by decide)).trans (congrArg some (hdep 8 (by kernel_rfl)))
                  exact wpOp_off rfl rfl (yielded_of rfl G8) ⟨hIW, fun _ h => h, Or.inl ⟨_, by decide, rfl, updF_same _ _ _⟩⟩
                | 11, _, hdep =>
                  have G8 : a1.tmps[38]? = some (.bool false) := by rw [← ha1]; exact (putsL_some _ _ _ _ (by decide) (show 38 < 52 from by decide)).trans (congrArg some (hdep 8 (by kernel_rfl)))
                  exact wpOp_off rfl rfl (yielded_of rfl G8) ⟨hIW, fun _ h => h, Or.inl ⟨_, by decide, rfl, updF_same _ _ _⟩⟩
                | 12, _, hdep =>
                  have G8 : a1.tmps[38]? = some (.bool false) := by rw [← ha1]; exact (putsL_some _ _ _ _ (by decide) (show 38 < 52 from by decide)).trans (congrArg some (hdep 8 (by kernel_rfl)))
                  exact wpOp_off rfl rfl (yielded_of rfl G8) ⟨hIW, fun _ h => h, Or.inl ⟨_, by decide, rfl, updF_same _ _ _⟩⟩
                | 13, _, hdep =>
                  have G8 : a1.tmps[38]? = some (.bool false) := by rw [← ha1]; exact (putsL_some _ _ _ _ (by decide) (show 38 < 52 from by decide)).trans (congrArg some (hdep 8 (by kernel_rfl)))
                  exact wpOp_off rfl rfl (yielded_of rfl G8) ⟨hIW, fun _ h => h, Or.inl ⟨_, by decide, rfl, updF_same _ _ _⟩⟩
                | 14, _, hdep =>
                  have G8 : a1.tmps[38]? = some (.bool false) := by rw [← ha1]; exact (putsL_some _ _ _ _ (by decide) (show 38 < 52 from by decide)).trans (congrArg some (hdep 8 (by kernel_rfl)))
                  exact wpOp_off rfl rfl (yielded_of rfl G8) ⟨hIW, fun _ h => h, Or.inl ⟨_, by decide, rfl, updF_same _ _ _⟩⟩
                | 15, _, hdep =>
                  have G8 : a1.tmps[38]? = some (.bool false) := by rw [← ha1]; exact (putsL_some _ _ _ _ (by decide) (show 38 < 52 from by decide)).trans (congrArg some (hdep 8 (by kernel_rfl)))
                  exact wpOp_off rfl rfl (yielded_of rfl G8) ⟨hIW, fun _ h => h, Or.inl ⟨_, by decide, rfl, updF_same _ _ _⟩⟩
                | 16, _, hdep =>
                  have G8 : a1.tmps[38]? = some (.bool false) := by rw [← ha1]; exact (putsL_some _ _ _ _ (by decide) (show 38 < 52 from by decide)).trans (congrArg some (hdep 8 (by kernel_rfl)))
                  exact wpOp_off rfl rfl (yielded_of rfl G8) ⟨hIW, fun _ h => h, Or.inl ⟨_, by decide, rfl, updF_same _ _ _⟩⟩
                | 17, _, hdep =>
                  have G8 : a1.tmps[38]? = some (.bool false) := by rw [← ha1]; exact (putsL_some _ _ _ _ (by decide) (show 38 < 52 from by decide)).trans (congrArg some (hdep 8 (by kernel_rfl)))
                  exact wpOp_off rfl rfl (yielded_of rfl G8) ⟨hIW, fun _ h => h, Or.inl ⟨_, by decide, rfl, updF_same _ _ _⟩⟩
                | 18, _, hdep =>
                  have G8 : a1.tmps[38]? = some (.bool false) := by rw [← ha1]; exact (putsL_some _ _ _ _ (by decide) (show 38 < 52 from by decide)).trans (congrArg some (hdep 8 (by kernel_rfl)))
                  exact wpOp_off rfl rfl (yielded_of rfl G8) ⟨hIW, fun _ h => h, Or.inl ⟨_, by decide, rfl, updF_same _ _ _⟩⟩
                | 19, _, hdep =>
                  have G5 : a1.tmps[35]? = some (.bool false) := by rw [← ha1]; exact (putsL_some _ _ _ _ (by decide) (show 35 < 52 from by decide)).trans (congrArg some (hdep 5 (by kernel_rfl)))
                  have E38 : a1.tmps[38]?.getD undef = .bool false := by rw [← ha1]; exact (putsL_in2 _ _ _ _ (by decide) (show 38 < 52 from by decide)).trans (hdep 8 (by kernel_rfl))
                  exact wpOp_valG rfl rfl (yielded_of rfl G5) (v := .bool false) (w' := W) (by simp [execOp, go_sem, E38]) ⟨hIW, fun _ h => h, Or.inl ⟨_, by decide, rfl, updF_same _ _ _⟩⟩
                | 20, _, hdep =>
                  have E35 : a1.tmps[35]?.getD undef = .bool false := by rw [← ha1]; exact (putsL_in2 _ _ _ _ (by decide) (show 35 < 52 from by decide)).trans (hdep 5 (by kernel_rfl))
                  have E49 : a1.tmps[49]?.getD undef = .bool false := by rw [← ha1]; exact (putsL_in2 _ _ _ _ (by decide) (show 49 < 52 from by decide)).trans (hdep 19 (by kernel_rfl))
                  exact wpOp_val rfl rfl (v := .bool false) (w' := W) (by simp [execOp, go_sem, E35, E49]) ⟨hIW, fun _ h => h, Or.inl ⟨_, by decide, rfl, updF_same _ _ _⟩⟩
                | iq + 21, h, _ => exact absurd h (by omega)
              case refine_2 =>
                intro f W hIW hR
                have h50 : f 50 = .bool false := hR 20 (show 20 < 21 from by decide)
                simp only [putsL, List.foldl_cons, List.foldl_nil, Act.put, List.setIfInBounds_toArray, List.set_cons_zero, List.set_cons_succ]
                go_wp2
                go_meet
                exact ⟨(by first | rfl | exact h50), Lib.hid hIW⟩
            case rest =>
              obtain ⟨rfl, HJW⟩ := hcut
              have HBW := Lib.hid (HFW1.out _ HJW.out)
              clear HJ0 HJD HJI HJO HFW HCK HCA HFW1
              go_wp2
              go_roundw
              case rel => exact ⟨0 + 1, by first | rfl | go_num, by omega, HBW⟩
              case measure => simp [RowKit.intOf]; omega
          | succ k =>
            obtain ⟨y1, hy1, hy2⟩ := HPV.out k rfl
            have HC1 : Hid (∀ W, J W → W.cell? ⟨b, o + k * 8 + 1, none⟩ = some (.int .i64 y1)) := Lib.hid fun W hW => hy1 W (HFW.out W hW)
            have hx0 : x0 = (k : Int) + 1 + 1 := by have := HQ.out; push_cast at this; omega
            have hq2 : IntKind.i64.wrap ((k : Int) + 1 + 1) = x0 := by rw [hx0]; exact IntWalk.i64_in _ (by omega)
            have hq6 : (0 : Int) < ((k + 1 : Nat) : Int) := by omega
            have hq7 : ¬ x1 < y1 := by omega
            have hq8 : IntKind.i64.wrap (k : Int) = (k : Int) := IntWalk.i64_in _ (by omega)
            have hk2 : (0 : Int) ≤ (k : Int) := by omega
            have hk3 : (k : Int) < (n : Int) := by omega
            clear HPV hy1 hy2
            go_cut [50] (fun c wx => c = .bool false ∧ Hid (J wx))
            case first =>
              refine wp_region_props [30, 31, 32, 33, 34, 35, 36, 37, 38, 39, 40, 41, 42, 43, 44, 45, 46, 47, 48, 49, 50] (slotS [30, 31, 32, 33, 34, 35, 36, 37, 38, 39, 40, 41, 42, 43, 44, 45, 46, 47, 48, 49, 50]) (readsS [30, 31, 32, 33, 34, 35, 36, 37, 38, 39, 40, 41, 42, 43, 44, 45, 46, 47, 48, 49, 50]) (RTs [30, 31, 32, 33, 34, 35, 36, 37, 38, 39, 40, 41, 42, 43, 44, 45, 46, 47, 48, 49, 50] [.pointer (some ⟨bK, 0, none⟩), .int .i64 x0, .int .i64 ((k + 1 : Nat) : Int), .int .i64 x0, .bool false, .bool false, .int .i64 ((k + 1 : Nat) : Int), .bool true, .bool true, .pointer (some ⟨bA, 0, none⟩), .slice (some ⟨b, o, none⟩) n cap, .int .i64 ((k + 1 : Nat) : Int), .int .i64 (k : Int), .pointer (some ⟨b, o + k * 8, none⟩), .pointer (some ⟨b, o + k * 8 + 1, none⟩), .int .i64 y1, .pointer (some ⟨bK, 1, none⟩), .int .i64 x1, .bool false, .bool false, .bool false]) J (by kernel_rfl) (by kernel_rfl) (by kernel_rfl) (HJD.out _ HJ0.out) (fun j f q v W hq h => RTs.upd hq h) ?_ ?_
              case refine_1 =>
                intro iq hiq f W hIW hdep
                have hiq' : iq < 21 := hiq
                generalize ha1 : putsL _ [30, 31, 32, 33, 34, 35, 36, 37, 38, 39, 40, 41, 42, 43, 44, 45, 46, 47, 48, 49, 50] f = a1
                match iq, hiq', hdep with
                | 0, _, hdep =>
                  have E6 : a1.tmps[6]?.getD undef = .pointer (some ⟨bK, 0, none⟩) := by rw [← ha1]; exact (putsL_out2 _ _ _ _ (by decide)).trans rfl
                  exact wpOp_val rfl rfl (v := .pointer (some ⟨bK, 0, none⟩)) (w' := W) (by simp [execOp, go_sem, E6]) ⟨hIW, fun _ h => h, Or.inl ⟨_, by decide, rfl, updF_same _ _ _⟩⟩
                | 1, _, hdep =>
                  have E30 : a1.tmps[30]?.getD undef = .pointer (some ⟨bK, 0, none⟩) := by rw [← ha1]; exact (putsL_in2 _ _ _ _ (by decide) (show 30 < 52 from by decide)).trans (hdep 0 (by kernel_rfl))
                  have v0 : W.cell? ⟨bK, 0, none⟩ = some (.int .i64 x0) := by simpa using HCK.out W hIW 0
                  exact wpOp_val rfl rfl (v := .int .i64 x0) (w' := W) (by simp [execOp, go_sem, E30, v0]) ⟨hIW, fun _ h => h, Or.inl ⟨_, by decide, rfl, updF_same _ _ _⟩⟩
                | 2, _, hdep =>
                  have E5 : a1.tmps[5]?.getD undef = .int .i64 ((k + 1 : Nat) : Int) := by rw [← ha1]; exact (putsL_out2 _ _ _ _ (by decide)).trans rfl
                  exact wpOp_val rfl rfl (v := .int .i64 ((k + 1 : Nat) : Int)) (w' := W) (by simp [execOp, go_sem, E5]) ⟨hIW, fun _ h => h, Or.inl ⟨_, by decide, rfl, updF_same _ _ _⟩⟩
                | 3, _, hdep =>
                  have E32 : a1.tmps[32]?.getD undef = .int .i64 ((k + 1 : Nat) : Int) := by rw [← ha1]; exact (putsL_in2 _ _ _ _ (by decide) (show 32 < 52 from by decide)).trans (hdep 2 (by kernel_rfl))
                  exact wpOp_val rfl rfl (v := .int .i64 x0) (w' := W) (by simp [execOp, go_sem, E32, hq2]) ⟨hIW, fun _ h => h, Or.inl ⟨_, by decide, rfl, updF_same _ _ _⟩⟩
                | 4, _, hdep =>
                  have E31 : a1.tmps[31]?.getD undef = .int .i64 x0 := by rw [← ha1]; exact (putsL_in2 _ _ _ _ (by decide) (show 31 < 52 from by decide)).trans (hdep 1 (by kernel_rfl))
                  have E33 : a1.tmps[33]?.getD undef = .int .i64 x0 := by rw [← ha1]; exact (putsL_in2 _ _ _ _ (by decide) (show 33 < 52 from by decide)).trans (hdep 3 (by kernel_rfl))
                  exact wpOp_val rfl rfl (v := .bool false) (w' := W) (by simp [execOp, go_sem, E31, E33]) ⟨hIW, fun _ h => h, Or.inl ⟨_, by decide, rfl, updF_same _ _ _⟩⟩
                | 5, _, hdep =>
                  have E34 : a1.tmps[34]?.getD undef = .bool false := by rw [← ha1]; exact (putsL_in2 _ _ _ _ (by decide) (show 34 < 52 from by decide)).trans (hdep 4 (by kernel_rfl))
                  exact wpOp_val rfl rfl (v := .bool false) (w' := W) (by simp [execOp, go_sem, E34]) ⟨hIW, fun _ h => h, Or.inl ⟨_, by decide, rfl, updF_same _ _ _⟩⟩
                | 6, _, hdep =>
                  have G5 : a1.tmps[35]? = some (.bool false) := by rw [← ha1]; exact (putsL_some _ _ _ _ (by decide) (show 35 < 52 from by decide)).trans (congrArg some (hdep 5 (by kernel_rfl)))
                  have E5 : a1.tmps[5]?.getD undef = .int .i64 ((k + 1 : Nat) : Int) := by rw [← ha1]; exact (putsL_out2 _ _ _ _ (by decide)).trans rfl
                  exact wpOp_valG rfl rfl (yielded_of rfl G5) (v := .int .i64 ((k + 1 : Nat) : Int)) (w' := W) (by simp [execOp, go_sem, E5]) ⟨hIW, fun _ h => h, Or.inl ⟨_, by decide, rfl, updF_same _ _ _⟩⟩
                | 7, _, hdep =>
                  have G5 : a1.tmps[35]? = some (.bool false) := by rw [← ha1]; exact (putsL_some _ _ _ _ (by decide) (show 35 < 52 from by decide)).trans (congrArg some (hdep 5 (by kernel_rfl)))
                  have E36 : a1.tmps[36]?.getD undef = .int .i64 ((k + 1 : Nat) : Int) := by rw [← ha1]; exact (putsL_in2 _ _ _ _ (by decide) (show 36 < 52 from by decide)).trans (hdep 6 (by kernel_rfl))
                  exact wpOp_valG rfl rfl (yielded_of rfl G5) (v := .bool true) (w' := W) (by simp [execOp, go_sem, E36, hq6]) ⟨hIW, fun _ h => h, Or.inl ⟨_, by decide, rfl, updF_same _ _ _⟩⟩
                | 8, _, hdep =>
                  have G5 : a1.tmps[35]? = some (.bool false) := by rw [← ha1]; exact (putsL_some _ _ _ _ (by decide) (show 35 < 52 from by decide)).trans (congrArg some (hdep 5 (by kernel_rfl)))
                  have E37 : a1.tmps[37]?.getD undef = .bool true := by rw [← ha1]; exact (putsL_in2 _ _ _ _ (by decide) (show 37 < 52 from by decide)).trans (hdep 7 (by kernel_rfl))
                  exact wpOp_valG rfl rfl (yielded_of rfl G5) (v := .bool true) (w' := W) (by simp [execOp, go_sem, E37]) ⟨hIW, fun _ h => h, Or.inl ⟨_, by decide, rfl, updF_same _ _ _⟩⟩
                | 9, _, hdep =>
                  have G8 : a1.tmps[38]? = some (.bool true) := by rw [← ha1]; exact (putsL_some _ _ _ _ (by decide) (show 38 < 52 from by decide)).trans (congrArg some (hdep 8 (by kernel_rfl)))
                  have E1 : a1.tmps[1]?.getD undef = .pointer (some ⟨bA, 0, none⟩) := by rw [← ha1]; exact (putsL_out2 _ _ _ _ (by decide)).trans rfl
                  exact wpOp_valG rfl rfl (yielded_of rfl G8) (v := .pointer (some ⟨bA, 0, none⟩)) (w' := W) (by simp [execOp, go_sem, E1]) ⟨hIW, fun _ h => h, Or.inl ⟨_, by decide, rfl, updF_same _ _ _⟩⟩
                | 10, _, hdep =>
                  have G8 : a1.tmps[38]? = some (.bool true) := by rw [← ha1]; exact (putsL_some _ _ _ _ (by decide) (show 38 < 52 from by decide)).trans (congrArg some (hdep 8 (by kernel_rfl)))
                  have E39 : a1.tmps[39]?.getD undef = .pointer (some ⟨bA, 0, none⟩) := by rw [← ha1]; exact (putsL_in2 _ _ _ _ (by decide) (show 39 < 52 from by decide)).trans (hdep 9 (by kernel_rfl))
                  have v0 : W.cell? ⟨bA, 0, none⟩ = some (.slice (some ⟨b, o, none⟩) n cap) := by simpa using HCA.out W hIW 0
                  exact wpOp_valG rfl rfl (yielded_of rfl G8) (v := .slice (some ⟨b, o, none⟩) n cap) (w' := W) (by simp [execOp, go_sem, E39, v0]) ⟨hIW, fun _ h => h, Or.inl ⟨_, by decide, rfl, updF_same _ _ _⟩⟩
                | 11, _, hdep =>
                  have G8 : a1.tmps[38]? = some (.bool true) := by rw [← ha1]; exact (putsL_some _ _ _ _ (by decide) (show 38 < 52 from by decide)).trans (congrArg some (hdep 8 (by kernel_rfl)))
                  have E5 : a1.tmps[5]?.getD undef = .int .i64 ((k + 1 : Nat) : Int) := by rw [← ha1]; exact (putsL_out2 _ _ _ _ (by decide)).trans rfl
                  exact wpOp_valG rfl rfl (yielded_of rfl G8) (v := .int .i64 ((k + 1 : Nat) : Int)) (w' := W) (by simp [execOp, go_sem, E5]) ⟨hIW, fun _ h => h, Or.inl ⟨_, by decide, rfl, updF_same _ _ _⟩⟩
                | 12, _, hdep =>
                  have G8 : a1.tmps[38]? = some (.bool true) := by rw [← ha1]; exact (putsL_some _ _ _ _ (by decide) (show 38 < 52 from by decide)).trans (congrArg some (hdep 8 (by kernel_rfl)))
                  have E41 : a1.tmps[41]?.getD undef = .int .i64 ((k + 1 : Nat) : Int) := by rw [← ha1]; exact (putsL_in2 _ _ _ _ (by decide) (show 41 < 52 from by decide)).trans (hdep 11 (by kernel_rfl))
                  exact wpOp_valG rfl rfl (yielded_of rfl G8) (v := .int .i64 (k : Int)) (w' := W) (by simp [execOp, go_sem, E41, hq8]) ⟨hIW, fun _ h => h, Or.inl ⟨_, by decide, rfl, updF_same _ _ _⟩⟩
                | 13, _, hdep =>
                  have G8 : a1.tmps[38]? = some (.bool true) := by rw [← ha1]; exact (putsL_some _ _ _ _ (by decide) (show 38 < 52 from by decide)).trans (congrArg some (hdep 8 (by kernel_rfl)))
                  have E40 : a1.tmps[40]?.getD undef = .slice (some ⟨b, o, none⟩) n cap := by rw [← ha1]; exact (putsL_in2 _ _ _ _ (by decide) (show 40 < 52 from by decide)).trans (hdep 10 (by kernel_rfl))
                  have E42 : a1.tmps[42]?.getD undef = .int .i64 (k : Int) := by rw [← ha1]; exact (putsL_in2 _ _ _ _ (by decide) (show 42 < 52 from by decide)).trans (hdep 12 (by kernel_rfl))
                  exact wpOp_valG rfl rfl (yielded_of rfl G8) (v := .pointer (some ⟨b, o + k * 8, none⟩)) (w' := W) (by simp [execOp, go_sem, E40, E42, hk2, hk3]) ⟨hIW, fun _ h => h, Or.inl ⟨_, by decide, rfl, updF_same _ _ _⟩⟩
                | 14, _, hdep =>
                  have G8 : a1.tmps[38]? = some (.bool true) := by rw [← ha1]; exact (putsL_some _ _ _ _ (by decide) (show 38 < 52 from by decide)).trans (congrArg some (hdep 8 (by kernel_rfl)))
                  have E43 : a1.tmps[43]?.getD undef = .pointer (some ⟨b, o + k * 8, none⟩) := by rw [← ha1]; exact (putsL_in2 _ _ _ _ (by decide) (show 43 < 52 from by decide)).trans (hdep 13 (by kernel_rfl))
                  exact wpOp_valG rfl rfl (yielded_of rfl G8) (v := .pointer (some ⟨b, o + k * 8 + 1, none⟩)) (w' := W) (by simp [execOp, go_sem, E43]) ⟨hIW, fun _ h => h, Or.inl ⟨_, by decide, rfl, updF_same _ _ _⟩⟩
                | 15, _, hdep =>
                  have G8 : a1.tmps[38]? = some (.bool true) := by rw [← ha1]; exact (putsL_some _ _ _ _ (by decide) (show 38 < 52 from by decide)).trans (congrArg some (hdep 8 (by kernel_rfl)))
                  have E44 : a1.tmps[44]?.getD undef = .pointer (some ⟨b, o + k * 8 + 1, none⟩) := by rw [← ha1]; exact (putsL_in2 _ _ _ _ (by decide) (show 44 < 52 from by decide)).trans (hdep 14 (by kernel_rfl))
                  exact wpOp_valG rfl rfl (yielded_of rfl G8) (v := .int .i64 y1) (w' := W) (by simp [execOp, go_sem, E44, HC1.out W hIW]) ⟨hIW, fun _ h => h, Or.inl ⟨_, by decide, rfl, updF_same _ _ _⟩⟩
                | 16, _, hdep =>
                  have G8 : a1.tmps[38]? = some (.bool true) := by rw [← ha1]; exact (putsL_some _ _ _ _ (by decide) (show 38 < 52 from by decide)).trans (congrArg some (hdep 8 (by kernel_rfl)))
                  have E6 : a1.tmps[6]?.getD undef = .pointer (some ⟨bK, 0, none⟩) := by rw [← ha1]; exact (putsL_out2 _ _ _ _ (by decide)).trans rfl
                  exact wpOp_valG rfl rfl (yielded_of rfl G8) (v := .pointer (some ⟨bK, 1, none⟩)) (w' := W) (by simp [execOp, go_sem, E6]) ⟨hIW, fun _ h => h, Or.inl ⟨_, by decide, rfl, updF_same _ _ _⟩⟩
                | 17, _, hdep =>
                  have G8 : a1.tmps[38]? = some (.bool true) := by rw [← ha1]; exact (putsL_some _ _ _ _ (by decide) (show 38 < 52 from by decide)).trans (congrArg some (hdep 8 (by kernel_rfl)))
                  have E46 : a1.tmps[46]?.getD undef = .pointer (some ⟨bK, 1, none⟩) := by rw [← ha1]; exact (putsL_in2 _ _ _ _ (by decide) (show 46 < 52 from by decide)).trans (hdep 16 (by kernel_rfl))
                  have v1 : W.cell? ⟨bK, 1, none⟩ = some (.int .i64 x1) := by simpa using HCK.out W hIW 1
                  exact wpOp_valG rfl rfl (yielded_of rfl G8) (v := .int .i64 x1) (w' := W) (by simp [execOp, go_sem, E46, v1]) ⟨hIW, fun _ h => h, Or.inl ⟨_, by decide, rfl, updF_same _ _ _⟩⟩
                | 18, _, hdep =>
                  have G8 : a1.tmps[38]? = some (.bool true) := by rw [← ha1]; exact (putsL_some _ _ _ _ (by decide) (show 38 < 52 from by decide)).trans (congrArg some (hdep 8 (by kernel_rfl)))
                  have E45 : a1.tmps[45]?.getD undef = .int .i64 y1 := by rw [← ha1]; exact (putsL_in2 _ _ _ _ (by decide) (show 45 < 52 from by decide)).trans (hdep 15 (by kernel_rfl))
                  have E47 : a1.tmps[47]?.getD undef = .int .i64 x1 := by rw [← ha1]; exact (putsL_in2 _ _ _ _ (by decide) (show 47 < 52 from by decide)).trans (hdep 17 (by kernel_rfl))
                  exact wpOp_valG rfl rfl (yielded_of rfl G8) (v := .bool false) (w' := W) (by simp [execOp, go_sem, E45, E47, hq7]) ⟨hIW, fun _ h => h, Or.inl ⟨_, by decide, rfl, updF_same _ _ _⟩⟩
                | 19, _, hdep =>
                  have G5 : a1.tmps[35]? = some (.bool false) := by rw [← ha1]; exact (putsL_some _ _ _ _ (by decide) (show 35 < 52 from by decide)).trans (congrArg some (hdep 5 (by kernel_rfl)))
                  have E38 : a1.tmps[38]?.getD undef = .bool true := by rw [← ha1]; exact (putsL_in2 _ _ _ _ (by decide) (show 38 < 52 from by decide)).trans (hdep 8 (by kernel_rfl))
                  have E48 : a1.tmps[48]?.getD undef = .bool false := by rw [← ha1]; exact (putsL_in2 _ _ _ _ (by decide) (show 48 < 52 from by decide)).trans (hdep 18 (by kernel_rfl))
                  exact wpOp_valG rfl rfl (yielded_of rfl G5) (v := .bool false) (w' := W) (by simp [execOp, go_sem, E38, E48]) ⟨hIW, fun _ h => h, Or.inl ⟨_, by decide, rfl, updF_same _ _ _⟩⟩
                | 20, _, hdep =>
                  have E35 : a1.tmps[35]?.getD undef = .bool false := by rw [← ha1]; exact (putsL_in2 _ _ _ _ (by decide) (show 35 < 52 from by decide)).trans (hdep 5 (by kernel_rfl))
                  have E49 : a1.tmps[49]?.getD undef = .bool false := by rw [← ha1]; exact (putsL_in2 _ _ _ _ (by decide) (show 49 < 52 from by decide)).trans (hdep 19 (by kernel_rfl))
                  exact wpOp_val rfl rfl (v := .bool false) (w' := W) (by simp [execOp, go_sem, E35, E49]) ⟨hIW, fun _ h => h, Or.inl ⟨_, by decide, rfl, updF_same _ _ _⟩⟩
                | iq + 21, h, _ => exact absurd h (by omega)
              case refine_2 =>
                intro f W hIW hR
                have h50 : f 50 = .bool false := hR 20 (show 20 < 21 from by decide)
                simp only [putsL, List.foldl_cons, List.foldl_nil, Act.put, List.setIfInBounds_toArray, List.set_cons_zero, List.set_cons_succ]
                go_wp2
                go_meet
                exact ⟨(by first | rfl | exact h50), Lib.hid hIW⟩
            case rest =>
              obtain ⟨rfl, HJW⟩ := hcut
              have HBW := Lib.hid (HFW1.out _ HJW.out)
              clear HJ0 HJD HJI HJO HFW HCK HCA HFW1
              go_wp2
              go_roundw
              case rel => exact ⟨(k + 1) + 1, by first | rfl | go_num, by omega, HBW⟩
              case measure => simp [RowKit.intOf]; omega
        · obtain rfl : k = n := by omega
          go_wp2
          go_ret
          exact ⟨rfl, HW2.out.trans (HB.out.mono HW2.out.size)⟩

end Go.Proofs.Ytoccnindkimjdaa
