/- The reference's Post, for a right ledger and a posting that fits. -/
import Derived.Test.YtoccnindkimjdaaMLgR
import Derived.Test.YtoccnindkimjdaaMOwnO
import Derived.Test.YtoccnindkimjdaaMRegT
import Derived.Handy
set_option linter.unusedSimpArgs false
set_option linter.unusedVariables false
set_option linter.unusedSimpArgs false
set_option linter.unusedVariables false
namespace Go.Proofs.Ytoccnindkimjdaa
open Go.RowKit Go.Lib Go.Proofs

theorem Try.infoPst : (Try.prog.info? 55).map (fun i => (i.zero, i.size, i.bytes)) = some (some (.agg #[.int .i64 0, .int .i64 0, .int .i64 0, .int .i64 0, .int .i64 0, .int .i64 0, .int .i64 0, .int .i64 0]), 8, 64) := by kernel_rfl

set_option maxRecDepth 100000 in
set_option maxHeartbeats 16000000 in
theorem rgPost_right {l : List Pst} {p : Pst} (h : LdgOk l) (hlen : l.length < 400) (hp : PstOk p) (hnum : p.num = (l.length : Int) + 1) (hday : (lastP l).day ≤ p.day) (v : Value) (w : World) (hv : PstsAt w v l) :
    Calls Try.prog 45 #[.agg #[v], .agg (pstC p).toArray] w fun e w' => ∃ u, e = .returned (.tuple #[.agg #[u], .int .i64 0]) ∧ w'.ownsRow w.heap.size 55 8 u (l.length + 1) (cellsL pstC (l ++ [p])) ∧ Below w.heap.size w w' := by
  obtain ⟨i0, hi0, hz0, hz1, hz2⟩ := info_parts Try.infoPst
  have HCK := Lib.hid (fun W (hW : Below w.heap.size w W) => rgCheck_right h v W (hv.below hW))
  have HPO := Lib.hid (fun W => rgPosting_right hp W)
  have HLA : Hid (∀ m, l.length = m + 1 → (pstAt l m).day ≤ p.day) := Lib.hid fun m hm => by rw [← lastP_at hm]; exact hday
  have HSN : Hid (cellsL pstC (l ++ [p]) = cellsL pstC l ++ pstC p) := Lib.hid (cellsL_snoc _ _ _).symm
  have HCLN : Hid ((cellsL pstC l).length = l.length * 8) := Lib.hid (cellsL_len pstF l)
  have HONE : Hid (∀ u ∈ cellsL pstC l, u.oneCell' = true) := Lib.hid (cellsL_one pstF l)
  obtain ⟨ao, cap, rfl, hcap, hcs⟩ := hv.open
  have HNW0 : Hid (∀ W, Below w.heap.size w W → l.length = 0 ∨ ∃ ad : Addr, ao = some ad ∧ ∀ j u, (cellsL pstC l)[j]? = some u → W.cell? (ad.add j) = some u) := Lib.hid fun W hW => newsOf pstF (hv.below hW)
  have HCS := Lib.hid hcs
  obtain ⟨n, hn⟩ : ∃ n, n = l.length := ⟨_, rfl⟩
  rw [← hn] at hcap hlen hnum HCK HLA HCLN HNW0 ⊢
  obtain ⟨CL, hCL⟩ : ∃ CL, CL = cellsL pstC l := ⟨_, rfl⟩
  rw [← hCL] at HSN HCLN HONE HNW0
  rw [HSN.out]
  have HN := Lib.hid hn
  clear h hp hday hv hcs hn hCL HSN
  obtain ⟨x0, x1, x2, x3, x4, x5, x6, x7⟩ := p
  simp only [pstC] at HPO hnum ⊢
  have HLA2 : Hid (∀ m, n = m + 1 → (pstAt l m).day ≤ x1) := Lib.hid fun m hm => HLA.out m hm
  have hnw : IntKind.i64.wrap ((n : Int) + 1) = x0 := by rw [hnum]; exact IntWalk.i64_in _ (by omega)
  clear HLA hnum
  obtain ⟨w0, hw0⟩ : ∃ w0, w0 = ((w.alloc (.cells #[.slice ao n cap] 27)).alloc (.cells #[.int .i64 x0, .int .i64 x1, .int .i64 x2, .int .i64 x3, .int .i64 x4, .int .i64 x5, .int .i64 x6, .int .i64 x7] 55)).alloc (.cells #[.slice none 0 0] 27) := ⟨_, rfl⟩
  have HB0 : Hid (Below w.heap.size w w0) := Lib.hid (by rw [hw0]; exact ((below_alloc w _).trans ((below_alloc _ _).mono (by simp))).trans ((below_alloc _ _).mono (by simp; omega)))
  have HL0 : Hid (w0.heap[w.heap.size]? = some (.cells #[.slice ao n cap] 27 (0, 0))) := Lib.hid (by rw [hw0]; exact obj_below (obj_below (heap_alloc_new w _) (below_alloc _ _)) (below_alloc _ _))
  have HP0 : Hid (w0.heap[w.heap.size + 1]? = some (.cells #[.int .i64 x0, .int .i64 x1, .int .i64 x2, .int .i64 x3, .int .i64 x4, .int .i64 x5, .int .i64 x6, .int .i64 x7] 55 (0, 0))) := Lib.hid (by rw [hw0]; exact obj_below (by have := heap_alloc_new (w.alloc (.cells #[.slice ao n cap] 27)) (.cells #[.int .i64 x0, .int .i64 x1, .int .i64 x2, .int .i64 x3, .int .i64 x4, .int .i64 x5, .int .i64 x6, .int .i64 x7] 55); simpa using this) (below_alloc _ _))
  have HR0 : Hid (w0.heap[w.heap.size + 2]? = some (.cells #[.slice none 0 0] 27 (0, 0))) := Lib.hid (by rw [hw0]; have := heap_alloc_new ((w.alloc (.cells #[.slice ao n cap] 27)).alloc (.cells #[.int .i64 x0, .int .i64 x1, .int .i64 x2, .int .i64 x3, .int .i64 x4, .int .i64 x5, .int .i64 x6, .int .i64 x7] 55)) (.cells #[.slice none 0 0] 27); simpa using this)
  have hwE := hw0.symm
  have hl0 := HL0.out
  have s0 := obj_cell hl0 0
  simp at s0
  clear hw0 hl0
  go_enter Try.func45, Try.ntmps45
  go_wp2_with fail
  refine (HCK.out _ HB0.out).mono ?_
  rintro e w1 ⟨rfl, hb1⟩
  have HB1 := Lib.hid (HB0.out.trans (hb1.mono HB0.out.size))
  have HL1 := Lib.hid (obj_below HL0.out hb1)
  have HP1 := Lib.hid (obj_below HP0.out hb1)
  have HR1 := Lib.hid (obj_below HR0.out hb1)
  have hl1 := HL1.out
  have hp1 := HP1.out
  have g0 := obj_cell hl1 0
  simp at g0
  have e0 := obj_cell hp1 0
  have e1 := obj_cell hp1 1
  have e2 := obj_cell hp1 2
  have e3 := obj_cell hp1 3
  have e4 := obj_cell hp1 4
  have e5 := obj_cell hp1 5
  have e6 := obj_cell hp1 6
  have e7 := obj_cell hp1 7
  simp at e0 e1 e2 e3 e4 e5 e6 e7
  clear hb1 hl1 hp1 HL0 HP0 HR0 HCK s0 hwE
  have hn4 : ¬ (n : Int) = 400 := by omega
  have hn4b : ((n : Int) == 400) = false := by rw [beq_eq_false_iff_ne]; exact hn4
  go_wp2_with fail
  refine (HPO.out _).mono ?_
  rintro e w2 ⟨rfl, hb2⟩
  have HB2 := Lib.hid (HB1.out.trans (hb2.mono HB1.out.size))
  have HL2 := Lib.hid (obj_below HL1.out hb2)
  have HP2 := Lib.hid (obj_below HP1.out hb2)
  have HR2 := Lib.hid (obj_below HR1.out hb2)
  clear hb2 e0 e1 e2 e3 e4 e5 e6 e7 g0 HL1 HP1 HR1 HPO
  have hrb : w.heap.size + 2 < w2.heap.size := obj_lt HR2.out
  have hl2 := HL2.out
  have hp2 := HP2.out
  have g0 := obj_cell hl2 0
  simp at g0
  have e0 := obj_cell hp2 0
  have e1 := obj_cell hp2 1
  have e2 := obj_cell hp2 2
  have e3 := obj_cell hp2 3
  have e4 := obj_cell hp2 4
  have e5 := obj_cell hp2 5
  have e6 := obj_cell hp2 6
  have e7 := obj_cell hp2 7
  simp at e0 e1 e2 e3 e4 e5 e6 e7
  clear hl2 hp2
  obtain ⟨J, hJ⟩ : ∃ J, J = fun W : World => Below w2.heap.size w2 W := ⟨_, rfl⟩
  have HJO : Hid (∀ W, J W → Below w2.heap.size w2 W) := Lib.hid fun W hW => by rw [hJ] at hW; exact hW
  have HJI : Hid (∀ W, Below w2.heap.size w2 W → J W) := Lib.hid fun W hW => by rw [hJ]; exact hW
  have HJD : Hid (∀ W, J W → J W.drew) := Lib.hid fun W hW => HJI.out _ ((HJO.out W hW).drew)
  have HJA : Hid (∀ W o, J W → J (W.alloc o)) := Lib.hid fun W o hW => HJI.out _ ((HJO.out W hW).alloc (HJO.out W hW).size o)
  have HJ0 : Hid (J w2) := Lib.hid (HJI.out _ (Below.refl _ _))
  have HMP : Hid (∀ W, J W → ∀ j, W.cell? ⟨w.heap.size + 1, j, none⟩ = #[.int .i64 x0, .int .i64 x1, .int .i64 x2, .int .i64 x3, .int .i64 x4, .int .i64 x5, .int .i64 x6, .int .i64 x7][j]?) := Lib.hid fun W hW j => obj_cell (obj_below HP2.out (HJO.out W hW)) j
  have HMR : Hid (∀ W, J W → W.heap[w.heap.size + 2]? = some (.cells #[.slice none 0 0] 27 (0, 0))) := Lib.hid fun W hW => obj_below HR2.out (HJO.out W hW)
  have HNW : Hid (∀ W, J W → n = 0 ∨ ∃ ad : Addr, ao = some ad ∧ ∀ j u, CL[j]? = some u → W.cell? (ad.add j) = some u) := Lib.hid fun W hW => HNW0.out W (HB2.out.trans ((HJO.out W hW).mono HB2.out.size))
  clear hJ HNW0
  cases n with
  | zero =>
    have hnw0 : IntKind.i64.wrap 1 = x0 := by have := hnw; simpa using this
    clear hnw
    have hq6 : ¬ (0 : Int) < 0 := by omega
    have HML : Hid (∀ W, J W → ∀ j, W.cell? ⟨w.heap.size, j, none⟩ = #[.slice ao 0 cap][j]?) := Lib.hid fun W hW j => obj_cell (obj_below HL2.out (HJO.out W hW)) j
    go_upto_region 11 with fail
    go_cut [33] (fun c wx => c = .bool false ∧ Hid (J wx))
    case first =>
      refine wp_region_props [34, 35, 36, 37, 38, 39, 40, 41, 42, 43, 44, 45, 46, 47, 33] (slotS [34, 35, 36, 37, 38, 39, 40, 41, 42, 43, 44, 45, 46, 47, 33]) (readsS [34, 35, 36, 37, 38, 39, 40, 41, 42, 43, 44, 45, 46, 47, 33]) (RTs [34, 35, 36, 37, 38, 39, 40, 41, 42, 43, 44, 45, 46, 47, 33] [.int .i64 0, .bool false, .bool false, undef, undef, undef, undef, undef, undef, undef, undef, undef, undef, .bool false, .bool false]) J (by kernel_rfl) (by kernel_rfl) (by kernel_rfl) (HJD.out _ HJ0.out) (fun j f q v W hq h => RTs.upd hq h) ?_ ?_
      case refine_1 =>
        intro iq hiq f W hIW hdep
        have hiq' : iq < 15 := hiq
        generalize ha1 : putsL _ [34, 35, 36, 37, 38, 39, 40, 41, 42, 43, 44, 45, 46, 47, 33] f = a1
        match iq, hiq', hdep with
        | 0, _, hdep =>
          have E7 : a1.tmps[7]?.getD undef = .int .i64 0 := by rw [← ha1]; exact (putsL_out2 _ _ _ _ (by decide)).trans rfl
          exact wpOp_val rfl rfl (v := .int .i64 0) (w' := W) (by simp [execOp, go_sem, E7]) ⟨hIW, fun _ h => h, Or.inl ⟨_, by decide, rfl, updF_same _ _ _⟩⟩
        | 1, _, hdep =>
          have E34 : a1.tmps[34]?.getD undef = .int .i64 0 := by rw [← ha1]; exact (putsL_in2 _ _ _ _ (by decide) (show 34 < 56 from by decide)).trans (hdep 0 (by kernel_rfl))
          exact wpOp_val rfl rfl (v := .bool false) (w' := W) (by simp [execOp, go_sem, E34, hq6]) ⟨hIW, fun _ h => h, Or.inl ⟨_, by decide, rfl, updF_same _ _ _⟩⟩
        | 2, _, hdep =>
          have E35 : a1.tmps[35]?.getD undef = .bool false := by rw [← ha1]; exact (putsL_in2 _ _ _ _ (by decide) (show 35 < 56 from by decide)).trans (hdep 1 (by kernel_rfl))
          exact wpOp_val rfl rfl (v := .bool false) (w' := W) (by simp [execOp, go_sem, E35]) ⟨hIW, fun _ h => h, Or.inl ⟨_, by decide, rfl, updF_same _ _ _⟩⟩
        | 3, _, hdep =>
          have G2 : a1.tmps[36]? = some (.bool false) := by rw [← ha1]; exact (putsL_some _ _ _ _ (by decide) (show 36 < 56 from by decide)).trans (congrArg some (hdep 2 (by kernel_rfl)))
          exact wpOp_off rfl rfl (yielded_of rfl G2) ⟨hIW, fun _ h => h, Or.inl ⟨_, by decide, rfl, updF_same _ _ _⟩⟩
        | 4, _, hdep =>
          have G2 : a1.tmps[36]? = some (.bool false) := by rw [← ha1]; exact (putsL_some _ _ _ _ (by decide) (show 36 < 56 from by decide)).trans (congrArg some (hdep 2 (by kernel_rfl)))
          exact wpOp_off rfl rfl (yielded_of rfl G2) ⟨hIW, fun _ h => h, Or.inl ⟨_, by decide, rfl, updF_same _ _ _⟩⟩
        | 5, _, hdep =>
          have G2 : a1.tmps[36]? = some (.bool false) := by rw [← ha1]; exact (putsL_some _ _ _ _ (by decide) (show 36 < 56 from by decide)).trans (congrArg some (hdep 2 (by kernel_rfl)))
          exact wpOp_off rfl rfl (yielded_of rfl G2) ⟨hIW, fun _ h => h, Or.inl ⟨_, by decide, rfl, updF_same _ _ _⟩⟩
        | 6, _, hdep =>
          have G2 : a1.tmps[36]? = some (.bool false) := by rw [← ha1]; exact (putsL_some _ _ _ _ (by decide) (show 36 < 56 from by decide)).trans (congrArg some (hdep 2 (by kernel_rfl)))
          exact wpOp_off rfl rfl (yielded_of rfl G2) ⟨hIW, fun _ h => h, Or.inl ⟨_, by decide, rfl, updF_same _ _ _⟩⟩
        | 7, _, hdep =>
          have G2 : a1.tmps[36]? = some (.bool false) := by rw [← ha1]; exact (putsL_some _ _ _ _ (by decide) (show 36 < 56 from by decide)).trans (congrArg some (hdep 2 (by kernel_rfl)))
          exact wpOp_off rfl rfl (yielded_of rfl G2) ⟨hIW, fun _ h => h, Or.inl ⟨_, by decide, rfl, updF_same _ _ _⟩⟩
        | 8, _, hdep =>
          have G2 : a1.tmps[36]? = some (.bool false) := by rw [← ha1]; exact (putsL_some _ _ _ _ (by decide) (show 36 < 56 from by decide)).trans (congrArg some (hdep 2 (by kernel_rfl)))
          exact wpOp_off rfl rfl (yielded_of rfl G2) ⟨hIW, fun _ h => h, Or.inl ⟨_, by decide, rfl, updF_same _ _ _⟩⟩
        | 9, _, hdep =>
          have G2 : a1.tmps[36]? = some (.bool false) := by rw [← ha1]; exact (putsL_some _ _ _ _ (by decide) (show 36 < 56 from by decide)).trans (congrArg some (hdep 2 (by kernel_rfl)))
          exact wpOp_off rfl rfl (yielded_of rfl G2) ⟨hIW, fun _ h => h, Or.inl ⟨_, by decide, rfl, updF_same _ _ _⟩⟩
        | 10, _, hdep =>
          have G2 : a1.tmps[36]? = some (.bool false) := by rw [← ha1]; exact (putsL_some _ _ _ _ (by decide) (show 36 < 56 from by decide)).trans (congrArg some (hdep 2 (by kernel_rfl)))
          exact wpOp_off rfl rfl (yielded_of rfl G2) ⟨hIW, fun _ h => h, Or.inl ⟨_, by decide, rfl, updF_same _ _ _⟩⟩
        | 11, _, hdep =>
          have G2 : a1.tmps[36]? = some (.bool false) := by rw [← ha1]; exact (putsL_some _ _ _ _ (by decide) (show 36 < 56 from by decide)).trans (congrArg some (hdep 2 (by kernel_rfl)))
          exact wpOp_off rfl rfl (yielded_of rfl G2) ⟨hIW, fun _ h => h, Or.inl ⟨_, by decide, rfl, updF_same _ _ _⟩⟩
        | 12, _, hdep =>
          have G2 : a1.tmps[36]? = some (.bool false) := by rw [← ha1]; exact (putsL_some _ _ _ _ (by decide) (show 36 < 56 from by decide)).trans (congrArg some (hdep 2 (by kernel_rfl)))
          exact wpOp_off rfl rfl (yielded_of rfl G2) ⟨hIW, fun _ h => h, Or.inl ⟨_, by decide, rfl, updF_same _ _ _⟩⟩
        | 13, _, hdep =>
          have E36 : a1.tmps[36]?.getD undef = .bool false := by rw [← ha1]; exact (putsL_in2 _ _ _ _ (by decide) (show 36 < 56 from by decide)).trans (hdep 2 (by kernel_rfl))
          exact wpOp_val rfl rfl (v := .bool false) (w' := W) (by simp [execOp, go_sem, E36]) ⟨hIW, fun _ h => h, Or.inl ⟨_, by decide, rfl, updF_same _ _ _⟩⟩
        | 14, _, hdep =>
          have E47 : a1.tmps[47]?.getD undef = .bool false := by rw [← ha1]; exact (putsL_in2 _ _ _ _ (by decide) (show 47 < 56 from by decide)).trans (hdep 13 (by kernel_rfl))
          exact wpOp_val rfl rfl (v := .bool false) (w' := W) (by simp [execOp, go_sem, E47]) ⟨hIW, fun _ h => h, Or.inl ⟨_, by decide, rfl, updF_same _ _ _⟩⟩
        | iq + 15, h, _ => exact absurd h (by omega)
      case refine_2 =>
        intro f W hIW hR
        have h33 : f 33 = .bool false := hR 14 (show 14 < 15 from by decide)
        simp only [putsL, List.foldl_cons, List.foldl_nil, Act.put, List.setIfInBounds_toArray, List.set_cons_zero, List.set_cons_succ]
        go_wp2
        go_meet
        exact ⟨(by first | rfl | exact h33), Lib.hid hIW⟩
    case rest =>
      obtain ⟨rfl, HJX⟩ := hcut
      clear HJ0
      go_upto_region 13 with fail
      obtain ⟨P, hP⟩ : ∃ P : Nat → Value → World → Prop, P = fun j v W => match j with | 0 => (v = .pointer (some ⟨w.heap.size, 0, none⟩)) | 1 => (v = .slice ao 0 cap) | 2 => (∃ cv, v = cv ∧ W.ownsRow w2.heap.size 55 8 cv (0) (CL)) | 3 => (v = .agg #[.int .i64 x0, .int .i64 x1, .int .i64 x2, .int .i64 x3, .int .i64 x4, .int .i64 x5, .int .i64 x6, .int .i64 x7]) | 4 => (∃ bq, v = .slice (some ⟨bq, 0, none⟩) 1 1 ∧ W.heap[bq]? = some (.cells #[.int .i64 x0, .int .i64 x1, .int .i64 x2, .int .i64 x3, .int .i64 x4, .int .i64 x5, .int .i64 x6, .int .i64 x7] 55 (0, 0))) | _ => True := ⟨_, rfl⟩
      have HPI0 : Hid (∀ v W, P 0 v W ↔ (v = .pointer (some ⟨w.heap.size, 0, none⟩))) := Lib.hid fun v W => by rw [hP] <;> exact Iff.rfl
      have HPI1 : Hid (∀ v W, P 1 v W ↔ (v = .slice ao 0 cap)) := Lib.hid fun v W => by rw [hP] <;> exact Iff.rfl
      have HPI2 : Hid (∀ v W, P 2 v W ↔ (∃ cv, v = cv ∧ W.ownsRow w2.heap.size 55 8 cv (0) (CL))) := Lib.hid fun v W => by rw [hP] <;> exact Iff.rfl
      have HPI3 : Hid (∀ v W, P 3 v W ↔ (v = .agg #[.int .i64 x0, .int .i64 x1, .int .i64 x2, .int .i64 x3, .int .i64 x4, .int .i64 x5, .int .i64 x6, .int .i64 x7])) := Lib.hid fun v W => by rw [hP] <;> exact Iff.rfl
      have HPI4 : Hid (∀ v W, P 4 v W ↔ (∃ bq, v = .slice (some ⟨bq, 0, none⟩) 1 1 ∧ W.heap[bq]? = some (.cells #[.int .i64 x0, .int .i64 x1, .int .i64 x2, .int .i64 x3, .int .i64 x4, .int .i64 x5, .int .i64 x6, .int .i64 x7] 55 (0, 0)))) := Lib.hid fun v W => by rw [hP] <;> exact Iff.rfl
      have HKP : Hid (∀ (j : Nat) v W W', Below W.heap.size W W' → P j v W → P j v W') := Lib.hid (by
        rw [hP]
        intro j v W W' hb h
        match j, h with
        | 0, h => exact h
        | 1, h => exact h
        | 2, ⟨cv, e, s0⟩ => exact ⟨cv, e, ownsRow_below s0 hb⟩
        | 3, h => exact h
        | 4, ⟨bq, e, s0⟩ => exact ⟨bq, e, obj_below s0 hb⟩
        | j + 5, _ => trivial)
      clear hP
      refine wp_region_tail [49, 50, 51, 52, 53, 54, 55, 5] (slotS [49, 50, 51, 52, 53]) (readsS [49, 50, 51, 52, 53]) (RP [49, 50, 51, 52, 53] P) J (fun k f W => match k with | 0 => (∃ (cv : Value) (bq : Nat), f 51 = cv ∧ f 53 = .slice (some ⟨bq, 0, none⟩) 1 1 ∧ J W ∧ W.ownsRow w2.heap.size 55 8 cv (0) (CL) ∧ W.heap[bq]? = some (.cells #[.int .i64 x0, .int .i64 x1, .int .i64 x2, .int .i64 x3, .int .i64 x4, .int .i64 x5, .int .i64 x6, .int .i64 x7] 55 (0, 0))) | 1 => (∃ uq : Value, f 54 = uq ∧ J W ∧ W.ownsRow w2.heap.size 55 8 uq (0 + 1) (CL ++ [.int .i64 x0, .int .i64 x1, .int .i64 x2, .int .i64 x3, .int .i64 x4, .int .i64 x5, .int .i64 x6, .int .i64 x7])) | 2 => (∃ uq : Value, f 55 = .agg #[uq] ∧ J W ∧ W.ownsRow w2.heap.size 55 8 uq (0 + 1) (CL ++ [.int .i64 x0, .int .i64 x1, .int .i64 x2, .int .i64 x3, .int .i64 x4, .int .i64 x5, .int .i64 x6, .int .i64 x7])) | 3 => (∃ uq : Value, Below w.heap.size w W ∧ W.heap[w.heap.size + 2]? = some (.cells #[uq] 27 (0, 0)) ∧ W.ownsRow w.heap.size 55 8 uq (0 + 1) (CL ++ [.int .i64 x0, .int .i64 x1, .int .i64 x2, .int .i64 x3, .int .i64 x4, .int .i64 x5, .int .i64 x6, .int .i64 x7])) | _ => (∃ uq : Value, f 5 = .int .i64 0 ∧ Below w.heap.size w W ∧ W.heap[w.heap.size + 2]? = some (.cells #[uq] 27 (0, 0)) ∧ W.ownsRow w.heap.size 55 8 uq (0 + 1) (CL ++ [.int .i64 x0, .int .i64 x1, .int .i64 x2, .int .i64 x3, .int .i64 x4, .int .i64 x5, .int .i64 x6, .int .i64 x7]))) 5 8 (by decide) (by kernel_rfl) (by kernel_rfl) (by kernel_rfl) (by kernel_rfl) (HJD.out _ HJX.out) (fun j f q v W hq h => RP.upd hq h) ?_ ?_ ?_ ?_
      case refine_1 =>
        intro iq hiq f W hIW hdep0
        have hdep : ∀ j, depB _ iq j = true → P j (f (slotS [49, 50, 51, 52, 53] j)) W := hdep0
        clear hdep0
        generalize ha1 : putsL _ [49, 50, 51, 52, 53, 54, 55, 5] f = a1
        match iq, hiq, hdep with
        | 0, _, hdep0 =>
          have E2 : a1.tmps[2]?.getD undef = .pointer (some ⟨w.heap.size, 0, none⟩) := by rw [← ha1]; exact (putsL_out2 _ _ _ _ (by decide)).trans rfl
          exact wpOp_val rfl rfl (v := .pointer (some ⟨w.heap.size, 0, none⟩)) (w' := W) (by simp [execOp, go_sem, E2]) ⟨hIW, fun _ h => h, _, by decide, rfl, RP.set ((HPI0.out _ _).2 rfl)⟩
        | 1, _, hdep0 =>
          have hd0 := (HPI0.out _ _).1 (hdep0 0 (by kernel_rfl))
          have E49 : a1.tmps[49]?.getD undef = .pointer (some ⟨w.heap.size, 0, none⟩) := by rw [← ha1]; exact (putsL_in2 _ _ _ _ (by decide) (show 49 < 56 from by decide)).trans hd0
          have v0 : W.cell? ⟨w.heap.size, 0, none⟩ = some (.slice ao 0 cap) := by simpa using HML.out W hIW 0
          exact wpOp_val rfl rfl (v := .slice ao 0 cap) (w' := W) (by simp [execOp, go_sem, E49, v0]) ⟨hIW, fun _ h => h, _, by decide, rfl, RP.set ((HPI1.out _ _).2 rfl)⟩
        | 2, _, hdep0 =>
          have hd1 := (HPI1.out _ _).1 (hdep0 1 (by kernel_rfl))
          have E50 : a1.tmps[50]?.getD undef = .slice ao 0 cap := by rw [← ha1]; exact (putsL_in2 _ _ _ _ (by decide) (show 50 < 56 from by decide)).trans hd1
          refine wpOp_fresh rfl rfl (.const (.slice none 0 0)) (.tmp 50) 25 rfl w2.heap.size 55 i0 (.agg #[.int .i64 0, .int .i64 0, .int .i64 0, .int .i64 0, .int .i64 0, .int .i64 0, .int .i64 0, .int .i64 0]) 8 64 Try.underlying25 hi0 hz0 hz1 hz2 rfl (by decide) rfl ao (0) cap CL ?_ HCLN.out (by first | exact HNW.out W hIW | exact Or.inl rfl) HONE.out (by unfold maxLen; omega) (by omega) (HJO.out W hIW).size ?_
          · show a1.tmps.getD 50 undef = _
            rw [Array.getD_eq_getD_getElem?]
            exact E50
          · intro v' w' h2 h3
            have hb' : Below W.heap.size W w' := (Below.refl _ W).grown h3 (Nat.le_refl _) (fun j e => by cases e)
            have hJ' : J w' := HJI.out _ ((HJO.out W hIW).trans (hb'.mono (HJO.out W hIW).size))
            exact ⟨hJ', fun j h => HKP.out j _ _ _ hb' h, _, by decide, rfl, RP.set ((HPI2.out _ _).2 ⟨_, rfl, h2⟩)⟩
        | 3, _, hdep0 =>
          have E3 : a1.tmps[3]?.getD undef = .pointer (some ⟨w.heap.size + 1, 0, none⟩) := by rw [← ha1]; exact (putsL_out2 _ _ _ _ (by decide)).trans rfl
          have v0 : W.cell? ⟨w.heap.size + 1, 0, none⟩ = some (.int .i64 x0) := by simpa using HMP.out W hIW 0
          have v1 : W.cell? ⟨w.heap.size + 1, 1, none⟩ = some (.int .i64 x1) := by simpa using HMP.out W hIW 1
          have v2 : W.cell? ⟨w.heap.size + 1, 2, none⟩ = some (.int .i64 x2) := by simpa using HMP.out W hIW 2
          have v3 : W.cell? ⟨w.heap.size + 1, 3, none⟩ = some (.int .i64 x3) := by simpa using HMP.out W hIW 3
          have v4 : W.cell? ⟨w.heap.size + 1, 4, none⟩ = some (.int .i64 x4) := by simpa using HMP.out W hIW 4
          have v5 : W.cell? ⟨w.heap.size + 1, 5, none⟩ = some (.int .i64 x5) := by simpa using HMP.out W hIW 5
          have v6 : W.cell? ⟨w.heap.size + 1, 6, none⟩ = some (.int .i64 x6) := by simpa using HMP.out W hIW 6
          have v7 : W.cell? ⟨w.heap.size + 1, 7, none⟩ = some (.int .i64 x7) := by simpa using HMP.out W hIW 7
          exact wpOp_val rfl rfl (v := .agg #[.int .i64 x0, .int .i64 x1, .int .i64 x2, .int .i64 x3, .int .i64 x4, .int .i64 x5, .int .i64 x6, .int .i64 x7]) (w' := W) (by simp [execOp, go_sem, E3, v0, v1, v2, v3, v4, v5, v6, v7]) ⟨hIW, fun _ h => h, _, by decide, rfl, RP.set ((HPI3.out _ _).2 rfl)⟩
        | 4, _, hdep0 =>
          have hd3 := (HPI3.out _ _).1 (hdep0 3 (by kernel_rfl))
          have E52 : a1.tmps[52]?.getD undef = .agg #[.int .i64 x0, .int .i64 x1, .int .i64 x2, .int .i64 x3, .int .i64 x4, .int .i64 x5, .int .i64 x6, .int .i64 x7] := by rw [← ha1]; exact (putsL_in2 _ _ _ _ (by decide) (show 52 < 56 from by decide)).trans hd3
          exact wpOp_val rfl rfl (v := .slice (some ⟨W.heap.size, 0, none⟩) 1 1) (w' := W.alloc (.cells #[.int .i64 x0, .int .i64 x1, .int .i64 x2, .int .i64 x3, .int .i64 x4, .int .i64 x5, .int .i64 x6, .int .i64 x7] 55)) (by simp [execOp, go_sem, E52]) ⟨(HJA.out _ _ hIW), fun j h => HKP.out j _ _ _ (below_alloc _ _) h, _, by decide, rfl, RP.set ((HPI4.out _ _).2 ⟨_, rfl, heap_alloc_new _ _⟩)⟩
        | iq + 5, h, _ => exact absurd h (by omega)
      case refine_2 =>
        intro f W hIW hR
        have h51 := (HPI2.out _ _).1 (hR 2 (by decide))
        have h53 := (HPI4.out _ _).1 (hR 4 (by decide))
        obtain ⟨cv, h51, hown⟩ := h51
        obtain ⟨bq, h53, hbq⟩ := h53
        exact ⟨cv, bq, h51, h53, hIW, hown, hbq⟩
      case refine_3 =>
        intro iq hsq hiq f W hIt0
        have hiq2 : iq < 9 := hiq
        have hIt := hIt0
        clear hIt0
        rcases (show iq = 5 ∨ iq = 6 ∨ iq = 7 ∨ iq = 8 by omega) with rfl | rfl | rfl | rfl
        · clear hsq hiq hiq2
          obtain ⟨cv, bq, h46, h48, hIW, hown, hbq⟩ := hIt
          refine wpOp_append rfl rfl (.tmp 51) (.tmp 53) 25 rfl w2.heap.size 55 i0 (.agg #[.int .i64 0, .int .i64 0, .int .i64 0, .int .i64 0, .int .i64 0, .int .i64 0, .int .i64 0, .int .i64 0]) 8 64 Try.underlying25 hi0 hz0 hz1 hz2 rfl (by decide) cv (0) CL ?_ hown ⟨bq, 0, none⟩ 1 1 [.int .i64 x0, .int .i64 x1, .int .i64 x2, .int .i64 x3, .int .i64 x4, .int .i64 x5, .int .i64 x6, .int .i64 x7] ?_ rfl (obj_new_cells hbq) (pstF.one ⟨x0, x1, x2, x3, x4, x5, x6, x7⟩) (by unfold maxLen; omega) (by omega) (HJO.out W hIW).size ?_
          · exact (putsL_in _ _ _ _ (by decide) (show 51 < 56 from by decide)).trans h46
          · exact (putsL_in _ _ _ _ (by decide) (show 53 < 56 from by decide)).trans h48
          · intro v' w' h2 h3
            have hnew : ∃ uq : Value, updF f 54 v' 54 = uq ∧ J w' ∧ w'.ownsRow w2.heap.size 55 8 uq (0 + 1) (CL ++ [.int .i64 x0, .int .i64 x1, .int .i64 x2, .int .i64 x3, .int .i64 x4, .int .i64 x5, .int .i64 x6, .int .i64 x7]) := ⟨v', updF_same _ _ _, HJI.out _ ((HJO.out W hIW).grown h3 (HJO.out W hIW).size fun j e => ownBlock_le hown j e), h2⟩
            exact ⟨updF f 54 v', putsL_put _ _ _ _ _ (by decide), hnew⟩
        · clear hsq hiq hiq2
          obtain ⟨u, h49, hIW, hown⟩ := hIt
          obtain ⟨au, cu, rfl, -, -⟩ := owns_gen hown
          generalize ha1 : putsL _ [49, 50, 51, 52, 53, 54, 55, 5] f = a1
          have E54 : a1.tmps[54]?.getD undef = .slice au (0 + 1) cu := by rw [← ha1]; exact (putsL_in2 _ _ _ _ (by decide) (show 54 < 56 from by decide)).trans h49
          have hnew : ∃ uq : Value, updF f 55 (.agg #[.slice au (0 + 1) cu]) 55 = .agg #[uq] ∧ J W ∧ W.ownsRow w2.heap.size 55 8 uq (0 + 1) (CL ++ [.int .i64 x0, .int .i64 x1, .int .i64 x2, .int .i64 x3, .int .i64 x4, .int .i64 x5, .int .i64 x6, .int .i64 x7]) := ⟨_, updF_same _ _ _, hIW, hown⟩
          exact wpOp_val rfl rfl (v := .agg #[.slice au (0 + 1) cu]) (w' := W) (by simp [execOp, go_sem, E54]) ⟨updF f 55 (.agg #[.slice au (0 + 1) cu]), by rw [← ha1]; exact putsL_put _ _ _ _ _ (by decide), hnew⟩
        · clear hsq hiq hiq2
          obtain ⟨u, h50, hIW, hown⟩ := hIt
          obtain ⟨au, cu, rfl, -, -⟩ := owns_gen hown
          generalize ha1 : putsL _ [49, 50, 51, 52, 53, 54, 55, 5] f = a1
          have E55 : a1.tmps[55]?.getD undef = .agg #[.slice au (0 + 1) cu] := by rw [← ha1]; exact (putsL_in2 _ _ _ _ (by decide) (show 55 < 56 from by decide)).trans h50
          have E4 : a1.tmps[4]?.getD undef = .pointer (some ⟨w.heap.size + 2, 0, none⟩) := by rw [← ha1]; exact (putsL_out2 _ _ _ _ (by decide)).trans rfl
          have hR := HMR.out W hIW
          have p0 := obj_cell hR 0
          have f0 := obj_free hR 0
          simp at p0
          have hg : W.grownBy (W.setCell ⟨w.heap.size + 2, 0, none⟩ (.slice au (0 + 1) cu)) (some (w.heap.size + 2)) := setCell_grown _ _
          have hset := obj_set hR 0 (.slice au (0 + 1) cu)
          simp only [List.setIfInBounds_toArray, List.set_cons_zero] at hset
          have hnew : ∃ uq : Value, Below w.heap.size w (W.setCell ⟨w.heap.size + 2, 0, none⟩ (.slice au (0 + 1) cu)) ∧ (W.setCell ⟨w.heap.size + 2, 0, none⟩ (.slice au (0 + 1) cu)).heap[w.heap.size + 2]? = some (.cells #[uq] 27 (0, 0)) ∧ (W.setCell ⟨w.heap.size + 2, 0, none⟩ (.slice au (0 + 1) cu)).ownsRow w.heap.size 55 8 uq (0 + 1) (CL ++ [.int .i64 x0, .int .i64 x1, .int .i64 x2, .int .i64 x3, .int .i64 x4, .int .i64 x5, .int .i64 x6, .int .i64 x7]) := ⟨_, (HB2.out.trans ((HJO.out W hIW).mono HB2.out.size)).grown hg (HB2.out.trans ((HJO.out W hIW).mono HB2.out.size)).size (fun j e => by injection e with e; omega), hset, ownsRow_mono (hown.kept hg (ownBlock_ne hown _ hrb)) HB2.out.size⟩
          exact wpOp_skip rfl rfl (w' := W.setCell ⟨w.heap.size + 2, 0, none⟩ (.slice au (0 + 1) cu)) (by simp [execOp, go_sem, E4, E55, p0, f0]) ⟨f, ha1.symm, hnew⟩
        · clear hsq hiq hiq2
          obtain ⟨u, hbw, hset, hown⟩ := hIt
          generalize ha1 : putsL _ [49, 50, 51, 52, 53, 54, 55, 5] f = a1
          have hnew : ∃ uq : Value, updF f 5 (.int .i64 0) 5 = .int .i64 0 ∧ Below w.heap.size w W ∧ W.heap[w.heap.size + 2]? = some (.cells #[uq] 27 (0, 0)) ∧ W.ownsRow w.heap.size 55 8 uq (0 + 1) (CL ++ [.int .i64 x0, .int .i64 x1, .int .i64 x2, .int .i64 x3, .int .i64 x4, .int .i64 x5, .int .i64 x6, .int .i64 x7]) := ⟨u, updF_same _ _ _, hbw, hset, hown⟩
          exact wpOp_val rfl rfl (v := .int .i64 0) (w' := W) (by simp [execOp, go_sem]) ⟨updF f 5 (.int .i64 0), by rw [← ha1]; exact putsL_put _ _ _ _ _ (by decide), hnew⟩
      case refine_4 =>
        intro f W hIt
        simp only [putsL, List.foldl_cons, List.foldl_nil, Act.put, List.setIfInBounds_toArray, List.set_cons_zero, List.set_cons_succ]
        obtain ⟨u, h5, hbw, hset, hown⟩ := hIt
        have p0 := obj_cell hset 0
        simp at p0
        go_wp2
        refine bodyPost_ret (v := .tuple #[.agg #[u], .int .i64 0]) (by simp [results, Try.results45, go_sem, p0, h5]) rfl ⟨u, rfl, hown, hbw⟩

  | succ m =>
    have hnw0 : IntKind.i64.wrap ((m : Int) + 1 + 1) = x0 := by have := hnw; push_cast at this; exact this
    clear hnw
    obtain ⟨b, o, rfl, hb, hcc⟩ := HCS.out (by rw [← HN.out]; omega)
    obtain ⟨y1, hy1⟩ : ∃ y, y = (pstAt l m).day := ⟨_, rfl⟩
    have HC1 : Hid (∀ W, J W → W.cell? ⟨b, o + m * 8 + 1, none⟩ = some (.int .i64 y1)) := Lib.hid fun W hW => by
      have hB := HB2.out.trans ((HJO.out W hW).mono HB2.out.size)
      rw [hB.cell (p := ⟨b, o + m * 8 + 1, none⟩) hb, hcc m (by rw [← HN.out]; omega) 1 (by omega), hy1]
      rfl
    have hyx := HLA2.out m rfl
    rw [← hy1] at hyx
    have hq7 : ¬ x1 < y1 := by omega
    have hm0 : (0 : Int) ≤ (m : Int) := by omega
    have hm2 : (m : Int) < (m : Int) + 1 := by omega
    have hq6 : (0 : Int) < (m : Int) + 1 := by omega
    have hq8 : IntKind.i64.wrap (m : Int) = (m : Int) := IntWalk.i64_in _ (by omega)
    clear hcc hy1 hyx HLA2 HCS
    have HML : Hid (∀ W, J W → ∀ j, W.cell? ⟨w.heap.size, j, none⟩ = #[.slice (some ⟨b, o, none⟩) (m + 1) cap][j]?) := Lib.hid fun W hW j => obj_cell (obj_below HL2.out (HJO.out W hW)) j
    go_upto_region 11 with fail
    go_cut [33] (fun c wx => c = .bool false ∧ Hid (J wx))
    case first =>
      refine wp_region_props [34, 35, 36, 37, 38, 39, 40, 41, 42, 43, 44, 45, 46, 47, 33] (slotS [34, 35, 36, 37, 38, 39, 40, 41, 42, 43, 44, 45, 46, 47, 33]) (readsS [34, 35, 36, 37, 38, 39, 40, 41, 42, 43, 44, 45, 46, 47, 33]) (RTs [34, 35, 36, 37, 38, 39, 40, 41, 42, 43, 44, 45, 46, 47, 33] [.int .i64 ((m : Int) + 1), .bool true, .bool true, .pointer (some ⟨w.heap.size + 1, 1, none⟩), .int .i64 x1, .pointer (some ⟨w.heap.size, 0, none⟩), .slice (some ⟨b, o, none⟩) (m + 1) cap, .int .i64 ((m : Int) + 1), .int .i64 (m : Int), .pointer (some ⟨b, o + m * 8, none⟩), .pointer (some ⟨b, o + m * 8 + 1, none⟩), .int .i64 y1, .bool false, .bool false, .bool false]) J (by kernel_rfl) (by kernel_rfl) (by kernel_rfl) (HJD.out _ HJ0.out) (fun j f q v W hq h => RTs.upd hq h) ?_ ?_
      case refine_1 =>
        intro iq hiq f W hIW hdep
        have hiq' : iq < 15 := hiq
        generalize ha1 : putsL _ [34, 35, 36, 37, 38, 39, 40, 41, 42, 43, 44, 45, 46, 47, 33] f = a1
        match iq, hiq', hdep with
        | 0, _, hdep =>
          have E7 : a1.tmps[7]?.getD undef = .int .i64 ((m : Int) + 1) := by rw [← ha1]; exact (putsL_out2 _ _ _ _ (by decide)).trans rfl
          exact wpOp_val rfl rfl (v := .int .i64 ((m : Int) + 1)) (w' := W) (by simp [execOp, go_sem, E7]) ⟨hIW, fun _ h => h, Or.inl ⟨_, by decide, rfl, updF_same _ _ _⟩⟩
        | 1, _, hdep =>
          have E34 : a1.tmps[34]?.getD undef = .int .i64 ((m : Int) + 1) := by rw [← ha1]; exact (putsL_in2 _ _ _ _ (by decide) (show 34 < 56 from by decide)).trans (hdep 0 (by kernel_rfl))
          exact wpOp_val rfl rfl (v := .bool true) (w' := W) (by simp [execOp, go_sem, E34, hq6]) ⟨hIW, fun _ h => h, Or.inl ⟨_, by decide, rfl, updF_same _ _ _⟩⟩
        | 2, _, hdep =>
          have E35 : a1.tmps[35]?.getD undef = .bool true := by rw [← ha1]; exact (putsL_in2 _ _ _ _ (by decide) (show 35 < 56 from by decide)).trans (hdep 1 (by kernel_rfl))
          exact wpOp_val rfl rfl (v := .bool true) (w' := W) (by simp [execOp, go_sem, E35]) ⟨hIW, fun _ h => h, Or.inl ⟨_, by decide, rfl, updF_same _ _ _⟩⟩
        | 3, _, hdep =>
          have G2 : a1.tmps[36]? = some (.bool true) := by rw [← ha1]; exact (putsL_some _ _ _ _ (by decide) (show 36 < 56 from by decide)).trans (congrArg some (hdep 2 (by kernel_rfl)))
          have E3 : a1.tmps[3]?.getD undef = .pointer (some ⟨w.heap.size + 1, 0, none⟩) := by rw [← ha1]; exact (putsL_out2 _ _ _ _ (by decide)).trans rfl
          exact wpOp_valG rfl rfl (yielded_of rfl G2) (v := .pointer (some ⟨w.heap.size + 1, 1, none⟩)) (w' := W) (by simp [execOp, go_sem, E3]) ⟨hIW, fun _ h => h, Or.inl ⟨_, by decide, rfl, updF_same _ _ _⟩⟩
        | 4, _, hdep =>
          have G2 : a1.tmps[36]? = some (.bool true) := by rw [← ha1]; exact (putsL_some _ _ _ _ (by decide) (show 36 < 56 from by decide)).trans (congrArg some (hdep 2 (by kernel_rfl)))
          have E37 : a1.tmps[37]?.getD undef = .pointer (some ⟨w.heap.size + 1, 1, none⟩) := by rw [← ha1]; exact (putsL_in2 _ _ _ _ (by decide) (show 37 < 56 from by decide)).trans (hdep 3 (by kernel_rfl))
          have v1 : W.cell? ⟨w.heap.size + 1, 1, none⟩ = some (.int .i64 x1) := by simpa using HMP.out W hIW 1
          exact wpOp_valG rfl rfl (yielded_of rfl G2) (v := .int .i64 x1) (w' := W) (by simp [execOp, go_sem, E37, v1]) ⟨hIW, fun _ h => h, Or.inl ⟨_, by decide, rfl, updF_same _ _ _⟩⟩
        | 5, _, hdep =>
          have G2 : a1.tmps[36]? = some (.bool true) := by rw [← ha1]; exact (putsL_some _ _ _ _ (by decide) (show 36 < 56 from by decide)).trans (congrArg some (hdep 2 (by kernel_rfl)))
          have E2 : a1.tmps[2]?.getD undef = .pointer (some ⟨w.heap.size, 0, none⟩) := by rw [← ha1]; exact (putsL_out2 _ _ _ _ (by decide)).trans rfl
          exact wpOp_valG rfl rfl (yielded_of rfl G2) (v := .pointer (some ⟨w.heap.size, 0, none⟩)) (w' := W) (by simp [execOp, go_sem, E2]) ⟨hIW, fun _ h => h, Or.inl ⟨_, by decide, rfl, updF_same _ _ _⟩⟩
        | 6, _, hdep =>
          have G2 : a1.tmps[36]? = some (.bool true) := by rw [← ha1]; exact (putsL_some _ _ _ _ (by decide) (show 36 < 56 from by decide)).trans (congrArg some (hdep 2 (by kernel_rfl)))
          have E39 : a1.tmps[39]?.getD undef = .pointer (some ⟨w.heap.size, 0, none⟩) := by rw [← ha1]; exact (putsL_in2 _ _ _ _ (by decide) (show 39 < 56 from by decide)).trans (hdep 5 (by kernel_rfl))
          have v0 : W.cell? ⟨w.heap.size, 0, none⟩ = some (.slice (some ⟨b, o, none⟩) (m + 1) cap) := by simpa using HML.out W hIW 0
          exact wpOp_valG rfl rfl (yielded_of rfl G2) (v := .slice (some ⟨b, o, none⟩) (m + 1) cap) (w' := W) (by simp [execOp, go_sem, E39, v0]) ⟨hIW, fun _ h => h, Or.inl ⟨_, by decide, rfl, updF_same _ _ _⟩⟩
        | 7, _, hdep =>
          have G2 : a1.tmps[36]? = some (.bool true) := by rw [← ha1]; exact (putsL_some _ _ _ _ (by decide) (show 36 < 56 from by decide)).trans (congrArg some (hdep 2 (by kernel_rfl)))
          have E7 : a1.tmps[7]?.getD undef = .int .i64 ((m : Int) + 1) := by rw [← ha1]; exact (putsL_out2 _ _ _ _ (by decide)).trans rfl
          exact wpOp_valG rfl rfl (yielded_of rfl G2) (v := .int .i64 ((m : Int) + 1)) (w' := W) (by simp [execOp, go_sem, E7]) ⟨hIW, fun _ h => h, Or.inl ⟨_, by decide, rfl, updF_same _ _ _⟩⟩
        | 8, _, hdep =>
          have G2 : a1.tmps[36]? = some (.bool true) := by rw [← ha1]; exact (putsL_some _ _ _ _ (by decide) (show 36 < 56 from by decide)).trans (congrArg some (hdep 2 (by kernel_rfl)))
          have E41 : a1.tmps[41]?.getD undef = .int .i64 ((m : Int) + 1) := by rw [← ha1]; exact (putsL_in2 _ _ _ _ (by decide) (show 41 < 56 from by decide)).trans (hdep 7 (by kernel_rfl))
          exact wpOp_valG rfl rfl (yielded_of rfl G2) (v := .int .i64 (m : Int)) (w' := W) (by simp [execOp, go_sem, E41, hq8]) ⟨hIW, fun _ h => h, Or.inl ⟨_, by decide, rfl, updF_same _ _ _⟩⟩
        | 9, _, hdep =>
          have G2 : a1.tmps[36]? = some (.bool true) := by rw [← ha1]; exact (putsL_some _ _ _ _ (by decide) (show 36 < 56 from by decide)).trans (congrArg some (hdep 2 (by kernel_rfl)))
          have E40 : a1.tmps[40]?.getD undef = .slice (some ⟨b, o, none⟩) (m + 1) cap := by rw [← ha1]; exact (putsL_in2 _ _ _ _ (by decide) (show 40 < 56 from by decide)).trans (hdep 6 (by kernel_rfl))
          have E42 : a1.tmps[42]?.getD undef = .int .i64 (m : Int) := by rw [← ha1]; exact (putsL_in2 _ _ _ _ (by decide) (show 42 < 56 from by decide)).trans (hdep 8 (by kernel_rfl))
          exact wpOp_valG rfl rfl (yielded_of rfl G2) (v := .pointer (some ⟨b, o + m * 8, none⟩)) (w' := W) (by simp [execOp, go_sem, E40, E42, hm0, hm2]) ⟨hIW, fun _ h => h, Or.inl ⟨_, by decide, rfl, updF_same _ _ _⟩⟩
        | 10, _, hdep =>
          have G2 : a1.tmps[36]? = some (.bool true) := by rw [← ha1]; exact (putsL_some _ _ _ _ (by decide) (show 36 < 56 from by decide)).trans (congrArg some (hdep 2 (by kernel_rfl)))
          have E43 : a1.tmps[43]?.getD undef = .pointer (some ⟨b, o + m * 8, none⟩) := by rw [← ha1]; exact (putsL_in2 _ _ _ _ (by decide) (show 43 < 56 from by decide)).trans (hdep 9 (by kernel_rfl))
          exact wpOp_valG rfl rfl (yielded_of rfl G2) (v := .pointer (some ⟨b, o + m * 8 + 1, none⟩)) (w' := W) (by simp [execOp, go_sem, E43]) ⟨hIW, fun _ h => h, Or.inl ⟨_, by decide, rfl, updF_same _ _ _⟩⟩
        | 11, _, hdep =>
          have G2 : a1.tmps[36]? = some (.bool true) := by rw [← ha1]; exact (putsL_some _ _ _ _ (by decide) (show 36 < 56 from by decide)).trans (congrArg some (hdep 2 (by kernel_rfl)))
          have E44 : a1.tmps[44]?.getD undef = .pointer (some ⟨b, o + m * 8 + 1, none⟩) := by rw [← ha1]; exact (putsL_in2 _ _ _ _ (by decide) (show 44 < 56 from by decide)).trans (hdep 10 (by kernel_rfl))
          exact wpOp_valG rfl rfl (yielded_of rfl G2) (v := .int .i64 y1) (w' := W) (by simp [execOp, go_sem, E44, HC1.out W hIW]) ⟨hIW, fun _ h => h, Or.inl ⟨_, by decide, rfl, updF_same _ _ _⟩⟩
        | 12, _, hdep =>
          have G2 : a1.tmps[36]? = some (.bool true) := by rw [← ha1]; exact (putsL_some _ _ _ _ (by decide) (show 36 < 56 from by decide)).trans (congrArg some (hdep 2 (by kernel_rfl)))
          have E38 : a1.tmps[38]?.getD undef = .int .i64 x1 := by rw [← ha1]; exact (putsL_in2 _ _ _ _ (by decide) (show 38 < 56 from by decide)).trans (hdep 4 (by kernel_rfl))
          have E45 : a1.tmps[45]?.getD undef = .int .i64 y1 := by rw [← ha1]; exact (putsL_in2 _ _ _ _ (by decide) (show 45 < 56 from by decide)).trans (hdep 11 (by kernel_rfl))
          exact wpOp_valG rfl rfl (yielded_of rfl G2) (v := .bool false) (w' := W) (by simp [execOp, go_sem, E38, E45, hq7]) ⟨hIW, fun _ h => h, Or.inl ⟨_, by decide, rfl, updF_same _ _ _⟩⟩
        | 13, _, hdep =>
          have E36 : a1.tmps[36]?.getD undef = .bool true := by rw [← ha1]; exact (putsL_in2 _ _ _ _ (by decide) (show 36 < 56 from by decide)).trans (hdep 2 (by kernel_rfl))
          have E46 : a1.tmps[46]?.getD undef = .bool false := by rw [← ha1]; exact (putsL_in2 _ _ _ _ (by decide) (show 46 < 56 from by decide)).trans (hdep 12 (by kernel_rfl))
          exact wpOp_val rfl rfl (v := .bool false) (w' := W) (by simp [execOp, go_sem, E36, E46]) ⟨hIW, fun _ h => h, Or.inl ⟨_, by decide, rfl, updF_same _ _ _⟩⟩
        | 14, _, hdep =>
          have E47 : a1.tmps[47]?.getD undef = .bool false := by rw [← ha1]; exact (putsL_in2 _ _ _ _ (by decide) (show 47 < 56 from by decide)).trans (hdep 13 (by kernel_rfl))
          exact wpOp_val rfl rfl (v := .bool false) (w' := W) (by simp [execOp, go_sem, E47]) ⟨hIW, fun _ h => h, Or.inl ⟨_, by decide, rfl, updF_same _ _ _⟩⟩
        | iq + 15, h, _ => exact absurd h (by omega)
      case refine_2 =>
        intro f W hIW hR
        have h33 : f 33 = .bool false := hR 14 (show 14 < 15 from by decide)
        simp only [putsL, List.foldl_cons, List.foldl_nil, Act.put, List.setIfInBounds_toArray, List.set_cons_zero, List.set_cons_succ]
        go_wp2
        go_meet
        exact ⟨(by first | rfl | exact h33), Lib.hid hIW⟩
    case rest =>
      obtain ⟨rfl, HJX⟩ := hcut
      clear HJ0
      go_upto_region 13 with fail
      obtain ⟨P, hP⟩ : ∃ P : Nat → Value → World → Prop, P = fun j v W => match j with | 0 => (v = .pointer (some ⟨w.heap.size, 0, none⟩)) | 1 => (v = .slice (some ⟨b, o, none⟩) (m + 1) cap) | 2 => (∃ cv, v = cv ∧ W.ownsRow w2.heap.size 55 8 cv ((m + 1)) (CL)) | 3 => (v = .agg #[.int .i64 x0, .int .i64 x1, .int .i64 x2, .int .i64 x3, .int .i64 x4, .int .i64 x5, .int .i64 x6, .int .i64 x7]) | 4 => (∃ bq, v = .slice (some ⟨bq, 0, none⟩) 1 1 ∧ W.heap[bq]? = some (.cells #[.int .i64 x0, .int .i64 x1, .int .i64 x2, .int .i64 x3, .int .i64 x4, .int .i64 x5, .int .i64 x6, .int .i64 x7] 55 (0, 0))) | _ => True := ⟨_, rfl⟩
      have HPI0 : Hid (∀ v W, P 0 v W ↔ (v = .pointer (some ⟨w.heap.size, 0, none⟩))) := Lib.hid fun v W => by rw [hP] <;> exact Iff.rfl
      have HPI1 : Hid (∀ v W, P 1 v W ↔ (v = .slice (some ⟨b, o, none⟩) (m + 1) cap)) := Lib.hid fun v W => by rw [hP] <;> exact Iff.rfl
      have HPI2 : Hid (∀ v W, P 2 v W ↔ (∃ cv, v = cv ∧ W.ownsRow w2.heap.size 55 8 cv ((m + 1)) (CL))) := Lib.hid fun v W => by rw [hP] <;> exact Iff.rfl
      have HPI3 : Hid (∀ v W, P 3 v W ↔ (v = .agg #[.int .i64 x0, .int .i64 x1, .int .i64 x2, .int .i64 x3, .int .i64 x4, .int .i64 x5, .int .i64 x6, .int .i64 x7])) := Lib.hid fun v W => by rw [hP] <;> exact Iff.rfl
      have HPI4 : Hid (∀ v W, P 4 v W ↔ (∃ bq, v = .slice (some ⟨bq, 0, none⟩) 1 1 ∧ W.heap[bq]? = some (.cells #[.int .i64 x0, .int .i64 x1, .int .i64 x2, .int .i64 x3, .int .i64 x4, .int .i64 x5, .int .i64 x6, .int .i64 x7] 55 (0, 0)))) := Lib.hid fun v W => by rw [hP] <;> exact Iff.rfl
      have HKP : Hid (∀ (j : Nat) v W W', Below W.heap.size W W' → P j v W → P j v W') := Lib.hid (by
        rw [hP]
        intro j v W W' hb h
        match j, h with
        | 0, h => exact h
        | 1, h => exact h
        | 2, ⟨cv, e, s0⟩ => exact ⟨cv, e, ownsRow_below s0 hb⟩
        | 3, h => exact h
        | 4, ⟨bq, e, s0⟩ => exact ⟨bq, e, obj_below s0 hb⟩
        | j + 5, _ => trivial)
      clear hP
      refine wp_region_tail [49, 50, 51, 52, 53, 54, 55, 5] (slotS [49, 50, 51, 52, 53]) (readsS [49, 50, 51, 52, 53]) (RP [49, 50, 51, 52, 53] P) J (fun k f W => match k with | 0 => (∃ (cv : Value) (bq : Nat), f 51 = cv ∧ f 53 = .slice (some ⟨bq, 0, none⟩) 1 1 ∧ J W ∧ W.ownsRow w2.heap.size 55 8 cv ((m + 1)) (CL) ∧ W.heap[bq]? = some (.cells #[.int .i64 x0, .int .i64 x1, .int .i64 x2, .int .i64 x3, .int .i64 x4, .int .i64 x5, .int .i64 x6, .int .i64 x7] 55 (0, 0))) | 1 => (∃ uq : Value, f 54 = uq ∧ J W ∧ W.ownsRow w2.heap.size 55 8 uq ((m + 1) + 1) (CL ++ [.int .i64 x0, .int .i64 x1, .int .i64 x2, .int .i64 x3, .int .i64 x4, .int .i64 x5, .int .i64 x6, .int .i64 x7])) | 2 => (∃ uq : Value, f 55 = .agg #[uq] ∧ J W ∧ W.ownsRow w2.heap.size 55 8 uq ((m + 1) + 1) (CL ++ [.int .i64 x0, .int .i64 x1, .int .i64 x2, .int .i64 x3, .int .i64 x4, .int .i64 x5, .int .i64 x6, .int .i64 x7])) | 3 => (∃ uq : Value, Below w.heap.size w W ∧ W.heap[w.heap.size + 2]? = some (.cells #[uq] 27 (0, 0)) ∧ W.ownsRow w.heap.size 55 8 uq ((m + 1) + 1) (CL ++ [.int .i64 x0, .int .i64 x1, .int .i64 x2, .int .i64 x3, .int .i64 x4, .int .i64 x5, .int .i64 x6, .int .i64 x7])) | _ => (∃ uq : Value, f 5 = .int .i64 0 ∧ Below w.heap.size w W ∧ W.heap[w.heap.size + 2]? = some (.cells #[uq] 27 (0, 0)) ∧ W.ownsRow w.heap.size 55 8 uq ((m + 1) + 1) (CL ++ [.int .i64 x0, .int .i64 x1, .int .i64 x2, .int .i64 x3, .int .i64 x4, .int .i64 x5, .int .i64 x6, .int .i64 x7]))) 5 8 (by decide) (by kernel_rfl) (by kernel_rfl) (by kernel_rfl) (by kernel_rfl) (HJD.out _ HJX.out) (fun j f q v W hq h => RP.upd hq h) ?_ ?_ ?_ ?_
      case refine_1 =>
        intro iq hiq f W hIW hdep0
        have hdep : ∀ j, depB _ iq j = true → P j (f (slotS [49, 50, 51, 52, 53] j)) W := hdep0
        clear hdep0
        generalize ha1 : putsL _ [49, 50, 51, 52, 53, 54, 55, 5] f = a1
        match iq, hiq, hdep with
        | 0, _, hdep0 =>
          have E2 : a1.tmps[2]?.getD undef = .pointer (some ⟨w.heap.size, 0, none⟩) := by rw [← ha1]; exact (putsL_out2 _ _ _ _ (by decide)).trans rfl
          exact wpOp_val rfl rfl (v := .pointer (some ⟨w.heap.size, 0, none⟩)) (w' := W) (by simp [execOp, go_sem, E2]) ⟨hIW, fun _ h => h, _, by decide, rfl, RP.set ((HPI0.out _ _).2 rfl)⟩
        | 1, _, hdep0 =>
          have hd0 := (HPI0.out _ _).1 (hdep0 0 (by kernel_rfl))
          have E49 : a1.tmps[49]?.getD undef = .pointer (some ⟨w.heap.size, 0, none⟩) := by rw [← ha1]; exact (putsL_in2 _ _ _ _ (by decide) (show 49 < 56 from by decide)).trans hd0
          have v0 : W.cell? ⟨w.heap.size, 0, none⟩ = some (.slice (some ⟨b, o, none⟩) (m + 1) cap) := by simpa using HML.out W hIW 0
          exact wpOp_val rfl rfl (v := .slice (some ⟨b, o, none⟩) (m + 1) cap) (w' := W) (by simp [execOp, go_sem, E49, v0]) ⟨hIW, fun _ h => h, _, by decide, rfl, RP.set ((HPI1.out _ _).2 rfl)⟩
        | 2, _, hdep0 =>
          have hd1 := (HPI1.out _ _).1 (hdep0 1 (by kernel_rfl))
          have E50 : a1.tmps[50]?.getD undef = .slice (some ⟨b, o, none⟩) (m + 1) cap := by rw [← ha1]; exact (putsL_in2 _ _ _ _ (by decide) (show 50 < 56 from by decide)).trans hd1
          refine wpOp_fresh rfl rfl (.const (.slice none 0 0)) (.tmp 50) 25 rfl w2.heap.size 55 i0 (.agg #[.int .i64 0, .int .i64 0, .int .i64 0, .int .i64 0, .int .i64 0, .int .i64 0, .int .i64 0, .int .i64 0]) 8 64 Try.underlying25 hi0 hz0 hz1 hz2 rfl (by decide) rfl (some ⟨b, o, none⟩) ((m + 1)) cap CL ?_ HCLN.out (by first | exact HNW.out W hIW | exact Or.inl rfl) HONE.out (by unfold maxLen; omega) (by omega) (HJO.out W hIW).size ?_
          · show a1.tmps.getD 50 undef = _
            rw [Array.getD_eq_getD_getElem?]
            exact E50
          · intro v' w' h2 h3
            have hb' : Below W.heap.size W w' := (Below.refl _ W).grown h3 (Nat.le_refl _) (fun j e => by cases e)
            have hJ' : J w' := HJI.out _ ((HJO.out W hIW).trans (hb'.mono (HJO.out W hIW).size))
            exact ⟨hJ', fun j h => HKP.out j _ _ _ hb' h, _, by decide, rfl, RP.set ((HPI2.out _ _).2 ⟨_, rfl, h2⟩)⟩
        | 3, _, hdep0 =>
          have E3 : a1.tmps[3]?.getD undef = .pointer (some ⟨w.heap.size + 1, 0, none⟩) := by rw [← ha1]; exact (putsL_out2 _ _ _ _ (by decide)).trans rfl
          have v0 : W.cell? ⟨w.heap.size + 1, 0, none⟩ = some (.int .i64 x0) := by simpa using HMP.out W hIW 0
          have v1 : W.cell? ⟨w.heap.size + 1, 1, none⟩ = some (.int .i64 x1) := by simpa using HMP.out W hIW 1
          have v2 : W.cell? ⟨w.heap.size + 1, 2, none⟩ = some (.int .i64 x2) := by simpa using HMP.out W hIW 2
          have v3 : W.cell? ⟨w.heap.size + 1, 3, none⟩ = some (.int .i64 x3) := by simpa using HMP.out W hIW 3
          have v4 : W.cell? ⟨w.heap.size + 1, 4, none⟩ = some (.int .i64 x4) := by simpa using HMP.out W hIW 4
          have v5 : W.cell? ⟨w.heap.size + 1, 5, none⟩ = some (.int .i64 x5) := by simpa using HMP.out W hIW 5
          have v6 : W.cell? ⟨w.heap.size + 1, 6, none⟩ = some (.int .i64 x6) := by simpa using HMP.out W hIW 6
          have v7 : W.cell? ⟨w.heap.size + 1, 7, none⟩ = some (.int .i64 x7) := by simpa using HMP.out W hIW 7
          exact wpOp_val rfl rfl (v := .agg #[.int .i64 x0, .int .i64 x1, .int .i64 x2, .int .i64 x3, .int .i64 x4, .int .i64 x5, .int .i64 x6, .int .i64 x7]) (w' := W) (by simp [execOp, go_sem, E3, v0, v1, v2, v3, v4, v5, v6, v7]) ⟨hIW, fun _ h => h, _, by decide, rfl, RP.set ((HPI3.out _ _).2 rfl)⟩
        | 4, _, hdep0 =>
          have hd3 := (HPI3.out _ _).1 (hdep0 3 (by kernel_rfl))
          have E52 : a1.tmps[52]?.getD undef = .agg #[.int .i64 x0, .int .i64 x1, .int .i64 x2, .int .i64 x3, .int .i64 x4, .int .i64 x5, .int .i64 x6, .int .i64 x7] := by rw [← ha1]; exact (putsL_in2 _ _ _ _ (by decide) (show 52 < 56 from by decide)).trans hd3
          exact wpOp_val rfl rfl (v := .slice (some ⟨W.heap.size, 0, none⟩) 1 1) (w' := W.alloc (.cells #[.int .i64 x0, .int .i64 x1, .int .i64 x2, .int .i64 x3, .int .i64 x4, .int .i64 x5, .int .i64 x6, .int .i64 x7] 55)) (by simp [execOp, go_sem, E52]) ⟨(HJA.out _ _ hIW), fun j h => HKP.out j _ _ _ (below_alloc _ _) h, _, by decide, rfl, RP.set ((HPI4.out _ _).2 ⟨_, rfl, heap_alloc_new _ _⟩)⟩
        | iq + 5, h, _ => exact absurd h (by omega)
      case refine_2 =>
        intro f W hIW hR
        have h51 := (HPI2.out _ _).1 (hR 2 (by decide))
        have h53 := (HPI4.out _ _).1 (hR 4 (by decide))
        obtain ⟨cv, h51, hown⟩ := h51
        obtain ⟨bq, h53, hbq⟩ := h53
        exact ⟨cv, bq, h51, h53, hIW, hown, hbq⟩
      case refine_3 =>
        intro iq hsq hiq f W hIt0
        have hiq2 : iq < 9 := hiq
        have hIt := hIt0
        clear hIt0
        rcases (show iq = 5 ∨ iq = 6 ∨ iq = 7 ∨ iq = 8 by omega) with rfl | rfl | rfl | rfl
        · clear hsq hiq hiq2
          obtain ⟨cv, bq, h46, h48, hIW, hown, hbq⟩ := hIt
          refine wpOp_append rfl rfl (.tmp 51) (.tmp 53) 25 rfl w2.heap.size 55 i0 (.agg #[.int .i64 0, .int .i64 0, .int .i64 0, .int .i64 0, .int .i64 0, .int .i64 0, .int .i64 0, .int .i64 0]) 8 64 Try.underlying25 hi0 hz0 hz1 hz2 rfl (by decide) cv ((m + 1)) CL ?_ hown ⟨bq, 0, none⟩ 1 1 [.int .i64 x0, .int .i64 x1, .int .i64 x2, .int .i64 x3, .int .i64 x4, .int .i64 x5, .int .i64 x6, .int .i64 x7] ?_ rfl (obj_new_cells hbq) (pstF.one ⟨x0, x1, x2, x3, x4, x5, x6, x7⟩) (by unfold maxLen; omega) (by omega) (HJO.out W hIW).size ?_
          · exact (putsL_in _ _ _ _ (by decide) (show 51 < 56 from by decide)).trans h46
          · exact (putsL_in _ _ _ _ (by decide) (show 53 < 56 from by decide)).trans h48
          · intro v' w' h2 h3
            have hnew : ∃ uq : Value, updF f 54 v' 54 = uq ∧ J w' ∧ w'.ownsRow w2.heap.size 55 8 uq ((m + 1) + 1) (CL ++ [.int .i64 x0, .int .i64 x1, .int .i64 x2, .int .i64 x3, .int .i64 x4, .int .i64 x5, .int .i64 x6, .int .i64 x7]) := ⟨v', updF_same _ _ _, HJI.out _ ((HJO.out W hIW).grown h3 (HJO.out W hIW).size fun j e => ownBlock_le hown j e), h2⟩
            exact ⟨updF f 54 v', putsL_put _ _ _ _ _ (by decide), hnew⟩
        · clear hsq hiq hiq2
          obtain ⟨u, h49, hIW, hown⟩ := hIt
          obtain ⟨au, cu, rfl, -, -⟩ := owns_gen hown
          generalize ha1 : putsL _ [49, 50, 51, 52, 53, 54, 55, 5] f = a1
          have E54 : a1.tmps[54]?.getD undef = .slice au ((m + 1) + 1) cu := by rw [← ha1]; exact (putsL_in2 _ _ _ _ (by decide) (show 54 < 56 from by decide)).trans h49
          have hnew : ∃ uq : Value, updF f 55 (.agg #[.slice au ((m + 1) + 1) cu]) 55 = .agg #[uq] ∧ J W ∧ W.ownsRow w2.heap.size 55 8 uq ((m + 1) + 1) (CL ++ [.int .i64 x0, .int .i64 x1, .int .i64 x2, .int .i64 x3, .int .i64 x4, .int .i64 x5, .int .i64 x6, .int .i64 x7]) := ⟨_, updF_same _ _ _, hIW, hown⟩
          exact wpOp_val rfl rfl (v := .agg #[.slice au ((m + 1) + 1) cu]) (w' := W) (by simp [execOp, go_sem, E54]) ⟨updF f 55 (.agg #[.slice au ((m + 1) + 1) cu]), by rw [← ha1]; exact putsL_put _ _ _ _ _ (by decide), hnew⟩
        · clear hsq hiq hiq2
          obtain ⟨u, h50, hIW, hown⟩ := hIt
          obtain ⟨au, cu, rfl, -, -⟩ := owns_gen hown
          generalize ha1 : putsL _ [49, 50, 51, 52, 53, 54, 55, 5] f = a1
          have E55 : a1.tmps[55]?.getD undef = .agg #[.slice au ((m + 1) + 1) cu] := by rw [← ha1]; exact (putsL_in2 _ _ _ _ (by decide) (show 55 < 56 from by decide)).trans h50
          have E4 : a1.tmps[4]?.getD undef = .pointer (some ⟨w.heap.size + 2, 0, none⟩) := by rw [← ha1]; exact (putsL_out2 _ _ _ _ (by decide)).trans rfl
          have hR := HMR.out W hIW
          have p0 := obj_cell hR 0
          have f0 := obj_free hR 0
          simp at p0
          have hg : W.grownBy (W.setCell ⟨w.heap.size + 2, 0, none⟩ (.slice au ((m + 1) + 1) cu)) (some (w.heap.size + 2)) := setCell_grown _ _
          have hset := obj_set hR 0 (.slice au ((m + 1) + 1) cu)
          simp only [List.setIfInBounds_toArray, List.set_cons_zero] at hset
          have hnew : ∃ uq : Value, Below w.heap.size w (W.setCell ⟨w.heap.size + 2, 0, none⟩ (.slice au ((m + 1) + 1) cu)) ∧ (W.setCell ⟨w.heap.size + 2, 0, none⟩ (.slice au ((m + 1) + 1) cu)).heap[w.heap.size + 2]? = some (.cells #[uq] 27 (0, 0)) ∧ (W.setCell ⟨w.heap.size + 2, 0, none⟩ (.slice au ((m + 1) + 1) cu)).ownsRow w.heap.size 55 8 uq ((m + 1) + 1) (CL ++ [.int .i64 x0, .int .i64 x1, .int .i64 x2, .int .i64 x3, .int .i64 x4, .int .i64 x5, .int .i64 x6, .int .i64 x7]) := ⟨_, (HB2.out.trans ((HJO.out W hIW).mono HB2.out.size)).grown hg (HB2.out.trans ((HJO.out W hIW).mono HB2.out.size)).size (fun j e => by injection e with e; omega), hset, ownsRow_mono (hown.kept hg (ownBlock_ne hown _ hrb)) HB2.out.size⟩
          exact wpOp_skip rfl rfl (w' := W.setCell ⟨w.heap.size + 2, 0, none⟩ (.slice au ((m + 1) + 1) cu)) (by simp [execOp, go_sem, E4, E55, p0, f0]) ⟨f, ha1.symm, hnew⟩
        · clear hsq hiq hiq2
          obtain ⟨u, hbw, hset, hown⟩ := hIt
          generalize ha1 : putsL _ [49, 50, 51, 52, 53, 54, 55, 5] f = a1
          have hnew : ∃ uq : Value, updF f 5 (.int .i64 0) 5 = .int .i64 0 ∧ Below w.heap.size w W ∧ W.heap[w.heap.size + 2]? = some (.cells #[uq] 27 (0, 0)) ∧ W.ownsRow w.heap.size 55 8 uq ((m + 1) + 1) (CL ++ [.int .i64 x0, .int .i64 x1, .int .i64 x2, .int .i64 x3, .int .i64 x4, .int .i64 x5, .int .i64 x6, .int .i64 x7]) := ⟨u, updF_same _ _ _, hbw, hset, hown⟩
          exact wpOp_val rfl rfl (v := .int .i64 0) (w' := W) (by simp [execOp, go_sem]) ⟨updF f 5 (.int .i64 0), by rw [← ha1]; exact putsL_put _ _ _ _ _ (by decide), hnew⟩
      case refine_4 =>
        intro f W hIt
        simp only [putsL, List.foldl_cons, List.foldl_nil, Act.put, List.setIfInBounds_toArray, List.set_cons_zero, List.set_cons_succ]
        obtain ⟨u, h5, hbw, hset, hown⟩ := hIt
        have p0 := obj_cell hset 0
        simp at p0
        go_wp2
        refine bodyPost_ret (v := .tuple #[.agg #[u], .int .i64 0]) (by simp [results, Try.results45, go_sem, p0, h5]) rfl ⟨u, rfl, hown, hbw⟩


end Go.Proofs.Ytoccnindkimjdaa
