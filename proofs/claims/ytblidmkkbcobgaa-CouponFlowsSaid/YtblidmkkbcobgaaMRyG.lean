/- The register's reference: Security of right ones; Check of right registers. -/
import Derived.Test.YtblidmkkbcobgaaMRyF
import Derived.Test.YtblidmkkbcobgaaMEqRyH
import Derived.Test.YtblidmkkbcobgaaMG1
import Derived.Test.YtblidmkkbcobgaaMRegInv
import Derived.Deep.DeepCutAuto
set_option linter.unusedSimpArgs false
set_option linter.unusedVariables false
set_option linter.unusedSimpArgs false
set_option linter.unusedVariables false
namespace Go.Proofs.Ytblidmkkbcobgaa
open Go.RowKit Go.Lib Go.Proofs

theorem tillM_all {day : Int} : ∀ {ms : List Mv}, (∀ m ∈ ms, m.day ≤ day) → tillM day ms = ms
  | [], _ => rfl
  | m :: ms, h => by
    unfold tillM
    rw [List.takeWhile_cons_of_pos (by simpa using h m List.mem_cons_self)]
    exact congrArg _ (tillM_all fun x hx => h x (List.mem_cons_of_mem _ hx))
set_option maxHeartbeats 4000000 in
theorem rySecurity_ok {s : Sec} {z r : Int} (h : SecOk s z r) (w : World) :
    Calls Try.prog 64 #[.agg s.cells.toArray] w fun e w' => e = .returned (.bool true) ∧ Below w.heap.size w w' := by
  obtain ⟨i, u, a, m, q, e, x⟩ := s
  obtain ⟨i0, i1, u0, u1, a0, a1, m1, hr0, ht, hzr, q0, q1, hev⟩ := h
  simp only [Sec.cells] at *
  have hz : 1 ≤ z * r := by
    rcases hev with ⟨_, _, rfl⟩ | ⟨_, rfl⟩ | ⟨_, rfl⟩ | ⟨_, rfl⟩ | ⟨_, rfl⟩ <;> omega
  have t0 : 30 ≤ m - a := by omega
  have t1 : m - a ≤ 18000 := by omega
  have t2 : (m - a) % 30 = 0 := by omega
  have m0 : a + 30 ≤ m := by omega
  have m2 : m ≤ a + 18000 := by omega
  rcases hev with ⟨rfl, rfl, rfl⟩ | ⟨rfl, rfl⟩ | ⟨rfl, rfl⟩ | ⟨rfl, rfl⟩ | ⟨rfl, rfl⟩
  · have t3 : (m - a) % 30 = 0 := by omega
    clear ht hzr hr0 hz
    go_enter Try.func64, Try.ntmps64
    go_wp2
    go_ret
    exact ⟨rfl, below_alloc w _⟩
  · have t3 : (m - a) % 30 = 0 := by omega
    clear ht hzr hr0 hz
    go_enter Try.func64, Try.ntmps64
    go_wp2
    go_ret
    exact ⟨rfl, below_alloc w _⟩
  · have t3 : (m - a) % 90 = 0 := by omega
    clear ht hzr hr0 hz
    go_enter Try.func64, Try.ntmps64
    go_wp2
    go_ret
    exact ⟨rfl, below_alloc w _⟩
  · have t3 : (m - a) % 180 = 0 := by omega
    clear ht hzr hr0 hz
    go_enter Try.func64, Try.ntmps64
    go_wp2
    go_ret
    exact ⟨rfl, below_alloc w _⟩
  · have t3 : (m - a) % 360 = 0 := by omega
    clear ht hzr hr0 hz
    go_enter Try.func64, Try.ntmps64
    go_wp2
    go_ret
    exact ⟨rfl, below_alloc w _⟩

set_option maxRecDepth 100000 in
set_option maxHeartbeats 16000000 in
theorem ryCheck_ok (r : Reg) (x y z : Value) (w : World) (h : RegOk r) (hr : RegAt w x y z r) :
    Calls Try.prog 52 #[.agg #[x, y, z]] w fun e w' => e = .returned (.int .i64 0) ∧ Below w.heap.size w w' := by
  have H := Lib.hid h
  have HR := Lib.hid hr
  have HT : Hid (tillM 36000 r.ms = r.ms) := Lib.hid (by
    refine tillM_all fun m hm => ?_
    obtain ⟨l', bd, s, hk⟩ := replay_mem (fun s hs => (h.secs.bound s hs).2.2) h.run m hm
    exact hk.day2)
  have hlen := h.secs.len
  have hml := h.len
  obtain ⟨ao, cap, hxe, hcap, hcs⟩ := hr.secs.shape secF
  have HCS := Lib.hid hcs
  obtain ⟨n, hn⟩ : ∃ n, n = r.secs.length := ⟨_, rfl⟩
  have HN := Lib.hid hn
  rw [← hn] at hcap hlen hxe
  obtain ⟨aM, cM, hze, hcapM, hcsM⟩ := hr.ms.shape mvF
  have HCM := Lib.hid hcsM
  obtain ⟨nM, hnM⟩ : ∃ n, n = r.ms.length := ⟨_, rfl⟩
  have HNM := Lib.hid hnM
  rw [← hnM] at hcapM hml hze
  subst hxe hze
  have HUN : Hid (∀ W, Below w.heap.size w W → Calls Try.prog 102 #[.agg #[.slice ao n cap, y, .slice aM nM cM], .int .i64 36000] W fun e w' => ∃ u, e = .returned (.tuple #[u, .bool true]) ∧ w'.ownsRow W.heap.size 53 3 u r.hs.length (cellsL hldC r.hs) ∧ Below W.heap.size W w') := Lib.hid fun W hW => by
    refine (ryuntil_ok r _ _ _ 36000 W H.out (HR.out.below hW)).mono ?_
    rintro e w' ⟨u, k, rfl, hk, ho, hb⟩
    rw [HT.out, H.out.run] at hk
    injection hk with hk
    rw [hk]
    exact ⟨u, rfl, ho, hb⟩
  have HB0 := Lib.hid (below_alloc w (.cells #[.slice ao n cap, y, .slice aM nM cM] 29))
  have HA0 := Lib.hid (heap_alloc_new w (.cells #[.slice ao n cap, y, .slice aM nM cM] 29))
  obtain ⟨W1, hW1⟩ : ∃ W1, W1 = w.alloc (.cells #[.slice ao n cap, y, .slice aM nM cM] 29) := ⟨_, rfl⟩
  rw [← hW1] at HB0 HA0
  obtain ⟨bR, hbR⟩ : ∃ b, b = w.heap.size := ⟨_, rfl⟩
  have hA0 := HA0.out
  have a0 := obj_cell hA0 0
  have a1 := obj_cell hA0 1
  have a2 := obj_cell hA0 2
  simp at a0 a1 a2
  rw [← hbR] at a0 a1 a2 HA0
  have HRG : Hid (∀ W, Below W1.heap.size W1 W → W.heap[bR]? = some (.cells #[.slice ao n cap, y, .slice aM nM cM] 29 (0, 0))) := Lib.hid fun W hW => obj_below HA0.out hW
  have HBE : Hid (∀ W, Below W1.heap.size W1 W → Below w.heap.size w W) := Lib.hid fun W hW => HB0.out.trans (hW.mono HB0.out.size)
  have HSZ : Hid (w.heap.size ≤ W1.heap.size) := Lib.hid HB0.out.size
  clear hn hnM hcs hcsM h hr hA0
  have hb20 : ¬ (20 : Int) < (n : Int) := by omega
  have hb400 : ¬ (400 : Int) < (nM : Int) := by omega
  go_enter Try.func52, Try.ntmps52
  go_upto_region 1 with fail
  rw [← hbR, ← hW1]
  clear hW1 hbR
  go_wp2
  go_loopw [22] (fun i wr => ∃ k : Nat, i = .int .i64 k ∧ k ≤ n ∧ Hid (Below W1.heap.size W1 wr)) (fun i _ => n - (RowKit.intOf i).toNat)
  case atStart => exact ⟨0, rfl, by omega, Lib.hid (Below.refl _ _)⟩
  case round =>
    clear a0 a1 a2
    obtain ⟨k, rfl, hkn, HB⟩ := hrel
    by_cases hlt : k < n
    · have hkl' : k < r.secs.length := by rw [← HN.out]; exact hlt
      obtain ⟨b, o, rfl, hb, hcc⟩ := HCS.out (by omega)
      have HBW := Lib.hid (HBE.out _ HB.out)
      have hcell := fun j (hj : j < 7) => (HBW.out.cell (p := ⟨b, o + k * 7 + j, none⟩) hb).trans (hcc k hkl' j hj)
      have HPV : Hid (∀ m, k = m + 1 → ∃ y0, (∀ W, Below w.heap.size w W → W.cell? ⟨b, o + m * 7, none⟩ = some (.int .i64 y0)) ∧ y0 < (r.secs[k]).id) := Lib.hid fun m hm => by
        subst hm
        have hm : m < r.secs.length := by omega
        exact ⟨(r.secs[m]).id, fun W hW => (hW.cell (p := ⟨b, o + m * 7, none⟩) hb).trans ((hcc m hm 0 (by omega)).trans rfl), List.pairwise_iff_getElem.1 H.out.secs.asc m (m + 1) (by omega) hkl' (by omega)⟩
      obtain ⟨zz, rr, hzr⟩ := H.out.secs.ok _ (List.getElem_mem hkl')
      have HSO := Lib.hid (fun W => rySecurity_ok hzr W)
      generalize r.secs[k] = x at *
      obtain ⟨x0, x1, x2, x3, x4, x5, x6⟩ := x
      simp only [Sec.cells] at HSO
      simp only at HPV
      have c0 := hcell 0 (by omega)
      have c1 := hcell 1 (by omega)
      have c2 := hcell 2 (by omega)
      have c3 := hcell 3 (by omega)
      have c4 := hcell 4 (by omega)
      have c5 := hcell 5 (by omega)
      have c6 := hcell 6 (by omega)
      simp [Sec.cells] at c0 c1 c2 c3 c4 c5 c6
      have hk0 : (0 : Int) ≤ (k : Int) := by omega
      have hk1 : (k : Int) < (n : Int) := by omega
      clear hcell hcc hkl' hzr
      go_upto_region 6 with fail
      obtain ⟨w6, hw6⟩ : ∃ w6, w6 = wr.alloc (.cells #[.int .i64 x0, .int .i64 x1, .int .i64 x2, .int .i64 x3, .int .i64 x4, .int .i64 x5, .bool x6] 55) := ⟨_, rfl⟩
      obtain ⟨bK, hbK⟩ : ∃ bK, bK = wr.heap.size := ⟨_, rfl⟩
      have HK6 : Hid (w6.heap[bK]? = some (.cells #[.int .i64 x0, .int .i64 x1, .int .i64 x2, .int .i64 x3, .int .i64 x4, .int .i64 x5, .bool x6] 55 (0, 0))) := Lib.hid (by rw [hw6, hbK]; exact heap_alloc_new wr _)
      have HB6 : Hid (Below W1.heap.size W1 w6) := Lib.hid (by rw [hw6]; exact HB.out.alloc HB.out.size _)
      rw [← hw6, ← hbK]
      obtain ⟨J, hJ⟩ : ∃ J, J = fun W : World => Below w6.heap.size w6 W := ⟨_, rfl⟩
      have HJO : Hid (∀ W, J W → Below w6.heap.size w6 W) := Lib.hid fun W hW => by rw [hJ] at hW; exact hW
      have HJI : Hid (∀ W, Below w6.heap.size w6 W → J W) := Lib.hid fun W hW => by rw [hJ]; exact hW
      have HJD : Hid (∀ W, J W → J W.drew) := Lib.hid fun W hW => HJI.out _ ((HJO.out W hW).drew)
      have HJ0 : Hid (J w6) := Lib.hid (HJI.out _ (Below.refl _ _))
      have HCK : Hid (∀ W, J W → ∀ j, W.cell? ⟨bK, j, none⟩ = #[.int .i64 x0, .int .i64 x1, .int .i64 x2, .int .i64 x3, .int .i64 x4, .int .i64 x5, .bool x6][j]?) := Lib.hid fun W hW j => obj_cell (obj_below HK6.out (HJO.out W hW)) j
      have HCR : Hid (∀ W, J W → ∀ j, W.cell? ⟨bR, j, none⟩ = #[.slice (some ⟨b, o, none⟩) n cap, y, .slice aM nM cM][j]?) := Lib.hid fun W hW j => obj_cell (HRG.out W (HB6.out.trans ((HJO.out W hW).mono HB6.out.size))) j
      have HF : Hid (∀ W, J W → Calls Try.prog 64 #[.agg #[.int .i64 x0, .int .i64 x1, .int .i64 x2, .int .i64 x3, .int .i64 x4, .int .i64 x5, .bool x6]] W fun e w' => e = .returned (.bool true) ∧ J w') := Lib.hid fun W hW =>
        (HSO.out W).mono fun e w' g => ⟨g.1, HJI.out _ ((HJO.out W hW).trans (g.2.mono (HJO.out W hW).size))⟩
      have egF := enters_of Try.func64 (by kernel_rfl) rfl
      clear hJ hw6 hbK c0 c1 c2 c3 c4 c5 c6
      cases k with
      | zero =>
        have hq6 : ¬ (0 : Int) < 0 := by omega
        clear HPV
        go_cut [45] (fun c wx => c = .bool false ∧ Hid (J wx))
        case first =>
          refine wp_region_props [27, 28, 29, 30, 31, 32, 33, 34, 35, 36, 37, 38, 39, 40, 41, 42, 43, 44, 45] (slotS [27, 28, 29, 30, 31, 32, 33, 34, 35, 36, 37, 38, 39, 40, 41, 42, 43, 44, 45]) (readsS [27, 28, 29, 30, 31, 32, 33, 34, 35, 36, 37, 38, 39, 40, 41, 42, 43, 44, 45]) (RTs [27, 28, 29, 30, 31, 32, 33, 34, 35, 36, 37, 38, 39, 40, 41, 42, 43, 44, 45] [.agg #[.int .i64 x0, .int .i64 x1, .int .i64 x2, .int .i64 x3, .int .i64 x4, .int .i64 x5, .bool x6], .bool true, .bool false, .bool false, .int .i64 0, .bool false, .bool false, undef, undef, undef, undef, undef, undef, undef, undef, undef, undef, .bool false, .bool false]) J (by kernel_rfl) (by kernel_rfl) (by kernel_rfl) (HJD.out _ HJ0.out) (fun j f q v W hq h => RTs.upd hq h) ?_ ?_
          case refine_1 =>
            intro iq hiq f W hIW hdep
            have hiq' : iq < 19 := hiq
            generalize ha1 : putsL _ [27, 28, 29, 30, 31, 32, 33, 34, 35, 36, 37, 38, 39, 40, 41, 42, 43, 44, 45] f = a1
            match iq, hiq', hdep with
            | 0, _, hdep =>
              have E4 : a1.tmps[4]?.getD undef = .pointer (some ⟨bK, 0, none⟩) := by rw [← ha1]; exact (putsL_out2 _ _ _ _ (by decide)).trans rfl
              have v0 : W.cell? ⟨bK, 0, none⟩ = some (.int .i64 x0) := by simpa using HCK.out W hIW 0
              have v1 : W.cell? ⟨bK, 1, none⟩ = some (.int .i64 x1) := by simpa using HCK.out W hIW 1
              have v2 : W.cell? ⟨bK, 2, none⟩ = some (.int .i64 x2) := by simpa using HCK.out W hIW 2
              have v3 : W.cell? ⟨bK, 3, none⟩ = some (.int .i64 x3) := by simpa using HCK.out W hIW 3
              have v4 : W.cell? ⟨bK, 4, none⟩ = some (.int .i64 x4) := by simpa using HCK.out W hIW 4
              have v5 : W.cell? ⟨bK, 5, none⟩ = some (.int .i64 x5) := by simpa using HCK.out W hIW 5
              have v6 : W.cell? ⟨bK, 6, none⟩ = some (.bool x6) := by simpa using HCK.out W hIW 6
              exact wpOp_val rfl rfl (v := .agg #[.int .i64 x0, .int .i64 x1, .int .i64 x2, .int .i64 x3, .int .i64 x4, .int .i64 x5, .bool x6]) (w' := W) (by simp [execOp, go_sem, E4, v0, v1, v2, v3, v4, v5, v6]) ⟨hIW, fun _ h => h, Or.inl ⟨_, by decide, rfl, updF_same _ _ _⟩⟩
            | 1, _, hdep =>
              have E27 : a1.tmps[27]?.getD undef = .agg #[.int .i64 x0, .int .i64 x1, .int .i64 x2, .int .i64 x3, .int .i64 x4, .int .i64 x5, .bool x6] := by rw [← ha1]; exact (putsL_in2 _ _ _ _ (by decide) (show 27 < 77 from by decide)).trans (hdep 0 (by kernel_rfl))
              refine wpOp_call rfl rfl (n := 64) (vs := #[.agg #[.int .i64 x0, .int .i64 x1, .int .i64 x2, .int .i64 x3, .int .i64 x4, .int .i64 x5, .bool x6]]) (by have := egF #[.agg #[.int .i64 x0, .int .i64 x1, .int .i64 x2, .int .i64 x3, .int .i64 x4, .int .i64 x5, .bool x6]] W; simp [execOp, E27, resolve, invoke, go_sem] <;> exact this) ((HF.out W hIW).mono fun e w' h => (⟨_, h.1, rfl, h.2⟩ : ∃ v, e = .returned v ∧ (v = .bool true ∧ J w'))) ?_
              rintro v w' ⟨rfl, hI'⟩
              exact ⟨hI', fun _ h => h, Or.inl ⟨_, by decide, rfl, updF_same _ _ _⟩⟩
            | 2, _, hdep =>
              have E28 : a1.tmps[28]?.getD undef = .bool true := by rw [← ha1]; exact (putsL_in2 _ _ _ _ (by decide) (show 28 < 77 from by decide)).trans (hdep 1 (by kernel_rfl))
              exact wpOp_val rfl rfl (v := .bool false) (w' := W) (by simp [execOp, go_sem, E28]) ⟨hIW, fun _ h => h, Or.inl ⟨_, by decide, rfl, updF_same _ _ _⟩⟩
            | 3, _, hdep =>
              have E29 : a1.tmps[29]?.getD undef = .bool false := by rw [← ha1]; exact (putsL_in2 _ _ _ _ (by decide) (show 29 < 77 from by decide)).trans (hdep 2 (by kernel_rfl))
              exact wpOp_val rfl rfl (v := .bool false) (w' := W) (by simp [execOp, go_sem, E29]) ⟨hIW, fun _ h => h, Or.inl ⟨_, by decide, rfl, updF_same _ _ _⟩⟩
            | 4, _, hdep =>
              have G3 : a1.tmps[30]? = some (.bool false) := by rw [← ha1]; exact (putsL_some _ _ _ _ (by decide) (show 30 < 77 from by decide)).trans (congrArg some (hdep 3 (by kernel_rfl)))
              have E3 : a1.tmps[3]?.getD undef = .int .i64 0 := by rw [← ha1]; exact (putsL_out2 _ _ _ _ (by decide)).trans rfl
              exact wpOp_valG rfl rfl (yielded_of rfl G3) (v := .int .i64 0) (w' := W) (by simp [execOp, go_sem, E3]) ⟨hIW, fun _ h => h, Or.inl ⟨_, by decide, rfl, updF_same _ _ _⟩⟩
            | 5, _, hdep =>
              have G3 : a1.tmps[30]? = some (.bool false) := by rw [← ha1]; exact (putsL_some _ _ _ _ (by decide) (show 30 < 77 from by decide)).trans (congrArg some (hdep 3 (by kernel_rfl)))
              have E31 : a1.tmps[31]?.getD undef = .int .i64 0 := by rw [← ha1]; exact (putsL_in2 _ _ _ _ (by decide) (show 31 < 77 from by decide)).trans (hdep 4 (by kernel_rfl))
              exact wpOp_valG rfl rfl (yielded_of rfl G3) (v := .bool false) (w' := W) (by simp [execOp, go_sem, E31, hq6]) ⟨hIW, fun _ h => h, Or.inl ⟨_, by decide, rfl, updF_same _ _ _⟩⟩
            | 6, _, hdep =>
              have G3 : a1.tmps[30]? = some (.bool false) := by rw [← ha1]; exact (putsL_some _ _ _ _ (by decide) (show 30 < 77 from by decide)).trans (congrArg some (hdep 3 (by kernel_rfl)))
              have E32 : a1.tmps[32]?.getD undef = .bool false := by rw [← ha1]; exact (putsL_in2 _ _ _ _ (by decide) (show 32 < 77 from by decide)).trans (hdep 5 (by kernel_rfl))
              exact wpOp_valG rfl rfl (yielded_of rfl G3) (v := .bool false) (w' := W) (by simp [execOp, go_sem, E32]) ⟨hIW, fun _ h => h, Or.inl ⟨_, by decide, rfl, updF_same _ _ _⟩⟩
            | 7, _, hdep =>
              have G6 : a1.tmps[33]? = some (.bool false) := by rw [← ha1]; exact (putsL_some _ _ _ _ (by decide) (show 33 < 77 from by decide)).trans (congrArg some (hdep 6 (by kernel_rfl)))
              exact wpOp_off rfl rfl (yielded_of rfl G6) ⟨hIW, fun _ h => h, Or.inl ⟨_, by decide, rfl, updF_same _ _ _⟩⟩
            | 8, _, hdep =>
              have G6 : a1.tmps[33]? = some (.bool false) := by rw [← ha1]; exact (putsL_some _ _ _ _ (by decide) (show 33 < 77 from by decide)).trans (congrArg some (hdep 6 (by kernel_rfl)))
              exact wpOp_off rfl rfl (yielded_of rfl G6) ⟨hIW, fun _ h => h, Or.inl ⟨_, by decide, rfl, updF_same _ _ _⟩⟩
            | 9, _, hdep =>
              have G6 : a1.tmps[33]? = some (.bool false) := by rw [← ha1]; exact (putsL_some _ _ _ _ (by decide) (show 33 < 77 from by decide)).trans (congrArg some (hdep 6 (by kernel_rfl)))
              exact wpOp_off rfl rfl (yielded_of rfl G6) ⟨hIW, fun _ h => h, Or.inl ⟨_, by decide, rfl, updF_same _ _ _⟩⟩
            | 10, _, hdep =>
              have G6 : a1.tmps[33]? = some (.bool false) := by rw [← ha1]; exact (putsL_some _ _ _ _ (by decide) (show 33 < 77 from by decide)).trans (congrArg some (hdep 6 (by kernel_rfl)))
              exact wpOp_off rfl rfl (yielded_of rfl G6) ⟨hIW, fun _ h => h, Or.inl ⟨_, by decide, rfl, updF_same _ _ _⟩⟩
            | 11, _, hdep =>
              have G6 : a1.tmps[33]? = some (.bool false) := by rw [← ha1]; exact (putsL_some _ _ _ _ (by decide) (show 33 < 77 from by decide)).trans (congrArg some (hdep 6 (by kernel_rfl)))
              exact wpOp_off rfl rfl (yielded_of rfl G6) ⟨hIW, fun _ h => h, Or.inl ⟨_, by decide, rfl, updF_same _ _ _⟩⟩
            | 12, _, hdep =>
              have G6 : a1.tmps[33]? = some (.bool false) := by rw [← ha1]; exact (putsL_some _ _ _ _ (by decide) (show 33 < 77 from by decide)).trans (congrArg some (hdep 6 (by kernel_rfl)))
              exact wpOp_off rfl rfl (yielded_of rfl G6) ⟨hIW, fun _ h => h, Or.inl ⟨_, by decide, rfl, updF_same _ _ _⟩⟩
            | 13, _, hdep =>
              have G6 : a1.tmps[33]? = some (.bool false) := by rw [← ha1]; exact (putsL_some _ _ _ _ (by decide) (show 33 < 77 from by decide)).trans (congrArg some (hdep 6 (by kernel_rfl)))
              exact wpOp_off rfl rfl (yielded_of rfl G6) ⟨hIW, fun _ h => h, Or.inl ⟨_, by decide, rfl, updF_same _ _ _⟩⟩
            | 14, _, hdep =>
              have G6 : a1.tmps[33]? = some (.bool false) := by rw [← ha1]; exact (putsL_some _ _ _ _ (by decide) (show 33 < 77 from by decide)).trans (congrArg some (hdep 6 (by kernel_rfl)))
              exact wpOp_off rfl rfl (yielded_of rfl G6) ⟨hIW, fun _ h => h, Or.inl ⟨_, by decide, rfl, updF_same _ _ _⟩⟩
            | 15, _, hdep =>
              have G6 : a1.tmps[33]? = some (.bool false) := by rw [← ha1]; exact (putsL_some _ _ _ _ (by decide) (show 33 < 77 from by decide)).trans (congrArg some (hdep 6 (by kernel_rfl)))
              exact wpOp_off rfl rfl (yielded_of rfl G6) ⟨hIW, fun _ h => h, Or.inl ⟨_, by decide, rfl, updF_same _ _ _⟩⟩
            | 16, _, hdep =>
              have G6 : a1.tmps[33]? = some (.bool false) := by rw [← ha1]; exact (putsL_some _ _ _ _ (by decide) (show 33 < 77 from by decide)).trans (congrArg some (hdep 6 (by kernel_rfl)))
              exact wpOp_off rfl rfl (yielded_of rfl G6) ⟨hIW, fun _ h => h, Or.inl ⟨_, by decide, rfl, updF_same _ _ _⟩⟩
            | 17, _, hdep =>
              have G3 : a1.tmps[30]? = some (.bool false) := by rw [← ha1]; exact (putsL_some _ _ _ _ (by decide) (show 30 < 77 from by decide)).trans (congrArg some (hdep 3 (by kernel_rfl)))
              have E33 : a1.tmps[33]?.getD undef = .bool false := by rw [← ha1]; exact (putsL_in2 _ _ _ _ (by decide) (show 33 < 77 from by decide)).trans (hdep 6 (by kernel_rfl))
              exact wpOp_valG rfl rfl (yielded_of rfl G3) (v := .bool false) (w' := W) (by simp [execOp, go_sem, E33]) ⟨hIW, fun _ h => h, Or.inl ⟨_, by decide, rfl, updF_same _ _ _⟩⟩
            | 18, _, hdep =>
              have E30 : a1.tmps[30]?.getD undef = .bool false := by rw [← ha1]; exact (putsL_in2 _ _ _ _ (by decide) (show 30 < 77 from by decide)).trans (hdep 3 (by kernel_rfl))
              have E44 : a1.tmps[44]?.getD undef = .bool false := by rw [← ha1]; exact (putsL_in2 _ _ _ _ (by decide) (show 44 < 77 from by decide)).trans (hdep 17 (by kernel_rfl))
              exact wpOp_val rfl rfl (v := .bool false) (w' := W) (by simp [execOp, go_sem, E30, E44]) ⟨hIW, fun _ h => h, Or.inl ⟨_, by decide, rfl, updF_same _ _ _⟩⟩
            | iq + 19, h, _ => exact absurd h (by omega)
          case refine_2 =>
            intro f W hIW hR
            have h45 : f 45 = .bool false := hR 18 (show 18 < 19 from by decide)
            simp only [putsL, List.foldl_cons, List.foldl_nil, Act.put, List.setIfInBounds_toArray, List.set_cons_zero, List.set_cons_succ]
            go_wp2
            go_meet
            exact ⟨(by first | rfl | exact h45), Lib.hid hIW⟩
        case rest =>
          obtain ⟨rfl, HJW⟩ := hcut
          have HBW := Lib.hid (HB6.out.trans ((HJO.out _ HJW.out).mono HB6.out.size))
          clear HJ0 HJD HJI HJO HF HCK HCR
          go_wp2
          go_roundw
          case rel => exact ⟨0 + 1, by first | rfl | go_num, by omega, HBW⟩
          case measure => simp [RowKit.intOf]; omega
      | succ k =>
        obtain ⟨y0, hy1, hy2⟩ := HPV.out k rfl
        have HC1 : Hid (∀ W, J W → W.cell? ⟨b, o + k * 7, none⟩ = some (.int .i64 y0)) := Lib.hid fun W hW => hy1 W (HBE.out _ (HB6.out.trans ((HJO.out W hW).mono HB6.out.size)))
        have hq6 : (0 : Int) < ((k + 1 : Nat) : Int) := by omega
        have hq7 : ¬ x0 ≤ y0 := by omega
        have hq8 : IntKind.i64.wrap (k : Int) = (k : Int) := by rw [IntKind.wrap_i64]; omega
        have hk2 : (0 : Int) ≤ (k : Int) := by omega
        have hk3 : (k : Int) < (n : Int) := by omega
        clear HPV hy1 hy2
        go_cut [45] (fun c wx => c = .bool false ∧ Hid (J wx))
        case first =>
          refine wp_region_props [27, 28, 29, 30, 31, 32, 33, 34, 35, 36, 37, 38, 39, 40, 41, 42, 43, 44, 45] (slotS [27, 28, 29, 30, 31, 32, 33, 34, 35, 36, 37, 38, 39, 40, 41, 42, 43, 44, 45]) (readsS [27, 28, 29, 30, 31, 32, 33, 34, 35, 36, 37, 38, 39, 40, 41, 42, 43, 44, 45]) (RTs [27, 28, 29, 30, 31, 32, 33, 34, 35, 36, 37, 38, 39, 40, 41, 42, 43, 44, 45] [.agg #[.int .i64 x0, .int .i64 x1, .int .i64 x2, .int .i64 x3, .int .i64 x4, .int .i64 x5, .bool x6], .bool true, .bool false, .bool false, .int .i64 ((k + 1 : Nat) : Int), .bool true, .bool true, .pointer (some ⟨bR, 0, none⟩), .slice (some ⟨b, o, none⟩) n cap, .int .i64 ((k + 1 : Nat) : Int), .int .i64 (k : Int), .pointer (some ⟨b, o + k * 7, none⟩), .pointer (some ⟨b, o + k * 7, none⟩), .int .i64 y0, .pointer (some ⟨bK, 0, none⟩), .int .i64 x0, .bool false, .bool false, .bool false]) J (by kernel_rfl) (by kernel_rfl) (by kernel_rfl) (HJD.out _ HJ0.out) (fun j f q v W hq h => RTs.upd hq h) ?_ ?_
          case refine_1 =>
            intro iq hiq f W hIW hdep
            have hiq' : iq < 19 := hiq
            generalize ha1 : putsL _ [27, 28, 29, 30, 31, 32, 33, 34, 35, 36, 37, 38, 39, 40, 41, 42, 43, 44, 45] f = a1
            match iq, hiq', hdep with
            | 0, _, hdep =>
              have E4 : a1.tmps[4]?.getD undef = .pointer (some ⟨bK, 0, none⟩) := by rw [← ha1]; exact (putsL_out2 _ _ _ _ (by decide)).trans rfl
              have v0 : W.cell? ⟨bK, 0, none⟩ = some (.int .i64 x0) := by simpa using HCK.out W hIW 0
              have v1 : W.cell? ⟨bK, 1, none⟩ = some (.int .i64 x1) := by simpa using HCK.out W hIW 1
              have v2 : W.cell? ⟨bK, 2, none⟩ = some (.int .i64 x2) := by simpa using HCK.out W hIW 2
              have v3 : W.cell? ⟨bK, 3, none⟩ = some (.int .i64 x3) := by simpa using HCK.out W hIW 3
              have v4 : W.cell? ⟨bK, 4, none⟩ = some (.int .i64 x4) := by simpa using HCK.out W hIW 4
              have v5 : W.cell? ⟨bK, 5, none⟩ = some (.int .i64 x5) := by simpa using HCK.out W hIW 5
              have v6 : W.cell? ⟨bK, 6, none⟩ = some (.bool x6) := by simpa using HCK.out W hIW 6
              exact wpOp_val rfl rfl (v := .agg #[.int .i64 x0, .int .i64 x1, .int .i64 x2, .int .i64 x3, .int .i64 x4, .int .i64 x5, .bool x6]) (w' := W) (by simp [execOp, go_sem, E4, v0, v1, v2, v3, v4, v5, v6]) ⟨hIW, fun _ h => h, Or.inl ⟨_, by decide, rfl, updF_same _ _ _⟩⟩
            | 1, _, hdep =>
              have E27 : a1.tmps[27]?.getD undef = .agg #[.int .i64 x0, .int .i64 x1, .int .i64 x2, .int .i64 x3, .int .i64 x4, .int .i64 x5, .bool x6] := by rw [← ha1]; exact (putsL_in2 _ _ _ _ (by decide) (show 27 < 77 from by decide)).trans (hdep 0 (by kernel_rfl))
              refine wpOp_call rfl rfl (n := 64) (vs := #[.agg #[.int .i64 x0, .int .i64 x1, .int .i64 x2, .int .i64 x3, .int .i64 x4, .int .i64 x5, .bool x6]]) (by have := egF #[.agg #[.int .i64 x0, .int .i64 x1, .int .i64 x2, .int .i64 x3, .int .i64 x4, .int .i64 x5, .bool x6]] W; simp [execOp, E27, resolve, invoke, go_sem] <;> exact this) ((HF.out W hIW).mono fun e w' h => (⟨_, h.1, rfl, h.2⟩ : ∃ v, e = .returned v ∧ (v = .bool true ∧ J w'))) ?_
              rintro v w' ⟨rfl, hI'⟩
              exact ⟨hI', fun _ h => h, Or.inl ⟨_, by decide, rfl, updF_same _ _ _⟩⟩
            | 2, _, hdep =>
              have E28 : a1.tmps[28]?.getD undef = .bool true := by rw [← ha1]; exact (putsL_in2 _ _ _ _ (by decide) (show 28 < 77 from by decide)).trans (hdep 1 (by kernel_rfl))
              exact wpOp_val rfl rfl (v := .bool false) (w' := W) (by simp [execOp, go_sem, E28]) ⟨hIW, fun _ h => h, Or.inl ⟨_, by decide, rfl, updF_same _ _ _⟩⟩
            | 3, _, hdep =>
              have E29 : a1.tmps[29]?.getD undef = .bool false := by rw [← ha1]; exact (putsL_in2 _ _ _ _ (by decide) (show 29 < 77 from by decide)).trans (hdep 2 (by kernel_rfl))
              exact wpOp_val rfl rfl (v := .bool false) (w' := W) (by simp [execOp, go_sem, E29]) ⟨hIW, fun _ h => h, Or.inl ⟨_, by decide, rfl, updF_same _ _ _⟩⟩
            | 4, _, hdep =>
              have G3 : a1.tmps[30]? = some (.bool false) := by rw [← ha1]; exact (putsL_some _ _ _ _ (by decide) (show 30 < 77 from by decide)).trans (congrArg some (hdep 3 (by kernel_rfl)))
              have E3 : a1.tmps[3]?.getD undef = .int .i64 ((k + 1 : Nat) : Int) := by rw [← ha1]; exact (putsL_out2 _ _ _ _ (by decide)).trans rfl
              exact wpOp_valG rfl rfl (yielded_of rfl G3) (v := .int .i64 ((k + 1 : Nat) : Int)) (w' := W) (by simp [execOp, go_sem, E3]) ⟨hIW, fun _ h => h, Or.inl ⟨_, by decide, rfl, updF_same _ _ _⟩⟩
            | 5, _, hdep =>
              have G3 : a1.tmps[30]? = some (.bool false) := by rw [← ha1]; exact (putsL_some _ _ _ _ (by decide) (show 30 < 77 from by decide)).trans (congrArg some (hdep 3 (by kernel_rfl)))
              have E31 : a1.tmps[31]?.getD undef = .int .i64 ((k + 1 : Nat) : Int) := by rw [← ha1]; exact (putsL_in2 _ _ _ _ (by decide) (show 31 < 77 from by decide)).trans (hdep 4 (by kernel_rfl))
              exact wpOp_valG rfl rfl (yielded_of rfl G3) (v := .bool true) (w' := W) (by simp [execOp, go_sem, E31, hq6]) ⟨hIW, fun _ h => h, Or.inl ⟨_, by decide, rfl, updF_same _ _ _⟩⟩
            | 6, _, hdep =>
              have G3 : a1.tmps[30]? = some (.bool false) := by rw [← ha1]; exact (putsL_some _ _ _ _ (by decide) (show 30 < 77 from by decide)).trans (congrArg some (hdep 3 (by kernel_rfl)))
              have E32 : a1.tmps[32]?.getD undef = .bool true := by rw [← ha1]; exact (putsL_in2 _ _ _ _ (by decide) (show 32 < 77 from by decide)).trans (hdep 5 (by kernel_rfl))
              exact wpOp_valG rfl rfl (yielded_of rfl G3) (v := .bool true) (w' := W) (by simp [execOp, go_sem, E32]) ⟨hIW, fun _ h => h, Or.inl ⟨_, by decide, rfl, updF_same _ _ _⟩⟩
            | 7, _, hdep =>
              have G6 : a1.tmps[33]? = some (.bool true) := by rw [← ha1]; exact (putsL_some _ _ _ _ (by decide) (show 33 < 77 from by decide)).trans (congrArg some (hdep 6 (by kernel_rfl)))
              have E1 : a1.tmps[1]?.getD undef = .pointer (some ⟨bR, 0, none⟩) := by rw [← ha1]; exact (putsL_out2 _ _ _ _ (by decide)).trans rfl
              exact wpOp_valG rfl rfl (yielded_of rfl G6) (v := .pointer (some ⟨bR, 0, none⟩)) (w' := W) (by simp [execOp, go_sem, E1]) ⟨hIW, fun _ h => h, Or.inl ⟨_, by decide, rfl, updF_same _ _ _⟩⟩
            | 8, _, hdep =>
              have G6 : a1.tmps[33]? = some (.bool true) := by rw [← ha1]; exact (putsL_some _ _ _ _ (by decide) (show 33 < 77 from by decide)).trans (congrArg some (hdep 6 (by kernel_rfl)))
              have E34 : a1.tmps[34]?.getD undef = .pointer (some ⟨bR, 0, none⟩) := by rw [← ha1]; exact (putsL_in2 _ _ _ _ (by decide) (show 34 < 77 from by decide)).trans (hdep 7 (by kernel_rfl))
              have v0 : W.cell? ⟨bR, 0, none⟩ = some (.slice (some ⟨b, o, none⟩) n cap) := by simpa using HCR.out W hIW 0
              exact wpOp_valG rfl rfl (yielded_of rfl G6) (v := .slice (some ⟨b, o, none⟩) n cap) (w' := W) (by simp [execOp, go_sem, E34, v0]) ⟨hIW, fun _ h => h, Or.inl ⟨_, by decide, rfl, updF_same _ _ _⟩⟩
            | 9, _, hdep =>
              have G6 : a1.tmps[33]? = some (.bool true) := by rw [← ha1]; exact (putsL_some _ _ _ _ (by decide) (show 33 < 77 from by decide)).trans (congrArg some (hdep 6 (by kernel_rfl)))
              have E3 : a1.tmps[3]?.getD undef = .int .i64 ((k + 1 : Nat) : Int) := by rw [← ha1]; exact (putsL_out2 _ _ _ _ (by decide)).trans rfl
              exact wpOp_valG rfl rfl (yielded_of rfl G6) (v := .int .i64 ((k + 1 : Nat) : Int)) (w' := W) (by simp [execOp, go_sem, E3]) ⟨hIW, fun _ h => h, Or.inl ⟨_, by decide, rfl, updF_same _ _ _⟩⟩
            | 10, _, hdep =>
              have G6 : a1.tmps[33]? = some (.bool true) := by rw [← ha1]; exact (putsL_some _ _ _ _ (by decide) (show 33 < 77 from by decide)).trans (congrArg some (hdep 6 (by kernel_rfl)))
              have E36 : a1.tmps[36]?.getD undef = .int .i64 ((k + 1 : Nat) : Int) := by rw [← ha1]; exact (putsL_in2 _ _ _ _ (by decide) (show 36 < 77 from by decide)).trans (hdep 9 (by kernel_rfl))
              exact wpOp_valG rfl rfl (yielded_of rfl G6) (v := .int .i64 (k : Int)) (w' := W) (by simp [execOp, go_sem, E36, hq8]) ⟨hIW, fun _ h => h, Or.inl ⟨_, by decide, rfl, updF_same _ _ _⟩⟩
            | 11, _, hdep =>
              have G6 : a1.tmps[33]? = some (.bool true) := by rw [← ha1]; exact (putsL_some _ _ _ _ (by decide) (show 33 < 77 from by decide)).trans (congrArg some (hdep 6 (by kernel_rfl)))
              have E35 : a1.tmps[35]?.getD undef = .slice (some ⟨b, o, none⟩) n cap := by rw [← ha1]; exact (putsL_in2 _ _ _ _ (by decide) (show 35 < 77 from by decide)).trans (hdep 8 (by kernel_rfl))
              have E37 : a1.tmps[37]?.getD undef = .int .i64 (k : Int) := by rw [← ha1]; exact (putsL_in2 _ _ _ _ (by decide) (show 37 < 77 from by decide)).trans (hdep 10 (by kernel_rfl))
              exact wpOp_valG rfl rfl (yielded_of rfl G6) (v := .pointer (some ⟨b, o + k * 7, none⟩)) (w' := W) (by simp [execOp, go_sem, E35, E37, hk2, hk3]) ⟨hIW, fun _ h => h, Or.inl ⟨_, by decide, rfl, updF_same _ _ _⟩⟩
            | 12, _, hdep =>
              have G6 : a1.tmps[33]? = some (.bool true) := by rw [← ha1]; exact (putsL_some _ _ _ _ (by decide) (show 33 < 77 from by decide)).trans (congrArg some (hdep 6 (by kernel_rfl)))
              have E38 : a1.tmps[38]?.getD undef = .pointer (some ⟨b, o + k * 7, none⟩) := by rw [← ha1]; exact (putsL_in2 _ _ _ _ (by decide) (show 38 < 77 from by decide)).trans (hdep 11 (by kernel_rfl))
              exact wpOp_valG rfl rfl (yielded_of rfl G6) (v := .pointer (some ⟨b, o + k * 7, none⟩)) (w' := W) (by simp [execOp, go_sem, E38]) ⟨hIW, fun _ h => h, Or.inl ⟨_, by decide, rfl, updF_same _ _ _⟩⟩
            | 13, _, hdep =>
              have G6 : a1.tmps[33]? = some (.bool true) := by rw [← ha1]; exact (putsL_some _ _ _ _ (by decide) (show 33 < 77 from by decide)).trans (congrArg some (hdep 6 (by kernel_rfl)))
              have E39 : a1.tmps[39]?.getD undef = .pointer (some ⟨b, o + k * 7, none⟩) := by rw [← ha1]; exact (putsL_in2 _ _ _ _ (by decide) (show 39 < 77 from by decide)).trans (hdep 12 (by kernel_rfl))
              exact wpOp_valG rfl rfl (yielded_of rfl G6) (v := .int .i64 y0) (w' := W) (by simp [execOp, go_sem, E39, HC1.out W hIW]) ⟨hIW, fun _ h => h, Or.inl ⟨_, by decide, rfl, updF_same _ _ _⟩⟩
            | 14, _, hdep =>
              have G6 : a1.tmps[33]? = some (.bool true) := by rw [← ha1]; exact (putsL_some _ _ _ _ (by decide) (show 33 < 77 from by decide)).trans (congrArg some (hdep 6 (by kernel_rfl)))
              have E4 : a1.tmps[4]?.getD undef = .pointer (some ⟨bK, 0, none⟩) := by rw [← ha1]; exact (putsL_out2 _ _ _ _ (by decide)).trans rfl
              exact wpOp_valG rfl rfl (yielded_of rfl G6) (v := .pointer (some ⟨bK, 0, none⟩)) (w' := W) (by simp [execOp, go_sem, E4]) ⟨hIW, fun _ h => h, Or.inl ⟨_, by decide, rfl, updF_same _ _ _⟩⟩
            | 15, _, hdep =>
              have G6 : a1.tmps[33]? = some (.bool true) := by rw [← ha1]; exact (putsL_some _ _ _ _ (by decide) (show 33 < 77 from by decide)).trans (congrArg some (hdep 6 (by kernel_rfl)))
              have E41 : a1.tmps[41]?.getD undef = .pointer (some ⟨bK, 0, none⟩) := by rw [← ha1]; exact (putsL_in2 _ _ _ _ (by decide) (show 41 < 77 from by decide)).trans (hdep 14 (by kernel_rfl))
              have v0 : W.cell? ⟨bK, 0, none⟩ = some (.int .i64 x0) := by simpa using HCK.out W hIW 0
              exact wpOp_valG rfl rfl (yielded_of rfl G6) (v := .int .i64 x0) (w' := W) (by simp [execOp, go_sem, E41, v0]) ⟨hIW, fun _ h => h, Or.inl ⟨_, by decide, rfl, updF_same _ _ _⟩⟩
            | 16, _, hdep =>
              have G6 : a1.tmps[33]? = some (.bool true) := by rw [← ha1]; exact (putsL_some _ _ _ _ (by decide) (show 33 < 77 from by decide)).trans (congrArg some (hdep 6 (by kernel_rfl)))
              have E40 : a1.tmps[40]?.getD undef = .int .i64 y0 := by rw [← ha1]; exact (putsL_in2 _ _ _ _ (by decide) (show 40 < 77 from by decide)).trans (hdep 13 (by kernel_rfl))
              have E42 : a1.tmps[42]?.getD undef = .int .i64 x0 := by rw [← ha1]; exact (putsL_in2 _ _ _ _ (by decide) (show 42 < 77 from by decide)).trans (hdep 15 (by kernel_rfl))
              exact wpOp_valG rfl rfl (yielded_of rfl G6) (v := .bool false) (w' := W) (by simp [execOp, go_sem, E40, E42, hq7]) ⟨hIW, fun _ h => h, Or.inl ⟨_, by decide, rfl, updF_same _ _ _⟩⟩
            | 17, _, hdep =>
              have G3 : a1.tmps[30]? = some (.bool false) := by rw [← ha1]; exact (putsL_some _ _ _ _ (by decide) (show 30 < 77 from by decide)).trans (congrArg some (hdep 3 (by kernel_rfl)))
              have E33 : a1.tmps[33]?.getD undef = .bool true := by rw [← ha1]; exact (putsL_in2 _ _ _ _ (by decide) (show 33 < 77 from by decide)).trans (hdep 6 (by kernel_rfl))
              have E43 : a1.tmps[43]?.getD undef = .bool false := by rw [← ha1]; exact (putsL_in2 _ _ _ _ (by decide) (show 43 < 77 from by decide)).trans (hdep 16 (by kernel_rfl))
              exact wpOp_valG rfl rfl (yielded_of rfl G3) (v := .bool false) (w' := W) (by simp [execOp, go_sem, E33, E43]) ⟨hIW, fun _ h => h, Or.inl ⟨_, by decide, rfl, updF_same _ _ _⟩⟩
            | 18, _, hdep =>
              have E30 : a1.tmps[30]?.getD undef = .bool false := by rw [← ha1]; exact (putsL_in2 _ _ _ _ (by decide) (show 30 < 77 from by decide)).trans (hdep 3 (by kernel_rfl))
              have E44 : a1.tmps[44]?.getD undef = .bool false := by rw [← ha1]; exact (putsL_in2 _ _ _ _ (by decide) (show 44 < 77 from by decide)).trans (hdep 17 (by kernel_rfl))
              exact wpOp_val rfl rfl (v := .bool false) (w' := W) (by simp [execOp, go_sem, E30, E44]) ⟨hIW, fun _ h => h, Or.inl ⟨_, by decide, rfl, updF_same _ _ _⟩⟩
            | iq + 19, h, _ => exact absurd h (by omega)
          case refine_2 =>
            intro f W hIW hR
            have h45 : f 45 = .bool false := hR 18 (show 18 < 19 from by decide)
            simp only [putsL, List.foldl_cons, List.foldl_nil, Act.put, List.setIfInBounds_toArray, List.set_cons_zero, List.set_cons_succ]
            go_wp2
            go_meet
            exact ⟨(by first | rfl | exact h45), Lib.hid hIW⟩
        case rest =>
          obtain ⟨rfl, HJW⟩ := hcut
          have HBW := Lib.hid (HB6.out.trans ((HJO.out _ HJW.out).mono HB6.out.size))
          clear HJ0 HJD HJI HJO HF HCK HCR
          go_wp2
          go_roundw
          case rel => exact ⟨(k + 1) + 1, by first | rfl | go_num, by omega, HBW⟩
          case measure => simp [RowKit.intOf]; omega
    · obtain rfl : k = n := by omega
      have hG := HRG.out _ HB.out
      have g0 := obj_cell hG 0
      have g1 := obj_cell hG 1
      have g2 := obj_cell hG 2
      simp at g0 g1 g2
      clear hG
      go_wp2
      clear g0 g1 g2
      go_loopw [50] (fun i wr => ∃ k : Nat, i = .int .i64 k ∧ k ≤ nM ∧ Hid (Below W1.heap.size W1 wr)) (fun i _ => nM - (RowKit.intOf i).toNat)
      case atStart => exact ⟨0, rfl, by omega, HB⟩
      case round =>
        clear HB
        obtain ⟨k, rfl, hkn, HB⟩ := hrel
        by_cases hlt : k < nM
        · have hkl' : k < r.ms.length := by rw [← HNM.out]; exact hlt
          obtain ⟨b, o, rfl, hb, hcc⟩ := HCM.out (by omega)
          have HBW := Lib.hid (HBE.out _ HB.out)
          have hcell := fun j (hj : j < 7) => (HBW.out.cell (p := ⟨b, o + k * 7 + j, none⟩) hb).trans (hcc k hkl' j hj)
          obtain ⟨l', bd, s, hmk⟩ := replay_mem (fun s hs => (H.out.secs.bound s hs).2.2) H.out.run _ (List.getElem_mem hkl')
          have hd1 := hmk.day1
          have hd2 := hmk.day2
          have hd0 := (H.out.secs.ok s (findS_id hmk.sec).2).iss
          clear hmk
          generalize r.ms[k] = x at *
          obtain ⟨x0, x1, x2, x3, x4, x5, x6⟩ := x
          simp only at hd1 hd2
          have c0 := hcell 0 (by omega)
          have c1 := hcell 1 (by omega)
          have c2 := hcell 2 (by omega)
          have c3 := hcell 3 (by omega)
          have c4 := hcell 4 (by omega)
          have c5 := hcell 5 (by omega)
          have c6 := hcell 6 (by omega)
          simp [mvC] at c0 c1 c2 c3 c4 c5 c6
          have hk0 : (0 : Int) ≤ (k : Int) := by omega
          have hk1 : (k : Int) < (nM : Int) := by omega
          have hx0 : ¬ x1 < 0 := by omega
          have hx1 : ¬ 36000 < x1 := by omega
          have HB2 := Lib.hid (HB.out.alloc HB.out.size (.cells #[.int .i64 x0, .int .i64 x1, .int .i64 x2, .int .i64 x3, .int .i64 x4, .int .i64 x5, .int .i64 x6] 104))
          clear hcell hcc hkl' hd1 hd2 hd0
          go_wp2
          go_roundw
          case rel => exact ⟨k + 1, by first | rfl | go_num, by omega, HB2⟩
          case measure => simp [RowKit.intOf]; omega
        · obtain rfl : k = nM := by omega
          have hG := HRG.out _ HB.out
          have g0 := obj_cell hG 0
          have g1 := obj_cell hG 1
          have g2 := obj_cell hG 2
          simp at g0 g1 g2
          clear hG
          go_wp2_with fail
          with_reducible refine Calls.mono (HUN.out _ (HBE.out _ HB.out)) ?_
          rintro e w5 ⟨u, rfl, ho, hb5⟩
          have HB5 := Lib.hid (HB.out.trans (hb5.mono HB.out.size))
          have HEQ := Lib.hid (eqRyH_any u y r.hs r.hs w5 (ListAt.owns ho) (HR.out.hs.below (HBE.out _ HB5.out)) (by have := H.out.hsLen; omega) (by have := H.out.hsLen; omega))
          rw [decide_eq_true rfl] at HEQ
          have hG := HRG.out _ HB5.out
          clear g0 g1 g2 ho hb5
          have g1 := obj_cell hG 1
          simp at g1
          clear hG
          go_wp2_with fail
          with_reducible refine Calls.mono HEQ.out ?_
          rintro e w6 ⟨rfl, hb6⟩
          have HFIN := Lib.hid (HBE.out _ (HB5.out.trans (hb6.mono HB5.out.size)))
          clear hb6 g1
          go_wp2
          go_ret
          exact ⟨rfl, HFIN.out⟩

end Go.Proofs.Ytblidmkkbcobgaa
