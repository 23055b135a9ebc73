/- The ledger's reference: Sums of all entities together, over any days. -/
import Derived.Test.YtoccnindkimjdaaMCs5
import Derived.Test.YtoccnindkimjdaaMRsM
set_option linter.unusedSimpArgs false
set_option linter.unusedVariables false
set_option linter.unusedSimpArgs false
set_option linter.unusedVariables false
namespace Go.Proofs.Ytoccnindkimjdaa
open Go.RowKit Go.Lib Go.Proofs

set_option maxRecDepth 100000 in
set_option maxHeartbeats 4000000 in
theorem rgSums_all {l : List Pst} (h : ∀ p ∈ l, PstOk p ∧ p.amt ≤ 1000) (hlen : l.length ≤ 200) (lo k : Int) (v : Value) (w : World) (hl : PstsAt w v l) :
    Calls Try.prog 81 #[v, .int .i64 0, .int .i64 lo, .int .i64 k] w fun e w' => e = .returned (.agg (arrC fun i => ofM 0 (amidDay lo k) (100 + (i : Int)) l)) ∧ Below w.heap.size w w' := by
  obtain ⟨hz, hsz⟩ := zero_of_info Try.infoArr
  obtain ⟨av, cv, rfl, hcap, hls⟩ := hl.shape pstF
  have HLS := Lib.hid hls
  have HOK := Lib.hid h
  obtain ⟨nl, hnl⟩ : ∃ k, k = l.length := ⟨_, rfl⟩
  have HNL := Lib.hid hnl
  rw [← hnl] at hlen hcap ⊢
  have HSZ := Lib.hid hsz
  obtain ⟨FF, hFF⟩ : ∃ FF, FF = fun i : Nat => ofM 0 (amidDay lo k) (100 + (i : Int)) l := ⟨_, rfl⟩
  have HFF := Lib.hid hFF
  rw [← hFF]
  clear hFF
  obtain ⟨w0, hw0⟩ : ∃ W, W = (w.alloc (.cells (arrC fun _ => 0) 101)).alloc (.cells (arrC fun _ => 0) 101) := ⟨_, rfl⟩
  obtain ⟨bA, hbA⟩ : ∃ b, b = w.heap.size + 1 := ⟨_, rfl⟩
  obtain ⟨bR, hbR⟩ : ∃ b, b = w.heap.size := ⟨_, rfl⟩
  have HI0 : Hid (SmI w bR bA (fun i : Nat => ofM 0 (amidDay lo k) (100 + (i : Int)) []) w0) := Lib.hid (by
    rw [hw0, hbA, hbR]
    exact ⟨below2 w _ _, alloc1_at w _ _, alloc2_at w _ _, by omega, by omega⟩)
  have HW0 := Lib.hid hw0
  have HBA := Lib.hid hbA
  have HBR := Lib.hid hbR
  clear hl hls h hnl hsz hw0 hbA hbR
  go_enter Try.func81, Try.ntmps81
  go_upto_region 2 with fail
  rw [← HW0.out, ← HBA.out, ← HBR.out]
  clear hz
  go_wp2
  go_loopw [14] (fun iv wr => ∃ j : Nat, iv = .int .i64 j ∧ j ≤ nl ∧ Hid (SmI w bR bA (fun i : Nat => ofM 0 (amidDay lo k) (100 + (i : Int)) (l.take j)) wr)) (fun iv _ => nl - (RowKit.intOf iv).toNat)
  case atStart => exact ⟨0, rfl, by omega, HI0⟩
  case round =>
    clear HI0 HW0
    obtain ⟨j, rfl, hjn, HI⟩ := hrel
    by_cases hlt : j < nl
    · have hjl : j < l.length := by rw [← HNL.out]; exact hlt
      obtain ⟨b1, o1, rfl, hb1, hcc⟩ := HLS.out (by omega)
      have hcell := fun q (hq : q < 8) => (HI.out.old.cell (p := ⟨b1, o1 + j * 8 + q, none⟩) hb1).trans (hcc j hjl q hq)
      have hxok := (HOK.out _ (List.getElem_mem hjl)).1
      have HTK : Hid (∀ a, ofM 0 (amidDay lo k) a (l.take (j + 1)) = ofM 0 (amidDay lo k) a (l.take j) + (if hitE 0 l[j] && amidDay lo k l[j].day then netP a l[j] else 0)) := Lib.hid fun a => by
        rw [List.take_succ_eq_append_getElem hjl, ofM_snoc]
      have hbd : ∀ a, -400000000000000 ≤ ofM 0 (amidDay lo k) a (l.take j) ∧ ofM 0 (amidDay lo k) a (l.take j) ≤ 400000000000000 := fun a => by
        have h1 := ofM_bound (e := 0) (f := amidDay lo k) (a := a) (l := l.take j) fun p hp => (HOK.out p (List.mem_of_mem_take hp)).1
        have h2 : (l.take j).length ≤ 400 := by rw [List.length_take]; omega
        omega
      have hj0 : (0 : Int) ≤ (j : Int) := by omega
      have hj1 : (j : Int) < (nl : Int) := by omega
      have hwj : IntKind.i64.wrap ((j : Int) + 1) = (j : Int) + 1 := IntWalk.i64_in _ (by omega)
      generalize l[j] = x at *
      obtain ⟨x0, x1, x2, x3, x4, x5, x6, x7⟩ := x
      have c0 : wr.cell? ⟨b1, o1 + j * 8, none⟩ = some (.int .i64 x0) := hcell 0 (by omega)
      have c1 : wr.cell? ⟨b1, o1 + j * 8 + 1, none⟩ = some (.int .i64 x1) := hcell 1 (by omega)
      have c2 : wr.cell? ⟨b1, o1 + j * 8 + 2, none⟩ = some (.int .i64 x2) := hcell 2 (by omega)
      have c3 : wr.cell? ⟨b1, o1 + j * 8 + 3, none⟩ = some (.int .i64 x3) := hcell 3 (by omega)
      have c4 : wr.cell? ⟨b1, o1 + j * 8 + 4, none⟩ = some (.int .i64 x4) := hcell 4 (by omega)
      have c5 : wr.cell? ⟨b1, o1 + j * 8 + 5, none⟩ = some (.int .i64 x5) := hcell 5 (by omega)
      have c6 : wr.cell? ⟨b1, o1 + j * 8 + 6, none⟩ = some (.int .i64 x6) := hcell 6 (by omega)
      have c7 : wr.cell? ⟨b1, o1 + j * 8 + 7, none⟩ = some (.int .i64 x7) := hcell 7 (by omega)
      obtain ⟨h1, h2, h3, h4, h5, h6, h7, h8, h9, h10⟩ := hxok
      simp only at h2 h4 h5 h6 h7 HTK
      obtain ⟨F, hF⟩ : ∃ F : Nat → Int, F = fun i : Nat => ofM 0 (amidDay lo k) (100 + (i : Int)) (l.take j) := ⟨_, rfl⟩
      have hFb : ∀ i, -400000000000000 ≤ F i ∧ F i ≤ 400000000000000 := fun i => by rw [hF]; exact hbd _
      have HF := Lib.hid hF
      rw [← hF] at HI
      obtain ⟨bX, hbX⟩ : ∃ q, q = wr.heap.size := ⟨_, rfl⟩
      obtain ⟨w8, hw8⟩ : ∃ W, W = wr.alloc (.cells #[.int .i64 x0, .int .i64 x1, .int .i64 x2, .int .i64 x3, .int .i64 x4, .int .i64 x5, .int .i64 x6, .int .i64 x7] 55) := ⟨_, rfl⟩
      have HX8 : Hid (w8.heap[bX]? = some (.cells #[.int .i64 x0, .int .i64 x1, .int .i64 x2, .int .i64 x3, .int .i64 x4, .int .i64 x5, .int .i64 x6, .int .i64 x7] 55 (0, 0))) := Lib.hid (by rw [hw8, hbX]; exact heap_alloc_new _ _)
      have HI8 : Hid (SmI w bR bA F w8) := Lib.hid (by rw [hw8]; exact HI.out.below (below_alloc _ _))
      have hxa : bX ≠ bA := by have := obj_lt HI.out.arr; omega
      have HW8 := Lib.hid hw8
      have HBX := Lib.hid hbX
      have hx8 := HX8.out
      have y1 := obj_cell hx8 1
      have y2 := obj_cell hx8 2
      simp at y1 y2
      clear hcell hcc hF hbd hw8 hbX hx8
      go_upto_region 5 with fail
      rw [← HW8.out, ← HBX.out]
      clear c0 c1 c2 c3 c4 c5 c6 c7
      by_cases hk : x1 ≤ k
      · have hkn : ¬ k < x1 := by omega
        by_cases hlo : lo ≤ x1
        · have h1n : ¬ x1 < lo := by omega
          obtain ⟨d, hd⟩ : ∃ d : Nat, (d : Int) = x3 - 100 := ⟨(x3 - 100).toNat, by omega⟩
          obtain ⟨c, hc⟩ : ∃ d : Nat, (d : Int) = x4 - 100 := ⟨(x4 - 100).toNat, by omega⟩
          have hdn : d < 500 := by omega
          have hcn : c < 500 := by omega
          have hdc : c ≠ d := by omega
          have hd0 : (0 : Int) ≤ (d : Int) := by omega
          have hc0 : (0 : Int) ≤ (c : Int) := by omega
          have hd5 : (d : Int) < 500 := by omega
          have hc5 : (c : Int) < 500 := by omega
          have hwdd : IntKind.i64.wrap (x3 - 100) = (d : Int) := by rw [hd]; exact IntWalk.i64_in _ (by omega)
          have hwdc : IntKind.i64.wrap (x4 - 100) = (c : Int) := by rw [hc]; exact IntWalk.i64_in _ (by omega)
          obtain ⟨G, hG⟩ : ∃ G : Nat → Int, G = fun i => if i = d then F d + x5 else F i := ⟨_, rfl⟩
          obtain ⟨H, hH⟩ : ∃ H : Nat → Int, H = fun i => if i = c then G c - x5 else G i := ⟨_, rfl⟩
          have hGc : G c = F c := by rw [hG]; simp only; rw [if_neg hdc]
          have hwsd : IntKind.i64.wrap (F d + x5) = F d + x5 := IntWalk.i64_in _ (by have := hFb d; omega)
          have hwsc : IntKind.i64.wrap (G c - x5) = G c - x5 := IntWalk.i64_in _ (by have := hFb c; rw [hGc]; omega)
          have HH : Hid (H = fun i : Nat => ofM 0 (amidDay lo k) (100 + (i : Int)) (l.take (j + 1))) := Lib.hid (by
            rw [hH]
            funext i
            have hcd : (hitE 0 (⟨x0, x1, x2, x3, x4, x5, x6, x7⟩ : Pst) && amidDay lo k x1) = true := by simp [hitE, amidDay, hlo, hk]
            rw [HTK.out, if_pos hcd]
            have hFi : F i = ofM 0 (amidDay lo k) (100 + (i : Int)) (l.take j) := by rw [HF.out]
            rw [← hFi, hG]
            unfold netP
            simp only
            by_cases e1 : i = c
            · subst e1
              rw [if_pos rfl, if_neg hdc, if_neg (by omega), if_pos (by omega)]
              omega
            · rw [if_neg e1]
              by_cases e2 : i = d
              · subst e2
                rw [if_pos rfl, if_pos (by omega), if_neg (by omega)]
                omega
              · rw [if_neg e2, if_neg (by omega), if_neg (by omega)]
                omega)
          obtain ⟨JF, hJF⟩ : ∃ J, J = fun W : World => SmI w bR bA F W ∧ W.heap[bX]? = some (.cells #[.int .i64 x0, .int .i64 x1, .int .i64 x2, .int .i64 x3, .int .i64 x4, .int .i64 x5, .int .i64 x6, .int .i64 x7] 55 (0, 0)) := ⟨_, rfl⟩
          obtain ⟨JG, hJG⟩ : ∃ J, J = fun W : World => SmI w bR bA G W ∧ W.heap[bX]? = some (.cells #[.int .i64 x0, .int .i64 x1, .int .i64 x2, .int .i64 x3, .int .i64 x4, .int .i64 x5, .int .i64 x6, .int .i64 x7] 55 (0, 0)) := ⟨_, rfl⟩
          obtain ⟨JH, hJH⟩ : ∃ J, J = fun W : World => SmI w bR bA H W := ⟨_, rfl⟩
          have HJF0 : Hid (JF w8) := Lib.hid (by rw [hJF]; exact ⟨HI8.out, HX8.out⟩)
          have HJDF : Hid (∀ W, JF W → JF W.drew) := Lib.hid fun W hW => by
            rw [hJF] at hW ⊢
            exact ⟨hW.1.below (Below.refl _ _).drew, obj_below hW.2 (Below.refl _ _).drew⟩
          have HJDG : Hid (∀ W, JG W → JG W.drew) := Lib.hid fun W hW => by
            rw [hJG] at hW ⊢
            exact ⟨hW.1.below (Below.refl _ _).drew, obj_below hW.2 (Below.refl _ _).drew⟩
          have HCXF : Hid (∀ W, JF W → ∀ i, W.cell? ⟨bX, i, none⟩ = #[.int .i64 x0, .int .i64 x1, .int .i64 x2, .int .i64 x3, .int .i64 x4, .int .i64 x5, .int .i64 x6, .int .i64 x7][i]?) := Lib.hid fun W hW i => by rw [hJF] at hW; exact obj_cell hW.2 i
          have HCXG : Hid (∀ W, JG W → ∀ i, W.cell? ⟨bX, i, none⟩ = #[.int .i64 x0, .int .i64 x1, .int .i64 x2, .int .i64 x3, .int .i64 x4, .int .i64 x5, .int .i64 x6, .int .i64 x7][i]?) := Lib.hid fun W hW i => by rw [hJG] at hW; exact obj_cell hW.2 i
          have HCAd : Hid (∀ W, JF W → W.cell? ⟨bA, d, none⟩ = some (.int .i64 (F d))) := Lib.hid fun W hW => by rw [hJF] at hW; exact (obj_cell hW.1.arr d).trans (arrC_get F hdn)
          have HCAc : Hid (∀ W, JG W → W.cell? ⟨bA, c, none⟩ = some (.int .i64 (G c))) := Lib.hid fun W hW => by rw [hJG] at hW; exact (obj_cell hW.1.arr c).trans (arrC_get G hcn)
          have HFRd : Hid (∀ W, JF W → W.frozen? ⟨bA, d, none⟩ = false) := Lib.hid fun W hW => by rw [hJF] at hW; exact obj_free hW.1.arr d
          have HFRc : Hid (∀ W, JG W → W.frozen? ⟨bA, c, none⟩ = false) := Lib.hid fun W hW => by rw [hJG] at hW; exact obj_free hW.1.arr c
          have HSTd : Hid (∀ W, JF W → JG (W.setCell ⟨bA, d, none⟩ (.int .i64 (F d + x5)))) := Lib.hid fun W hW => by
            rw [hJF] at hW; rw [hJG, hG]
            exact ⟨hW.1.put hdn _, ((show W.grownBy (W.setCell ⟨bA, d, none⟩ (.int .i64 (F d + x5))) (some bA) from setCell_grown _ _).block _ (obj_lt hW.2) (by simp [hxa])).trans hW.2⟩
          have HSTc : Hid (∀ W, JG W → JH (W.setCell ⟨bA, c, none⟩ (.int .i64 (G c - x5)))) := Lib.hid fun W hW => by
            rw [hJG] at hW; rw [hJH, hH]
            exact hW.1.put hcn _
          have HJHO : Hid (∀ W, JH W → SmI w bR bA H W) := Lib.hid fun W hW => by rw [hJH] at hW; exact hW
          clear hJF hJG hJH hG hH hGc hFb hdc hd hc HI8 HX8 HF HTK hxa h1 h3 h4 h5 h6 h8 h9 h10
          go_upto_region 6 with fail
          clear y1 y2
          obtain ⟨P, hP⟩ : ∃ P : Nat → Value → World → Prop, P = fun j v W => match j with | 0 => (v = .pointer (some ⟨bX, 3, none⟩)) | 1 => (v = .int .i64 x3) | 2 => (v = .int .i64 (d : Int)) | 3 => (v = .pointer (some ⟨bA, d, none⟩)) | 4 => (v = .int .i64 (F d)) | 5 => (v = .pointer (some ⟨bX, 5, none⟩)) | 6 => (v = .int .i64 x5) | 7 => (v = .int .i64 (F d + x5)) | 8 => (v = .pointer (some ⟨bA, d, none⟩)) | _ => True := ⟨_, rfl⟩
          have HPI0 : Hid (∀ v W, P 0 v W ↔ (v = .pointer (some ⟨bX, 3, none⟩))) := Lib.hid fun v W => by rw [hP] <;> exact Iff.rfl
          have HPI1 : Hid (∀ v W, P 1 v W ↔ (v = .int .i64 x3)) := Lib.hid fun v W => by rw [hP] <;> exact Iff.rfl
          have HPI2 : Hid (∀ v W, P 2 v W ↔ (v = .int .i64 (d : Int))) := Lib.hid fun v W => by rw [hP] <;> exact Iff.rfl
          have HPI3 : Hid (∀ v W, P 3 v W ↔ (v = .pointer (some ⟨bA, d, none⟩))) := Lib.hid fun v W => by rw [hP] <;> exact Iff.rfl
          have HPI4 : Hid (∀ v W, P 4 v W ↔ (v = .int .i64 (F d))) := Lib.hid fun v W => by rw [hP] <;> exact Iff.rfl
          have HPI5 : Hid (∀ v W, P 5 v W ↔ (v = .pointer (some ⟨bX, 5, none⟩))) := Lib.hid fun v W => by rw [hP] <;> exact Iff.rfl
          have HPI6 : Hid (∀ v W, P 6 v W ↔ (v = .int .i64 x5)) := Lib.hid fun v W => by rw [hP] <;> exact Iff.rfl
          have HPI7 : Hid (∀ v W, P 7 v W ↔ (v = .int .i64 (F d + x5))) := Lib.hid fun v W => by rw [hP] <;> exact Iff.rfl
          have HPI8 : Hid (∀ v W, P 8 v W ↔ (v = .pointer (some ⟨bA, d, none⟩))) := Lib.hid fun v W => by rw [hP] <;> exact Iff.rfl
          have HKP : Hid (∀ (j : Nat) v W W', Below W.heap.size W W' → P j v W → P j v W') := Lib.hid (by
            rw [hP]
            intro j v W W' hb h
            match j, h with
            | 0, h => exact h
            | 1, h => exact h
            | 2, h => exact h
            | 3, h => exact h
            | 4, h => exact h
            | 5, h => exact h
            | 6, h => exact h
            | 7, h => exact h
            | 8, h => exact h
            | j + 9, _ => trivial)
          clear hP
          go_cut [] (fun wx => Hid (JG wx))
          case first =>
            refine wp_region_last [38, 39, 40, 41, 42, 43, 44, 45, 46] (slotS [38, 39, 40, 41, 42, 43, 44, 45, 46]) (readsS [38, 39, 40, 41, 42, 43, 44, 45, 46]) (RP [38, 39, 40, 41, 42, 43, 44, 45, 46] P) JF (fun _ W => JG W) 9 8 rfl (by kernel_rfl) (by kernel_rfl) (by kernel_rfl) (by kernel_rfl) (HJDF.out _ HJF0.out) (fun j f q v W hq h => RP.upd hq h) ?_ ?_ ?_
            case refine_1 =>
              intro iq hiq f W hIW hdep0
              have hiq' : iq < 9 := hiq
              have hdep : ∀ j, j < 9 → depB _ iq j = true → P j (f (slotS [38, 39, 40, 41, 42, 43, 44, 45, 46] j)) W := hdep0
              clear hdep0
              generalize ha1 : putsL _ [38, 39, 40, 41, 42, 43, 44, 45, 46] f = a1
              match iq, hiq', hdep with
              | 0, _, hdep0 =>
                have E11 : a1.tmps[11]?.getD undef = .pointer (some ⟨bX, 0, none⟩) := by rw [← ha1]; exact (putsL_out2 _ _ _ _ (by decide)).trans rfl
                exact wpOp_val rfl rfl (v := .pointer (some ⟨bX, 3, none⟩)) (w' := W) (by simp [execOp, go_sem, E11]) ⟨hIW, fun _ h => h, _, by decide, rfl, RP.set ((HPI0.out _ _).2 rfl)⟩
              | 1, _, hdep0 =>
                have hd0 := (HPI0.out _ _).1 (hdep0 0 (by decide) (by kernel_rfl))
                have E38 : a1.tmps[38]?.getD undef = .pointer (some ⟨bX, 3, none⟩) := by rw [← ha1]; exact (putsL_in2 _ _ _ _ (by decide) (show 38 < 58 from by decide)).trans hd0
                have v3 : W.cell? ⟨bX, 3, none⟩ = some (.int .i64 x3) := by simpa using HCXF.out W hIW 3
                exact wpOp_val rfl rfl (v := .int .i64 x3) (w' := W) (by simp [execOp, go_sem, E38, v3]) ⟨hIW, fun _ h => h, _, by decide, rfl, RP.set ((HPI1.out _ _).2 rfl)⟩
              | 2, _, hdep0 =>
                have hd1 := (HPI1.out _ _).1 (hdep0 1 (by decide) (by kernel_rfl))
                have E39 : a1.tmps[39]?.getD undef = .int .i64 x3 := by rw [← ha1]; exact (putsL_in2 _ _ _ _ (by decide) (show 39 < 58 from by decide)).trans hd1
                exact wpOp_val rfl rfl (v := .int .i64 (d : Int)) (w' := W) (by simp [execOp, go_sem, E39, hwdd]) ⟨hIW, fun _ h => h, _, by decide, rfl, RP.set ((HPI2.out _ _).2 rfl)⟩
              | 3, _, hdep0 =>
                have hd2 := (HPI2.out _ _).1 (hdep0 2 (by decide) (by kernel_rfl))
                have E9 : a1.tmps[9]?.getD undef = .pointer (some ⟨bA, 0, none⟩) := by rw [← ha1]; exact (putsL_out2 _ _ _ _ (by decide)).trans rfl
                have E40 : a1.tmps[40]?.getD undef = .int .i64 (d : Int) := by rw [← ha1]; exact (putsL_in2 _ _ _ _ (by decide) (show 40 < 58 from by decide)).trans hd2
                exact wpOp_val rfl rfl (v := .pointer (some ⟨bA, d, none⟩)) (w' := W) (by simp [execOp, go_sem, E9, E40, hd0, hd5]) ⟨hIW, fun _ h => h, _, by decide, rfl, RP.set ((HPI3.out _ _).2 rfl)⟩
              | 4, _, hdep0 =>
                have hd3 := (HPI3.out _ _).1 (hdep0 3 (by decide) (by kernel_rfl))
                have E41 : a1.tmps[41]?.getD undef = .pointer (some ⟨bA, d, none⟩) := by rw [← ha1]; exact (putsL_in2 _ _ _ _ (by decide) (show 41 < 58 from by decide)).trans hd3
                have v4 : W.cell? ⟨bA, d, none⟩ = some (.int .i64 (F d)) := HCAd.out W hIW
                exact wpOp_val rfl rfl (v := .int .i64 (F d)) (w' := W) (by simp [execOp, go_sem, E41, v4]) ⟨hIW, fun _ h => h, _, by decide, rfl, RP.set ((HPI4.out _ _).2 rfl)⟩
              | 5, _, hdep0 =>
                have E11 : a1.tmps[11]?.getD undef = .pointer (some ⟨bX, 0, none⟩) := by rw [← ha1]; exact (putsL_out2 _ _ _ _ (by decide)).trans rfl
                exact wpOp_val rfl rfl (v := .pointer (some ⟨bX, 5, none⟩)) (w' := W) (by simp [execOp, go_sem, E11]) ⟨hIW, fun _ h => h, _, by decide, rfl, RP.set ((HPI5.out _ _).2 rfl)⟩
              | 6, _, hdep0 =>
                have hd5 := (HPI5.out _ _).1 (hdep0 5 (by decide) (by kernel_rfl))
                have E43 : a1.tmps[43]?.getD undef = .pointer (some ⟨bX, 5, none⟩) := by rw [← ha1]; exact (putsL_in2 _ _ _ _ (by decide) (show 43 < 58 from by decide)).trans hd5
                have v5 : W.cell? ⟨bX, 5, none⟩ = some (.int .i64 x5) := by simpa using HCXF.out W hIW 5
                exact wpOp_val rfl rfl (v := .int .i64 x5) (w' := W) (by simp [execOp, go_sem, E43, v5]) ⟨hIW, fun _ h => h, _, by decide, rfl, RP.set ((HPI6.out _ _).2 rfl)⟩
              | 7, _, hdep0 =>
                have hd4 := (HPI4.out _ _).1 (hdep0 4 (by decide) (by kernel_rfl))
                have hd6 := (HPI6.out _ _).1 (hdep0 6 (by decide) (by kernel_rfl))
                have E42 : a1.tmps[42]?.getD undef = .int .i64 (F d) := by rw [← ha1]; exact (putsL_in2 _ _ _ _ (by decide) (show 42 < 58 from by decide)).trans hd4
                have E44 : a1.tmps[44]?.getD undef = .int .i64 x5 := by rw [← ha1]; exact (putsL_in2 _ _ _ _ (by decide) (show 44 < 58 from by decide)).trans hd6
                exact wpOp_val rfl rfl (v := .int .i64 (F d + x5)) (w' := W) (by simp [execOp, go_sem, E42, E44, hwsd]) ⟨hIW, fun _ h => h, _, by decide, rfl, RP.set ((HPI7.out _ _).2 rfl)⟩
              | 8, _, hdep0 =>
                have hd2 := (HPI2.out _ _).1 (hdep0 2 (by decide) (by kernel_rfl))
                have E9 : a1.tmps[9]?.getD undef = .pointer (some ⟨bA, 0, none⟩) := by rw [← ha1]; exact (putsL_out2 _ _ _ _ (by decide)).trans rfl
                have E40 : a1.tmps[40]?.getD undef = .int .i64 (d : Int) := by rw [← ha1]; exact (putsL_in2 _ _ _ _ (by decide) (show 40 < 58 from by decide)).trans hd2
                exact wpOp_val rfl rfl (v := .pointer (some ⟨bA, d, none⟩)) (w' := W) (by simp [execOp, go_sem, E9, E40, hd0, hd5]) ⟨hIW, fun _ h => h, _, by decide, rfl, RP.set ((HPI8.out _ _).2 rfl)⟩
              | iq + 9, h, _ => exact absurd h (by omega)
            case refine_2 =>
              intro f W hIW hdep0
              have hdep : ∀ j, j < 9 → P j (f (slotS [38, 39, 40, 41, 42, 43, 44, 45, 46] j)) W := hdep0
              clear hdep0
              generalize ha1 : putsL _ [38, 39, 40, 41, 42, 43, 44, 45, 46] f = a1
              have E45 : a1.tmps[45]?.getD undef = .int .i64 (F d + x5) := by rw [← ha1]; exact (putsL_in2 _ _ _ _ (by decide) (show 45 < 58 from by decide)).trans ((HPI7.out _ _).1 (hdep 7 (by decide)))
              have E46 : a1.tmps[46]?.getD undef = .pointer (some ⟨bA, d, none⟩) := by rw [← ha1]; exact (putsL_in2 _ _ _ _ (by decide) (show 46 < 58 from by decide)).trans ((HPI8.out _ _).1 (hdep 8 (by decide)))
              have v4 : W.cell? ⟨bA, d, none⟩ = some (.int .i64 (F d)) := HCAd.out W hIW
              have f4 : W.frozen? ⟨bA, d, none⟩ = false := HFRd.out W hIW
              exact wpOp_skip rfl rfl (w' := W.setCell ⟨bA, d, none⟩ (.int .i64 (F d + x5))) (by simp [execOp, go_sem, E45, E46, v4, f4]) ⟨rfl, HSTd.out W hIW⟩
            case refine_3 =>
              intro f W hIW
              simp only [putsL, List.foldl_cons, List.foldl_nil, Act.put, List.setIfInBounds_toArray, List.set_cons_zero, List.set_cons_succ]
              go_wp2
              go_meet
              exact Lib.hid hIW
          case rest =>
            have HJG0 := hcut
            clear hcut
            go_upto_region 7 with fail
            obtain ⟨P, hP⟩ : ∃ P : Nat → Value → World → Prop, P = fun j v W => match j with | 0 => (v = .pointer (some ⟨bX, 4, none⟩)) | 1 => (v = .int .i64 x4) | 2 => (v = .int .i64 (c : Int)) | 3 => (v = .pointer (some ⟨bA, c, none⟩)) | 4 => (v = .int .i64 (G c)) | 5 => (v = .pointer (some ⟨bX, 5, none⟩)) | 6 => (v = .int .i64 x5) | 7 => (v = .int .i64 (G c - x5)) | 8 => (v = .pointer (some ⟨bA, c, none⟩)) | _ => True := ⟨_, rfl⟩
            have HPI0 : Hid (∀ v W, P 0 v W ↔ (v = .pointer (some ⟨bX, 4, none⟩))) := Lib.hid fun v W => by rw [hP] <;> exact Iff.rfl
            have HPI1 : Hid (∀ v W, P 1 v W ↔ (v = .int .i64 x4)) := Lib.hid fun v W => by rw [hP] <;> exact Iff.rfl
            have HPI2 : Hid (∀ v W, P 2 v W ↔ (v = .int .i64 (c : Int))) := Lib.hid fun v W => by rw [hP] <;> exact Iff.rfl
            have HPI3 : Hid (∀ v W, P 3 v W ↔ (v = .pointer (some ⟨bA, c, none⟩))) := Lib.hid fun v W => by rw [hP] <;> exact Iff.rfl
            have HPI4 : Hid (∀ v W, P 4 v W ↔ (v = .int .i64 (G c))) := Lib.hid fun v W => by rw [hP] <;> exact Iff.rfl
            have HPI5 : Hid (∀ v W, P 5 v W ↔ (v = .pointer (some ⟨bX, 5, none⟩))) := Lib.hid fun v W => by rw [hP] <;> exact Iff.rfl
            have HPI6 : Hid (∀ v W, P 6 v W ↔ (v = .int .i64 x5)) := Lib.hid fun v W => by rw [hP] <;> exact Iff.rfl
            have HPI7 : Hid (∀ v W, P 7 v W ↔ (v = .int .i64 (G c - x5))) := Lib.hid fun v W => by rw [hP] <;> exact Iff.rfl
            have HPI8 : Hid (∀ v W, P 8 v W ↔ (v = .pointer (some ⟨bA, c, none⟩))) := Lib.hid fun v W => by rw [hP] <;> exact Iff.rfl
            have HKP : Hid (∀ (j : Nat) v W W', Below W.heap.size W W' → P j v W → P j v W') := Lib.hid (by
              rw [hP]
              intro j v W W' hb h
              match j, h with
              | 0, h => exact h
              | 1, h => exact h
              | 2, h => exact h
              | 3, h => exact h
              | 4, h => exact h
              | 5, h => exact h
              | 6, h => exact h
              | 7, h => exact h
              | 8, h => exact h
              | j + 9, _ => trivial)
            clear hP
            refine wp_region_last [47, 48, 49, 50, 51, 52, 53, 54, 55] (slotS [47, 48, 49, 50, 51, 52, 53, 54, 55]) (readsS [47, 48, 49, 50, 51, 52, 53, 54, 55]) (RP [47, 48, 49, 50, 51, 52, 53, 54, 55] P) JG (fun _ W => JH W) 9 8 rfl (by kernel_rfl) (by kernel_rfl) (by kernel_rfl) (by kernel_rfl) (HJDG.out _ HJG0.out) (fun j f q v W hq h => RP.upd hq h) ?_ ?_ ?_
            case refine_1 =>
              intro iq hiq f W hIW hdep0
              have hiq' : iq < 9 := hiq
              have hdep : ∀ j, j < 9 → depB _ iq j = true → P j (f (slotS [47, 48, 49, 50, 51, 52, 53, 54, 55] j)) W := hdep0
              clear hdep0
              generalize ha1 : putsL _ [47, 48, 49, 50, 51, 52, 53, 54, 55] f = a1
              match iq, hiq', hdep with
              | 0, _, hdep0 =>
                have E11 : a1.tmps[11]?.getD undef = .pointer (some ⟨bX, 0, none⟩) := by rw [← ha1]; exact (putsL_out2 _ _ _ _ (by decide)).trans rfl
                exact wpOp_val rfl rfl (v := .pointer (some ⟨bX, 4, none⟩)) (w' := W) (by simp [execOp, go_sem, E11]) ⟨hIW, fun _ h => h, _, by decide, rfl, RP.set ((HPI0.out _ _).2 rfl)⟩
              | 1, _, hdep0 =>
                have hd0 := (HPI0.out _ _).1 (hdep0 0 (by decide) (by kernel_rfl))
                have E47 : a1.tmps[47]?.getD undef = .pointer (some ⟨bX, 4, none⟩) := by rw [← ha1]; exact (putsL_in2 _ _ _ _ (by decide) (show 47 < 58 from by decide)).trans hd0
                have v4 : W.cell? ⟨bX, 4, none⟩ = some (.int .i64 x4) := by simpa using HCXG.out W hIW 4
                exact wpOp_val rfl rfl (v := .int .i64 x4) (w' := W) (by simp [execOp, go_sem, E47, v4]) ⟨hIW, fun _ h => h, _, by decide, rfl, RP.set ((HPI1.out _ _).2 rfl)⟩
              | 2, _, hdep0 =>
                have hd1 := (HPI1.out _ _).1 (hdep0 1 (by decide) (by kernel_rfl))
                have E48 : a1.tmps[48]?.getD undef = .int .i64 x4 := by rw [← ha1]; exact (putsL_in2 _ _ _ _ (by decide) (show 48 < 58 from by decide)).trans hd1
                exact wpOp_val rfl rfl (v := .int .i64 (c : Int)) (w' := W) (by simp [execOp, go_sem, E48, hwdc]) ⟨hIW, fun _ h => h, _, by decide, rfl, RP.set ((HPI2.out _ _).2 rfl)⟩
              | 3, _, hdep0 =>
                have hd2 := (HPI2.out _ _).1 (hdep0 2 (by decide) (by kernel_rfl))
                have E9 : a1.tmps[9]?.getD undef = .pointer (some ⟨bA, 0, none⟩) := by rw [← ha1]; exact (putsL_out2 _ _ _ _ (by decide)).trans rfl
                have E49 : a1.tmps[49]?.getD undef = .int .i64 (c : Int) := by rw [← ha1]; exact (putsL_in2 _ _ _ _ (by decide) (show 49 < 58 from by decide)).trans hd2
                exact wpOp_val rfl rfl (v := .pointer (some ⟨bA, c, none⟩)) (w' := W) (by simp [execOp, go_sem, E9, E49, hc0, hc5]) ⟨hIW, fun _ h => h, _, by decide, rfl, RP.set ((HPI3.out _ _).2 rfl)⟩
              | 4, _, hdep0 =>
                have hd3 := (HPI3.out _ _).1 (hdep0 3 (by decide) (by kernel_rfl))
                have E50 : a1.tmps[50]?.getD undef = .pointer (some ⟨bA, c, none⟩) := by rw [← ha1]; exact (putsL_in2 _ _ _ _ (by decide) (show 50 < 58 from by decide)).trans hd3
                have v4 : W.cell? ⟨bA, c, none⟩ = some (.int .i64 (G c)) := HCAc.out W hIW
                exact wpOp_val rfl rfl (v := .int .i64 (G c)) (w' := W) (by simp [execOp, go_sem, E50, v4]) ⟨hIW, fun _ h => h, _, by decide, rfl, RP.set ((HPI4.out _ _).2 rfl)⟩
              | 5, _, hdep0 =>
                have E11 : a1.tmps[11]?.getD undef = .pointer (some ⟨bX, 0, none⟩) := by rw [← ha1]; exact (putsL_out2 _ _ _ _ (by decide)).trans rfl
                exact wpOp_val rfl rfl (v := .pointer (some ⟨bX, 5, none⟩)) (w' := W) (by simp [execOp, go_sem, E11]) ⟨hIW, fun _ h => h, _, by decide, rfl, RP.set ((HPI5.out _ _).2 rfl)⟩
              | 6, _, hdep0 =>
                have hd5 := (HPI5.out _ _).1 (hdep0 5 (by decide) (by kernel_rfl))
                have E52 : a1.tmps[52]?.getD undef = .pointer (some ⟨bX, 5, none⟩) := by rw [← ha1]; exact (putsL_in2 _ _ _ _ (by decide) (show 52 < 58 from by decide)).trans hd5
                have v5 : W.cell? ⟨bX, 5, none⟩ = some (.int .i64 x5) := by simpa using HCXG.out W hIW 5
                exact wpOp_val rfl rfl (v := .int .i64 x5) (w' := W) (by simp [execOp, go_sem, E52, v5]) ⟨hIW, fun _ h => h, _, by decide, rfl, RP.set ((HPI6.out _ _).2 rfl)⟩
              | 7, _, hdep0 =>
                have hd4 := (HPI4.out _ _).1 (hdep0 4 (by decide) (by kernel_rfl))
                have hd6 := (HPI6.out _ _).1 (hdep0 6 (by decide) (by kernel_rfl))
                have E51 : a1.tmps[51]?.getD undef = .int .i64 (G c) := by rw [← ha1]; exact (putsL_in2 _ _ _ _ (by decide) (show 51 < 58 from by decide)).trans hd4
                have E53 : a1.tmps[53]?.getD undef = .int .i64 x5 := by rw [← ha1]; exact (putsL_in2 _ _ _ _ (by decide) (show 53 < 58 from by decide)).trans hd6
                exact wpOp_val rfl rfl (v := .int .i64 (G c - x5)) (w' := W) (by simp [execOp, go_sem, E51, E53, hwsc]) ⟨hIW, fun _ h => h, _, by decide, rfl, RP.set ((HPI7.out _ _).2 rfl)⟩
              | 8, _, hdep0 =>
                have hd2 := (HPI2.out _ _).1 (hdep0 2 (by decide) (by kernel_rfl))
                have E9 : a1.tmps[9]?.getD undef = .pointer (some ⟨bA, 0, none⟩) := by rw [← ha1]; exact (putsL_out2 _ _ _ _ (by decide)).trans rfl
                have E49 : a1.tmps[49]?.getD undef = .int .i64 (c : Int) := by rw [← ha1]; exact (putsL_in2 _ _ _ _ (by decide) (show 49 < 58 from by decide)).trans hd2
                exact wpOp_val rfl rfl (v := .pointer (some ⟨bA, c, none⟩)) (w' := W) (by simp [execOp, go_sem, E9, E49, hc0, hc5]) ⟨hIW, fun _ h => h, _, by decide, rfl, RP.set ((HPI8.out _ _).2 rfl)⟩
              | iq + 9, h, _ => exact absurd h (by omega)
            case refine_2 =>
              intro f W hIW hdep0
              have hdep : ∀ j, j < 9 → P j (f (slotS [47, 48, 49, 50, 51, 52, 53, 54, 55] j)) W := hdep0
              clear hdep0
              generalize ha1 : putsL _ [47, 48, 49, 50, 51, 52, 53, 54, 55] f = a1
              have E54 : a1.tmps[54]?.getD undef = .int .i64 (G c - x5) := by rw [← ha1]; exact (putsL_in2 _ _ _ _ (by decide) (show 54 < 58 from by decide)).trans ((HPI7.out _ _).1 (hdep 7 (by decide)))
              have E55 : a1.tmps[55]?.getD undef = .pointer (some ⟨bA, c, none⟩) := by rw [← ha1]; exact (putsL_in2 _ _ _ _ (by decide) (show 55 < 58 from by decide)).trans ((HPI8.out _ _).1 (hdep 8 (by decide)))
              have v4 : W.cell? ⟨bA, c, none⟩ = some (.int .i64 (G c)) := HCAc.out W hIW
              have f4 : W.frozen? ⟨bA, c, none⟩ = false := HFRc.out W hIW
              exact wpOp_skip rfl rfl (w' := W.setCell ⟨bA, c, none⟩ (.int .i64 (G c - x5))) (by simp [execOp, go_sem, E54, E55, v4, f4]) ⟨rfl, HSTc.out W hIW⟩
            case refine_3 =>
              intro f W hIW
              simp only [putsL, List.foldl_cons, List.foldl_nil, Act.put, List.setIfInBounds_toArray, List.set_cons_zero, List.set_cons_succ]
              have HI9 := Lib.hid (HJHO.out _ hIW)
              rw [HH.out] at HI9
              clear hIW HJG0 HJF0 HJDF HJDG HCXF HCXG HCAd HCAc HFRd HFRc HSTd HSTc HJHO
              go_wp2
              go_roundw
              case rel => exact ⟨j + 1, by first | rfl | go_num, by omega, HI9⟩
              case measure => simp [RowKit.intOf]; omega
        · have HI9 : Hid (SmI w bR bA (fun i : Nat => ofM 0 (amidDay lo k) (100 + (i : Int)) (l.take (j + 1))) w8) := Lib.hid (by
            have : (fun i : Nat => ofM 0 (amidDay lo k) (100 + (i : Int)) (l.take (j + 1))) = F := by
              rw [HF.out]; funext i
              have hcd : ¬ (hitE 0 (⟨x0, x1, x2, x3, x4, x5, x6, x7⟩ : Pst) && amidDay lo k x1) = true := by simp [amidDay, hlo]
              rw [HTK.out, if_neg hcd]; omega
            rw [this]; exact HI8.out)
          have h1y : x1 < lo := by omega
          clear hlo
          go_wp2
          go_roundw
          case rel => exact ⟨j + 1, by first | rfl | go_num, by omega, HI9⟩
          case measure => simp [RowKit.intOf]; omega
      · have hkn : k < x1 := by omega
        have HI9 : Hid (SmI w bR bA (fun i : Nat => ofM 0 (amidDay lo k) (100 + (i : Int)) (l.take (j + 1))) w8) := Lib.hid (by
          have : (fun i : Nat => ofM 0 (amidDay lo k) (100 + (i : Int)) (l.take (j + 1))) = F := by
            rw [HF.out]; funext i
            have hcd : ¬ (hitE 0 (⟨x0, x1, x2, x3, x4, x5, x6, x7⟩ : Pst) && amidDay lo k x1) = true := by simp [amidDay, hk]
            rw [HTK.out, if_neg hcd]; omega
          rw [this]; exact HI8.out)
        by_cases h1y : x1 < lo
        · go_wp2
          go_roundw
          case rel => exact ⟨j + 1, by first | rfl | go_num, by omega, HI9⟩
          case measure => simp [RowKit.intOf]; omega
        · go_wp2
          go_roundw
          case rel => exact ⟨j + 1, by first | rfl | go_num, by omega, HI9⟩
          case measure => simp [RowKit.intOf]; omega
    · obtain rfl : j = nl := by omega
      rw [List.take_of_length_le (by rw [← HNL.out]; exact Nat.le_refl _)] at HI
      rw [show (fun i : Nat => ofM 0 (amidDay lo k) (100 + (i : Int)) l) = FF from HFF.out.symm] at HI
      have hu : Try.prog.underlying 101 = some (.array 500 3) := by kernel_rfl
      have HU := Lib.hid hu
      clear hu
      go_upto_region 9 with fail
      go_wp2_with fail
      rename_i hK
      have hsz := HSZ.out
      rw [← arrC_size FF] at hsz
      refine wp_load_row 101 (.tmp 9) rfl bA rfl 101 (arrC FF) (0, 0) (.array 500 3) HI.out.arr HU.out rfl hsz ?_
      refine hK _ _ ?_
      clear hK hsz
      have hsz := HSZ.out
      rw [← arrC_size FF] at hsz
      refine wpList_store_row (by rfl) 101 (.tmp 8) (.tmp 57) (by rfl) bR (arrC FF) (by rfl) (by rfl) 101 (arrC fun _ => 0) HI.out.res hsz (by rw [arrC_size, arrC_size]) (arrC_one FF) ?_
      clear hsz
      have hres : (wr.setRow bR (arrC FF)).heap[bR]? = some (.cells (arrC FF) 101 (0, 0)) := setRow_heap wr bR (arrC fun _ => 0) (arrC FF) 101 (0, 0) HI.out.res
      have hbl := below_setRow HI.out.old (show w.heap.size ≤ bR by rw [HBR.out]; exact Nat.le_refl _) (arrC FF)
      have hsz := HSZ.out
      rw [← arrC_size FF] at hsz
      go_wp2
      exact bodyPost_ret (v := .agg (arrC FF)) (results_cell_row (p := 8) (ty := 101) rfl _ _ bR 101 (arrC FF) (0, 0) (.array 500 3) rfl hres HU.out rfl hsz) rfl ⟨rfl, hbl⟩

end Go.Proofs.Ytoccnindkimjdaa
