/- accrual.Provision of one right claim. -/
import Derived.Test.YtdnbbahapgkdgaaDoorAaP
import Derived.Test.YtdnbbahapgkdgaaDoorRegInv
import Derived.Deep.CutBlock
import Derived.Deep.DeepCutAuto
set_option linter.unusedSimpArgs false
set_option linter.unusedVariables false
namespace Go.Proofs.YtdnbbahapgkdgaaDoor
open Go.RowKit Go.Lib Go.Proofs

set_option maxHeartbeats 1000000 in
theorem aawithin_yes {n lo hi : Int} (w : World) (h1 : lo ≤ n) (h2 : n ≤ hi) : Calls Tryd.prog 9 #[.int .i64 n, .int .i64 lo, .int .i64 hi] w fun e w' => e = .returned (.bool true) ∧ w = w' := by
  go_enter Tryd.func9, Tryd.ntmps9
  go_wp2
  go_ret
  exact ⟨rfl, rfl⟩
set_option maxHeartbeats 1000000 in
theorem aacheckC_no {c : Clm} (h : ClmOk c) (w : World) (hL : Lay w) : Calls Tryd.prog 13 #[.agg (clmC c).toArray] w fun e w' => e = .returned (.bool false) ∧ Below w.heap.size w w' := by
  have HC := Lib.hid (fun W (hW : Below w.heap.size w W) => rcClaim_yes h W (hL.below hW (Nat.le_refl _)))
  obtain ⟨c0, c1, c2, c3, c4, c5⟩ := c
  obtain ⟨h0, h1, h2, h3, h4, h5⟩ := h
  simp only at h5
  subst h5
  simp only [clmC] at HC ⊢
  obtain ⟨w1, hw1⟩ : ∃ W, W = w.alloc (.cells #[.int .i64 c0, .int .i64 c1, .int .i64 c2, .int .i64 c3, .int .i64 c4, .string ⟨#[49]⟩] 28) := ⟨_, rfl⟩
  have HB1 : Hid (Below w.heap.size w w1) := Lib.hid (by rw [hw1]; exact below_alloc _ _)
  have HX1 : Hid (w1.heap[w.heap.size]? = some (.cells #[.int .i64 c0, .int .i64 c1, .int .i64 c2, .int .i64 c3, .int .i64 c4, .string ⟨#[49]⟩] 28 (0, 0))) := Lib.hid (by rw [hw1]; exact heap_alloc_new _ _)
  have HW1 := Lib.hid hw1
  have hx1 := HX1.out
  have q0 := obj_cell hx1 0
  have q1 := obj_cell hx1 1
  have q2 := obj_cell hx1 2
  have q3 := obj_cell hx1 3
  have q4 := obj_cell hx1 4
  have q5 := obj_cell hx1 5
  simp at q0 q1 q2 q3 q4 q5
  clear hw1 hx1 hL h0 h1 h2 h3 h4
  go_enter Tryd.func13, Tryd.ntmps13
  go_upto_region 1 with fail
  rw [← HW1.out]
  go_wp2_with fail
  refine (HC.out _ HB1.out).mono ?_
  rintro e w2 ⟨rfl, hb2⟩
  have HB2 := Lib.hid (HB1.out.trans (hb2.mono HB1.out.size))
  clear hb2
  go_wp2
  go_ret
  exact ⟨rfl, HB2.out⟩
set_option maxHeartbeats 1000000 in
theorem aacheck_one {c : Clm} (h : ClmOk c) (v : Value) (w : World) (hL : Lay w) (hl : ListAt clmC 6 w v [c]) : Calls Tryd.prog 8 #[v] w fun e w' => e = .returned (.int .i64 0) ∧ Below w.heap.size w w' := by
  have HC := Lib.hid (clmContains_any 13 #[] (enters_of Tryd.func13 (by kernel_rfl) rfl) (fun _ => false) [c] v w hl (by simp) (fun x hx W hW => by
    rw [List.mem_singleton] at hx
    subst hx
    have := aacheckC_no h W (hL.below hW (Nat.le_refl _))
    simpa using this))
  obtain ⟨a, cp, rfl, hcap, -⟩ := hl.shape clmF
  simp only [List.length_cons, List.length_nil, Nat.zero_add] at HC ⊢
  clear hl hL h
  go_enter Tryd.func8, Tryd.ntmps8
  go_wp2_with fail
  refine (HC.out).mono ?_
  rintro e w1 ⟨rfl, hb1⟩
  have HB1 := Lib.hid hb1
  simp only [List.any_cons, List.any_nil, Bool.or_false]
  clear hb1
  go_wp2
  go_ret
  exact ⟨rfl, HB1.out⟩

set_option maxRecDepth 100000 in
set_option maxHeartbeats 4000000 in
theorem aaprov_one {c : Clm} (h : ClmOk c) (day : Int) (hd : 0 ≤ day ∧ day ≤ 36000) (v : Value) (w : World) (hL : Lay w) (hl : ListAt clmC 6 w v [c]) :
    Calls Tryd.prog 6 #[v, .int .i64 day] w fun e w' => e = .returned (.tuple #[.int .i64 (c.opn * pctA (day - c.day) / 100), .int .i64 0]) ∧ Below w.heap.size w w' := by
  have HCK := Lib.hid (aacheck_one h v w hL hl)
  obtain ⟨a, cp, rfl, hcap, hcs⟩ := hl.shape clmF
  obtain ⟨b, o, rfl, hb, hcc⟩ := hcs (by simp)
  have HCC := Lib.hid (fun j (hj : j < 6) => hcc 0 (by simp) j hj)
  simp only [List.length_cons, List.length_nil, Nat.zero_add] at HCK hcap ⊢
  obtain ⟨c0, c1, c2, c3, c4, c5⟩ := c
  obtain ⟨h0, h1, h2, h3, h4, h5⟩ := h
  simp only at h0 h1 h2 h3 h4 h5
  subst h5
  simp only [clmC, List.getElem_cons_zero, Nat.zero_mul, Nat.add_zero] at HCC
  obtain ⟨dd, hdd⟩ : ∃ z, z = day - c4 := ⟨_, rfl⟩
  obtain ⟨pc, hpc⟩ : ∃ z, z = pctA dd := ⟨_, rfl⟩
  have hpi := pctA_in dd
  rw [← hpc] at hpi
  obtain ⟨q, hq⟩ : ∃ z, z = c3 * pc / 100 := ⟨_, rfl⟩
  have hmb := mul_pct (n := c3) (p := pc) ⟨h3.1, by omega⟩ hpi
  have hqb : 0 ≤ q ∧ q ≤ 1000000000000 := by rw [hq]; omega
  have HPA := Lib.hid (fun W => aapercent_any dd W)
  rw [← hpc] at HPA
  have HPR := Lib.hid (fun W => pct_ok (n := c3) (p := pc) ⟨h3.1, by omega⟩ hpi W)
  rw [← hq] at HPR
  show Calls _ _ _ _ fun e w' => e = .returned (.tuple #[.int .i64 (c3 * pctA (day - c4) / 100), .int .i64 0]) ∧ _
  rw [← hdd, ← hpc, ← hq]
  have hwd : IntKind.i64.wrap (day - c4) = dd := by rw [hdd]; exact IntWalk.i64_in _ (by omega)
  have hwq : IntKind.i64.wrap q = q := IntWalk.i64_in _ (by omega)
  have egA := enters_of Tryd.func11 (by kernel_rfl) rfl
  have egP := enters_of Tryd.func10 (by kernel_rfl) rfl
  clear hl hL hcs hcc hdd hpc hpi hq hmb
  go_enter Tryd.func6, Tryd.ntmps6
  go_wp2_with fail
  refine (HCK.out).mono ?_
  rintro e w1 ⟨rfl, hb1⟩
  have HB1 := Lib.hid hb1
  clear hb1
  go_wp2_with fail
  refine (aawithin_yes _ hd.1 hd.2).mono ?_
  rintro e w' ⟨rfl, rfl⟩
  go_wp2
  go_loopw [7, 22] (fun sv iv wr => ∃ j : Nat, sv = .int .i64 (if j = 0 then 0 else q) ∧ iv = .int .i64 j ∧ j ≤ 1 ∧ Hid (Below w.heap.size w wr)) (fun _ iv _ => 1 - (RowKit.intOf iv).toNat)
  case atStart => exact ⟨0, rfl, rfl, by omega, HB1⟩
  case round =>
    obtain ⟨j, rfl, rfl, hj1, HB⟩ := hrel
    rcases (by omega : j = 0 ∨ j = 1) with rfl | rfl
    · simp only [if_pos]
      have y0 : wr.cell? ⟨b, o, none⟩ = some (.int .i64 c0) := (HB.out.cell (p := ⟨b, o + 0, none⟩) hb).trans (HCC.out 0 (by omega))
      have y1 : wr.cell? ⟨b, o + 1, none⟩ = some (.int .i64 c1) := (HB.out.cell (p := ⟨b, o + 1, none⟩) hb).trans (HCC.out 1 (by omega))
      have y2 : wr.cell? ⟨b, o + 2, none⟩ = some (.int .i64 c2) := (HB.out.cell (p := ⟨b, o + 2, none⟩) hb).trans (HCC.out 2 (by omega))
      have y3 : wr.cell? ⟨b, o + 3, none⟩ = some (.int .i64 c3) := (HB.out.cell (p := ⟨b, o + 3, none⟩) hb).trans (HCC.out 3 (by omega))
      have y4 : wr.cell? ⟨b, o + 4, none⟩ = some (.int .i64 c4) := (HB.out.cell (p := ⟨b, o + 4, none⟩) hb).trans (HCC.out 4 (by omega))
      have y5 : wr.cell? ⟨b, o + 5, none⟩ = some (.string ⟨#[49]⟩) := (HB.out.cell (p := ⟨b, o + 5, none⟩) hb).trans (HCC.out 5 (by omega))
      obtain ⟨w8, hw8⟩ : ∃ W, W = wr.alloc (.cells #[.int .i64 c0, .int .i64 c1, .int .i64 c2, .int .i64 c3, .int .i64 c4, .string ⟨#[49]⟩] 28) := ⟨_, rfl⟩
      obtain ⟨bX, hbX⟩ : ∃ q, q = wr.heap.size := ⟨_, rfl⟩
      have HX8 : Hid (w8.heap[bX]? = some (.cells #[.int .i64 c0, .int .i64 c1, .int .i64 c2, .int .i64 c3, .int .i64 c4, .string ⟨#[49]⟩] 28 (0, 0))) := Lib.hid (by rw [hw8, hbX]; exact heap_alloc_new _ _)
      have HB8 : Hid (Below w.heap.size w w8) := Lib.hid (by rw [hw8]; exact HB.out.alloc HB.out.size _)
      have HW8 := Lib.hid hw8
      have HBX := Lib.hid hbX
      obtain ⟨J, hJ⟩ : ∃ J, J = fun W : World => Below w8.heap.size w8 W := ⟨_, rfl⟩
      have HJO : Hid (∀ W, J W → Below w8.heap.size w8 W) := Lib.hid fun W hW => by rw [hJ] at hW; exact hW
      have HJI : Hid (∀ W, Below w8.heap.size w8 W → J W) := Lib.hid fun W hW => by rw [hJ]; exact hW
      have HJD : Hid (∀ W, J W → J W.drew) := Lib.hid fun W hW => HJI.out _ ((HJO.out W hW).drew)
      have HJ0 : Hid (J w8) := Lib.hid (HJI.out _ (Below.refl _ _))
      have HCX : Hid (∀ W, J W → ∀ i, W.cell? ⟨bX, i, none⟩ = #[.int .i64 c0, .int .i64 c1, .int .i64 c2, .int .i64 c3, .int .i64 c4, .string ⟨#[49]⟩][i]?) := Lib.hid fun W hW i => obj_cell (obj_below HX8.out (HJO.out W hW)) i
      have HPC : Hid (∀ W, J W → Calls Tryd.prog 11 #[.int .i64 dd] W fun e w' => e = .returned (.int .i64 pc) ∧ J w') := Lib.hid fun W hW => (HPA.out W).mono fun e w' g => ⟨g.1, HJI.out _ ((HJO.out W hW).trans (g.2.mono (HJO.out W hW).size))⟩
      have HPM : Hid (∀ W, J W → Calls Tryd.prog 10 #[.int .i64 c3, .int .i64 pc] W fun e w' => e = .returned (.tuple #[.int .i64 q, .int .i64 0]) ∧ J w') := Lib.hid fun W hW => (HPR.out W).mono fun e w' g => ⟨g.1, g.2 ▸ hW⟩
      clear hw8 hbX hJ
      go_upto_region 10 with fail
      rw [← HW8.out, ← HBX.out]
      clear y0 y1 y2 y3 y4 y5
      go_cut [10] (fun gv wx => gv = .int .i64 q ∧ Hid (J wx))
      case first =>
        refine wp_region_props [27, 28, 29, 30, 31, 32, 33, 34, 26, 35, 36, 10, 11] (slotS [27, 28, 29, 30, 31, 32, 33, 34, 26, 35, 36, 10, 11]) (readsS [27, 28, 29, 30, 31, 32, 33, 34, 26, 35, 36, 10, 11]) (RTs [27, 28, 29, 30, 31, 32, 33, 34, 26, 35, 36, 10, 11] [.pointer (some ⟨bX, 3, none⟩), .int .i64 c3, .int .i64 day, .pointer (some ⟨bX, 4, none⟩), .int .i64 c4, .int .i64 dd, .int .i64 pc, .tuple #[.int .i64 q, .int .i64 0], .tuple #[.int .i64 q, .int .i64 0], .int .i64 q, .int .i64 0, .int .i64 q, .int .i64 0]) J (by kernel_rfl) (by kernel_rfl) (by kernel_rfl) (HJD.out _ HJ0.out) (fun j f q v W hq h => RTs.upd hq h) ?_ ?_
        case refine_1 =>
          intro iq hiq f W hIW hdep
          have hiq' : iq < 13 := hiq
          generalize ha1 : putsL _ [27, 28, 29, 30, 31, 32, 33, 34, 26, 35, 36, 10, 11] f = a1
          match iq, hiq', hdep with
          | 0, _, hdep =>
            have E9 : a1.tmps[9]?.getD undef = .pointer (some ⟨bX, 0, none⟩) := by rw [← ha1]; exact (putsL_out2 _ _ _ _ (by decide)).trans rfl
            exact wpOp_val rfl rfl (v := .pointer (some ⟨bX, 3, none⟩)) (w' := W) (by simp [execOp, go_sem, E9]) ⟨hIW, fun _ h => h, Or.inl ⟨_, by decide, rfl, updF_same _ _ _⟩⟩
          | 1, _, hdep =>
            have E27 : a1.tmps[27]?.getD undef = .pointer (some ⟨bX, 3, none⟩) := by rw [← ha1]; exact (putsL_in2 _ _ _ _ (by decide) (show 27 < 42 from by decide)).trans (hdep 0 (by kernel_rfl))
            have v3 : W.cell? ⟨bX, 3, none⟩ = some (.int .i64 c3) := by simpa using HCX.out W hIW 3
            exact wpOp_val rfl rfl (v := .int .i64 c3) (w' := W) (by simp [execOp, go_sem, E27, v3]) ⟨hIW, fun _ h => h, Or.inl ⟨_, by decide, rfl, updF_same _ _ _⟩⟩
          | 2, _, hdep =>
            have E1 : a1.tmps[1]?.getD undef = .int .i64 day := by rw [← ha1]; exact (putsL_out2 _ _ _ _ (by decide)).trans rfl
            exact wpOp_val rfl rfl (v := .int .i64 day) (w' := W) (by simp [execOp, go_sem, E1]) ⟨hIW, fun _ h => h, Or.inl ⟨_, by decide, rfl, updF_same _ _ _⟩⟩
          | 3, _, hdep =>
            have E9 : a1.tmps[9]?.getD undef = .pointer (some ⟨bX, 0, none⟩) := by rw [← ha1]; exact (putsL_out2 _ _ _ _ (by decide)).trans rfl
            exact wpOp_val rfl rfl (v := .pointer (some ⟨bX, 4, none⟩)) (w' := W) (by simp [execOp, go_sem, E9]) ⟨hIW, fun _ h => h, Or.inl ⟨_, by decide, rfl, updF_same _ _ _⟩⟩
          | 4, _, hdep =>
            have E30 : a1.tmps[30]?.getD undef = .pointer (some ⟨bX, 4, none⟩) := by rw [← ha1]; exact (putsL_in2 _ _ _ _ (by decide) (show 30 < 42 from by decide)).trans (hdep 3 (by kernel_rfl))
            have v4 : W.cell? ⟨bX, 4, none⟩ = some (.int .i64 c4) := by simpa using HCX.out W hIW 4
            exact wpOp_val rfl rfl (v := .int .i64 c4) (w' := W) (by simp [execOp, go_sem, E30, v4]) ⟨hIW, fun _ h => h, Or.inl ⟨_, by decide, rfl, updF_same _ _ _⟩⟩
          | 5, _, hdep =>
            have E29 : a1.tmps[29]?.getD undef = .int .i64 day := by rw [← ha1]; exact (putsL_in2 _ _ _ _ (by decide) (show 29 < 42 from by decide)).trans (hdep 2 (by kernel_rfl))
            have E31 : a1.tmps[31]?.getD undef = .int .i64 c4 := by rw [← ha1]; exact (putsL_in2 _ _ _ _ (by decide) (show 31 < 42 from by decide)).trans (hdep 4 (by kernel_rfl))
            exact wpOp_val rfl rfl (v := .int .i64 dd) (w' := W) (by simp [execOp, go_sem, E29, E31, hwd]) ⟨hIW, fun _ h => h, Or.inl ⟨_, by decide, rfl, updF_same _ _ _⟩⟩
          | 6, _, hdep =>
            have E32 : a1.tmps[32]?.getD undef = .int .i64 dd := by rw [← ha1]; exact (putsL_in2 _ _ _ _ (by decide) (show 32 < 42 from by decide)).trans (hdep 5 (by kernel_rfl))
            refine wpOp_call rfl rfl (n := 11) (vs := #[.int .i64 dd]) (by have := egA #[.int .i64 dd] W; simp [execOp, E32, resolve, invoke, go_sem] <;> exact this) ((HPC.out W hIW).mono fun e w' h => (⟨_, h.1, rfl, h.2⟩ : ∃ v, e = .returned v ∧ (v = .int .i64 pc ∧ J w'))) ?_
            rintro v w' ⟨rfl, hI'⟩
            exact ⟨hI', fun _ h => h, Or.inl ⟨_, by decide, rfl, updF_same _ _ _⟩⟩
          | 7, _, hdep =>
            have E28 : a1.tmps[28]?.getD undef = .int .i64 c3 := by rw [← ha1]; exact (putsL_in2 _ _ _ _ (by decide) (show 28 < 42 from by decide)).trans (hdep 1 (by kernel_rfl))
            have E33 : a1.tmps[33]?.getD undef = .int .i64 pc := by rw [← ha1]; exact (putsL_in2 _ _ _ _ (by decide) (show 33 < 42 from by decide)).trans (hdep 6 (by kernel_rfl))
            refine wpOp_call rfl rfl (n := 10) (vs := #[.int .i64 c3, .int .i64 pc]) (by have := egP #[.int .i64 c3, .int .i64 pc] W; simp [execOp, E28, E33, resolve, invoke, go_sem] <;> exact this) ((HPM.out W hIW).mono fun e w' h => (⟨_, h.1, rfl, h.2⟩ : ∃ v, e = .returned v ∧ (v = .tuple #[.int .i64 q, .int .i64 0] ∧ J w'))) ?_
            rintro v w' ⟨rfl, hI'⟩
            exact ⟨hI', fun _ h => h, Or.inl ⟨_, by decide, rfl, updF_same _ _ _⟩⟩
          | 8, _, hdep =>
            have E34 : a1.tmps[34]?.getD undef = .tuple #[.int .i64 q, .int .i64 0] := by rw [← ha1]; exact (putsL_in2 _ _ _ _ (by decide) (show 34 < 42 from by decide)).trans (hdep 7 (by kernel_rfl))
            exact wpOp_val rfl rfl (v := .tuple #[.int .i64 q, .int .i64 0]) (w' := W) (by simp [execOp, go_sem, E34]) ⟨hIW, fun _ h => h, Or.inl ⟨_, by decide, rfl, updF_same _ _ _⟩⟩
          | 9, _, hdep =>
            have E26 : a1.tmps[26]?.getD undef = .tuple #[.int .i64 q, .int .i64 0] := by rw [← ha1]; exact (putsL_in2 _ _ _ _ (by decide) (show 26 < 42 from by decide)).trans (hdep 8 (by kernel_rfl))
            exact wpOp_val rfl rfl (v := .int .i64 q) (w' := W) (by simp [execOp, go_sem, E26]) ⟨hIW, fun _ h => h, Or.inl ⟨_, by decide, rfl, updF_same _ _ _⟩⟩
          | 10, _, hdep =>
            have E26 : a1.tmps[26]?.getD undef = .tuple #[.int .i64 q, .int .i64 0] := by rw [← ha1]; exact (putsL_in2 _ _ _ _ (by decide) (show 26 < 42 from by decide)).trans (hdep 8 (by kernel_rfl))
            exact wpOp_val rfl rfl (v := .int .i64 0) (w' := W) (by simp [execOp, go_sem, E26]) ⟨hIW, fun _ h => h, Or.inl ⟨_, by decide, rfl, updF_same _ _ _⟩⟩
          | 11, _, hdep =>
            have E35 : a1.tmps[35]?.getD undef = .int .i64 q := by rw [← ha1]; exact (putsL_in2 _ _ _ _ (by decide) (show 35 < 42 from by decide)).trans (hdep 9 (by kernel_rfl))
            exact wpOp_val rfl rfl (v := .int .i64 q) (w' := W) (by simp [execOp, go_sem, E35]) ⟨hIW, fun _ h => h, Or.inl ⟨_, by decide, rfl, updF_same _ _ _⟩⟩
          | 12, _, hdep =>
            have E36 : a1.tmps[36]?.getD undef = .int .i64 0 := by rw [← ha1]; exact (putsL_in2 _ _ _ _ (by decide) (show 36 < 42 from by decide)).trans (hdep 10 (by kernel_rfl))
            exact wpOp_val rfl rfl (v := .int .i64 0) (w' := W) (by simp [execOp, go_sem, E36]) ⟨hIW, fun _ h => h, Or.inl ⟨_, by decide, rfl, updF_same _ _ _⟩⟩
          | iq + 13, h, _ => exact absurd h (by omega)
        case refine_2 =>
          intro f W hIW hR
          have h10 : f 10 = .int .i64 q := hR 11 (show 11 < 13 from by decide)
          simp only [putsL, List.foldl_cons, List.foldl_nil, Act.put, List.setIfInBounds_toArray, List.set_cons_zero, List.set_cons_succ]
          go_wp2
          go_meet
          exact ⟨(by first | exact h10 | rfl), Lib.hid hIW⟩
      case rest =>
        obtain ⟨rfl, HJ⟩ := hcut
        have HB9 := Lib.hid (HB8.out.trans ((HJO.out _ HJ.out).mono HB8.out.size))
        clear HJ HJO HJI HJD HJ0 HCX HPC HPM
        have hw0 : IntKind.i64.wrap (0 + q) = q := by rw [Int.zero_add]; exact hwq
        go_wp2
        go_roundw
        case rel => exact ⟨1, by first | rfl | simp, by first | rfl | go_num, by omega, HB9⟩
        case measure => simp [RowKit.intOf]
    · rw [if_neg (by decide : ¬ (1 : Nat) = 0)]
      go_wp2
      go_ret2
      exact ⟨rfl, HB.out⟩

end Go.Proofs.YtdnbbahapgkdgaaDoor
