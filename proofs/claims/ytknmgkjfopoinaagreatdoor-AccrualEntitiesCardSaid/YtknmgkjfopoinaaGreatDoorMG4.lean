/- Texts of one claim, merged: AaQ, AaR. -/
import Derived.Test.YtknmgkjfopoinaaGreatDoorMAaP
import Derived.Test.YtknmgkjfopoinaaGreatDoorMRegInv
import Derived.Deep.CutBlock
import Derived.Deep.DeepCutAuto
/- accrual.Provision of one right claim. -/
set_option linter.unusedSimpArgs false
set_option linter.unusedVariables false
set_option linter.unusedSimpArgs false
set_option linter.unusedVariables false
namespace Go.Proofs.YtknmgkjfopoinaaGreatDoor
open Go.RowKit Go.Lib Go.Proofs

set_option maxHeartbeats 1000000 in
theorem aawithin_yes {n lo hi : Int} (w : World) (h1 : lo ≤ n) (h2 : n ≤ hi) : Calls Tryz.prog 28 #[.int .i64 n, .int .i64 lo, .int .i64 hi] w fun e w' => e = .returned (.bool true) ∧ w = w' := by
  go_enter Tryz.func28, Tryz.ntmps28
  go_wp2
  go_ret
  exact ⟨rfl, rfl⟩
set_option maxHeartbeats 1000000 in
theorem aacheckC_no {c : Clm} (h : ClmOk c) (w : World) (hL : Lay w) : Calls Tryz.prog 52 #[.agg (clmC c).toArray] w fun e w' => e = .returned (.bool false) ∧ Below w.heap.size w w' := by
  have HC := Lib.hid (fun W (hW : Below w.heap.size w W) => rcClaim_yes h W (hL.below hW (Nat.le_refl _)))
  obtain ⟨c0, c1, c2, c3, c4, c5⟩ := c
  obtain ⟨h0, h1, h2, h3, h4, h5⟩ := h
  simp only at h5
  subst h5
  simp only [clmC] at HC ⊢
  obtain ⟨w1, hw1⟩ : ∃ W, W = w.alloc (.cells #[.int .i64 c0, .int .i64 c1, .int .i64 c2, .int .i64 c3, .int .i64 c4, .string ⟨#[49]⟩] 39) := ⟨_, rfl⟩
  have HB1 : Hid (Below w.heap.size w w1) := Lib.hid (by rw [hw1]; exact below_alloc _ _)
  have HX1 : Hid (w1.heap[w.heap.size]? = some (.cells #[.int .i64 c0, .int .i64 c1, .int .i64 c2, .int .i64 c3, .int .i64 c4, .string ⟨#[49]⟩] 39 (0, 0))) := Lib.hid (by rw [hw1]; exact heap_alloc_new _ _)
  have HW1 := Lib.hid hw1
  have hx1 := HX1.out
  have q0 := obj_cell hx1 0
  have q1 := obj_cell hx1 1
  have q2 := obj_cell hx1 2
  have q3 := obj_cell hx1 3
  have q4 := obj_cell hx1 4
  have q5 := obj_cell hx1 5
  simp at q0 q1 q2 q3 q4 q5
  clear hw1 hx1 hL h0 h1 h2 h3 h4
  go_enter Tryz.func52, Tryz.ntmps52
  go_upto_region 1 with fail
  rw [← HW1.out]
  go_wp2_with fail
  refine (HC.out _ HB1.out).mono ?_
  rintro e w2 ⟨rfl, hb2⟩
  have HB2 := Lib.hid (HB1.out.trans (hb2.mono HB1.out.size))
  clear hb2
  go_wp2
  go_ret
  exact ⟨rfl, HB2.out⟩
set_option maxHeartbeats 1000000 in
theorem aacheck_one {c : Clm} (h : ClmOk c) (v : Value) (w : World) (hL : Lay w) (hl : ListAt clmC 6 w v [c]) : Calls Tryz.prog 27 #[v] w fun e w' => e = .returned (.int .i64 0) ∧ Below w.heap.size w w' := by
  have HC := Lib.hid (clmContains_any 52 #[] (enters_of Tryz.func52 (by kernel_rfl) rfl) (fun _ => false) [c] v w hl (by simp) (fun x hx W hW => by
    rw [List.mem_singleton] at hx
    subst hx
    have := aacheckC_no h W (hL.below hW (Nat.le_refl _))
    simpa using this))
  obtain ⟨a, cp, rfl, hcap, -⟩ := hl.shape clmF
  simp only [List.length_cons, List.length_nil, Nat.zero_add] at HC ⊢
  clear hl hL h
  go_enter Tryz.func27, Tryz.ntmps27
  go_wp2_with fail
  refine (HC.out).mono ?_
  rintro e w1 ⟨rfl, hb1⟩
  have HB1 := Lib.hid hb1
  simp only [List.any_cons, List.any_nil, Bool.or_false]
  clear hb1
  go_wp2
  go_ret
  exact ⟨rfl, HB1.out⟩

set_option maxRecDepth 100000 in
set_option maxHeartbeats 4000000 in
theorem aaprov_one {c : Clm} (h : ClmOk c) (day : Int) (hd : 0 ≤ day ∧ day ≤ 36000) (v : Value) (w : World) (hL : Lay w) (hl : ListAt clmC 6 w v [c]) :
    Calls Tryz.prog 11 #[v, .int .i64 day] w fun e w' => e = .returned (.tuple #[.int .i64 (c.opn * pctA (day - c.day) / 100), .int .i64 0]) ∧ Below w.heap.size w w' := by
  have HCK := Lib.hid (aacheck_one h v w hL hl)
  obtain ⟨a, cp, rfl, hcap, hcs⟩ := hl.shape clmF
  obtain ⟨b, o, rfl, hb, hcc⟩ := hcs (by simp)
  have HCC := Lib.hid (fun j (hj : j < 6) => hcc 0 (by simp) j hj)
  simp only [List.length_cons, List.length_nil, Nat.zero_add] at HCK hcap ⊢
  obtain ⟨c0, c1, c2, c3, c4, c5⟩ := c
  obtain ⟨h0, h1, h2, h3, h4, h5⟩ := h
  simp only at h0 h1 h2 h3 h4 h5
  subst h5
  simp only [clmC, List.getElem_cons_zero, Nat.zero_mul, Nat.add_zero] at HCC
  obtain ⟨dd, hdd⟩ : ∃ z, z = day - c4 := ⟨_, rfl⟩
  obtain ⟨pc, hpc⟩ : ∃ z, z = pctA dd := ⟨_, rfl⟩
  have hpi := pctA_in dd
  rw [← hpc] at hpi
  obtain ⟨q, hq⟩ : ∃ z, z = c3 * pc / 100 := ⟨_, rfl⟩
  have hmb := mul_pct (n := c3) (p := pc) ⟨h3.1, by omega⟩ hpi
  have hqb : 0 ≤ q ∧ q ≤ 1000000000000 := by rw [hq]; omega
  have HPA := Lib.hid (fun W => aapercent_any dd W)
  rw [← hpc] at HPA
  have HPR := Lib.hid (fun W => pct_ok (n := c3) (p := pc) ⟨h3.1, by omega⟩ hpi W)
  rw [← hq] at HPR
  show Calls _ _ _ _ fun e w' => e = .returned (.tuple #[.int .i64 (c3 * pctA (day - c4) / 100), .int .i64 0]) ∧ _
  rw [← hdd, ← hpc, ← hq]
  have hwd : IntKind.i64.wrap (day - c4) = dd := by rw [hdd]; exact IntWalk.i64_in _ (by omega)
  have hwq : IntKind.i64.wrap q = q := IntWalk.i64_in _ (by omega)
  have egA := enters_of Tryz.func30 (by kernel_rfl) rfl
  have egP := enters_of Tryz.func29 (by kernel_rfl) rfl
  clear hl hL hcs hcc hdd hpc hpi hq hmb
  go_enter Tryz.func11, Tryz.ntmps11
  go_wp2_with fail
  refine (HCK.out).mono ?_
  rintro e w1 ⟨rfl, hb1⟩
  have HB1 := Lib.hid hb1
  clear hb1
  go_wp2_with fail
  refine (aawithin_yes _ hd.1 hd.2).mono ?_
  rintro e w' ⟨rfl, rfl⟩
  go_wp2
  go_loopw [7, 22] (fun sv iv wr => ∃ j : Nat, sv = .int .i64 (if j = 0 then 0 else q) ∧ iv = .int .i64 j ∧ j ≤ 1 ∧ Hid (Below w.heap.size w wr)) (fun _ iv _ => 1 - (RowKit.intOf iv).toNat)
  case atStart => exact ⟨0, rfl, rfl, by omega, HB1⟩
  case round =>
    obtain ⟨j, rfl, rfl, hj1, HB⟩ := hrel
    rcases (by omega : j = 0 ∨ j = 1) with rfl | rfl
    · simp only [if_pos]
      have y0 : wr.cell? ⟨b, o, none⟩ = some (.int .i64 c0) := (HB.out.cell (p := ⟨b, o + 0, none⟩) hb).trans (HCC.out 0 (by omega))
      have y1 : wr.cell? ⟨b, o + 1, none⟩ = some (.int .i64 c1) := (HB.out.cell (p := ⟨b, o + 1, none⟩) hb).trans (HCC.out 1 (by omega))
      have y2 : wr.cell? ⟨b, o + 2, none⟩ = some (.int .i64 c2) := (HB.out.cell (p := ⟨b, o + 2, none⟩) hb).trans (HCC.out 2 (by omega))
      have y3 : wr.cell? ⟨b, o + 3, none⟩ = some (.int .i64 c3) := (HB.out.cell (p := ⟨b, o + 3, none⟩) hb).trans (HCC.out 3 (by omega))
      have y4 : wr.cell? ⟨b, o + 4, none⟩ = some (.int .i64 c4) := (HB.out.cell (p := ⟨b, o + 4, none⟩) hb).trans (HCC.out 4 (by omega))
      have y5 : wr.cell? ⟨b, o + 5, none⟩ = some (.string ⟨#[49]⟩) := (HB.out.cell (p := ⟨b, o + 5, none⟩) hb).trans (HCC.out 5 (by omega))
      obtain ⟨w8, hw8⟩ : ∃ W, W = wr.alloc (.cells #[.int .i64 c0, .int .i64 c1, .int .i64 c2, .int .i64 c3, .int .i64 c4, .string ⟨#[49]⟩] 39) := ⟨_, rfl⟩
      obtain ⟨bX, hbX⟩ : ∃ q, q = wr.heap.size := ⟨_, rfl⟩
      have HX8 : Hid (w8.heap[bX]? = some (.cells #[.int .i64 c0, .int .i64 c1, .int .i64 c2, .int .i64 c3, .int .i64 c4, .string ⟨#[49]⟩] 39 (0, 0))) := Lib.hid (by rw [hw8, hbX]; exact heap_alloc_new _ _)
      have HB8 : Hid (Below w.heap.size w w8) := Lib.hid (by rw [hw8]; exact HB.out.alloc HB.out.size _)
      have HW8 := Lib.hid hw8
      have HBX := Lib.hid hbX
      obtain ⟨J, hJ⟩ : ∃ J, J = fun W : World => Below w8.heap.size w8 W := ⟨_, rfl⟩
      have HJO : Hid (∀ W, J W → Below w8.heap.size w8 W) := Lib.hid fun W hW => by rw [hJ] at hW; exact hW
      have HJI : Hid (∀ W, Below w8.heap.size w8 W → J W) := Lib.hid fun W hW => by rw [hJ]; exact hW
      have HJD : Hid (∀ W, J W → J W.drew) := Lib.hid fun W hW => HJI.out _ ((HJO.out W hW).drew)
      have HJ0 : Hid (J w8) := Lib.hid (HJI.out _ (Below.refl _ _))
      have HCX : Hid (∀ W, J W → ∀ i, W.cell? ⟨bX, i, none⟩ = #[.int .i64 c0, .int .i64 c1, .int .i64 c2, .int .i64 c3, .int .i64 c4, .string ⟨#[49]⟩][i]?) := Lib.hid fun W hW i => obj_cell (obj_below HX8.out (HJO.out W hW)) i
      have HPC : Hid (∀ W, J W → Calls Tryz.prog 30 #[.int .i64 dd] W fun e w' => e = .returned (.int .i64 pc) ∧ J w') := Lib.hid fun W hW => (HPA.out W).mono fun e w' g => ⟨g.1, HJI.out _ ((HJO.out W hW).trans (g.2.mono (HJO.out W hW).size))⟩
      have HPM : Hid (∀ W, J W → Calls Tryz.prog 29 #[.int .i64 c3, .int .i64 pc] W fun e w' => e = .returned (.tuple #[.int .i64 q, .int .i64 0]) ∧ J w') := Lib.hid fun W hW => (HPR.out W).mono fun e w' g => ⟨g.1, g.2 ▸ hW⟩
      clear hw8 hbX hJ
      go_upto_region 10 with fail
      rw [← HW8.out, ← HBX.out]
      clear y0 y1 y2 y3 y4 y5
      go_cut [10] (fun gv wx => gv = .int .i64 q ∧ Hid (J wx))
      case first =>
        refine wp_region_props [27, 28, 29, 30, 31, 32, 33, 34, 26, 35, 36, 10, 11] (slotS [27, 28, 29, 30, 31, 32, 33, 34, 26, 35, 36, 10, 11]) (readsS [27, 28, 29, 30, 31, 32, 33, 34, 26, 35, 36, 10, 11]) (RTs [27, 28, 29, 30, 31, 32, 33, 34, 26, 35, 36, 10, 11] [.pointer (some ⟨bX, 3, none⟩), .int .i64 c3, .int .i64 day, .pointer (some ⟨bX, 4, none⟩), .int .i64 c4, .int .i64 dd, .int .i64 pc, .tuple #[.int .i64 q, .int .i64 0], .tuple #[.int .i64 q, .int .i64 0], .int .i64 q, .int .i64 0, .int .i64 q, .int .i64 0]) J (by kernel_rfl) (by kernel_rfl) (by kernel_rfl) (HJD.out _ HJ0.out) (fun j f q v W hq h => RTs.upd hq h) ?_ ?_
        case refine_1 =>
          intro iq hiq f W hIW hdep
          have hiq' : iq < 13 := hiq
          generalize ha1 : putsL _ [27, 28, 29, 30, 31, 32, 33, 34, 26, 35, 36, 10, 11] f = a1
          match iq, hiq', hdep with
          | 0, _, hdep =>
            have E9 : a1.tmps[9]?.getD undef = .pointer (some ⟨bX, 0, none⟩) := by rw [← ha1]; exact (putsL_out2 _ _ _ _ (by decide)).trans rfl
            exact wpOp_val rfl rfl (v := .pointer (some ⟨bX, 3, none⟩)) (w' := W) (by simp [execOp, go_sem, E9]) ⟨hIW, fun _ h => h, Or.inl ⟨_, by decide, rfl, updF_same _ _ _⟩⟩
          | 1, _, hdep =>
            have E27 : a1.tmps[27]?.getD undef = .pointer (some ⟨bX, 3, none⟩) := by rw [← ha1]; exact (putsL_in2 _ _ _ _ (by decide) (show 27 < 42 from by decide)).trans (hdep 0 (by kernel_rfl))
            have v3 : W.cell? ⟨bX, 3, none⟩ = some (.int .i64 c3) := by simpa using HCX.out W hIW 3
            exact wpOp_val rfl rfl (v := .int .i64 c3) (w' := W) (by simp [execOp, go_sem, E27, v3]) ⟨hIW, fun _ h => h, Or.inl ⟨_, by decide, rfl, updF_same _ _ _⟩⟩
          | 2, _, hdep =>
            have E1 : a1.tmps[1]?.getD undef = .int .i64 day := by rw [← ha1]; exact (putsL_out2 _ _ _ _ (by decide)).trans rfl
            exact wpOp_val rfl rfl (v := .int .i64 day) (w' := W) (by simp [execOp, go_sem, E1]) ⟨hIW, fun _ h => h, Or.inl ⟨_, by decide, rfl, updF_same _ _ _⟩⟩
          | 3, _, hdep =>
            have E9 : a1.tmps[9]?.getD undef = .pointer (some ⟨bX, 0, none⟩) := by rw [← ha1]; exact (putsL_out2 _ _ _ _ (by decide)).trans rfl
            exact wpOp_val rfl rfl (v := .pointer (some ⟨bX, 4, none⟩)) (w' := W) (by simp [execOp, go_sem, E9]) ⟨hIW, fun _ h => h, Or.inl ⟨_, by decide, rfl, updF_same _ _ _⟩⟩
          | 4, _, hdep =>
            have E30 : a1.tmps[30]?.getD undef = .pointer (some ⟨bX, 4, none⟩) := by rw [← ha1]; exact (putsL_in2 _ _ _ _ (by decide) (show 30 < 42 from by decide)).trans (hdep 3 (by kernel_rfl))
            have v4 : W.cell? ⟨bX, 4, none⟩ = some (.int .i64 c4) := by simpa using HCX.out W hIW 4
            exact wpOp_val rfl rfl (v := .int .i64 c4) (w' := W) (by simp [execOp, go_sem, E30, v4]) ⟨hIW, fun _ h => h, Or.inl ⟨_, by decide, rfl, updF_same _ _ _⟩⟩
          | 5, _, hdep =>
            have E29 : a1.tmps[29]?.getD undef = .int .i64 day := by rw [← ha1]; exact (putsL_in2 _ _ _ _ (by decide) (show 29 < 42 from by decide)).trans (hdep 2 (by kernel_rfl))
            have E31 : a1.tmps[31]?.getD undef = .int .i64 c4 := by rw [← ha1]; exact (putsL_in2 _ _ _ _ (by decide) (show 31 < 42 from by decide)).trans (hdep 4 (by kernel_rfl))
            exact wpOp_val rfl rfl (v := .int .i64 dd) (w' := W) (by simp [execOp, go_sem, E29, E31, hwd]) ⟨hIW, fun _ h => h, Or.inl ⟨_, by decide, rfl, updF_same _ _ _⟩⟩
          | 6, _, hdep =>
            have E32 : a1.tmps[32]?.getD undef = .int .i64 dd := by rw [← ha1]; exact (putsL_in2 _ _ _ _ (by decide) (show 32 < 42 from by decide)).trans (hdep 5 (by kernel_rfl))
            refine wpOp_call rfl rfl (n := 30) (vs := #[.int .i64 dd]) (by have := egA #[.int .i64 dd] W; simp [execOp, E32, resolve, invoke, go_sem] <;> exact this) ((HPC.out W hIW).mono fun e w' h => (⟨_, h.1, rfl, h.2⟩ : ∃ v, e = .returned v ∧ (v = .int .i64 pc ∧ J w'))) ?_
            rintro v w' ⟨rfl, hI'⟩
            exact ⟨hI', fun _ h => h, Or.inl ⟨_, by decide, rfl, updF_same _ _ _⟩⟩
          | 7, _, hdep =>
            have E28 : a1.tmps[28]?.getD undef = .int .i64 c3 := by rw [← ha1]; exact (putsL_in2 _ _ _ _ (by decide) (show 28 < 42 from by decide)).trans (hdep 1 (by kernel_rfl))
            have E33 : a1.tmps[33]?.getD undef = .int .i64 pc := by rw [← ha1]; exact (putsL_in2 _ _ _ _ (by decide) (show 33 < 42 from by decide)).trans (hdep 6 (by kernel_rfl))
            refine wpOp_call rfl rfl (n := 29) (vs := #[.int .i64 c3, .int .i64 pc]) (by have := egP #[.int .i64 c3, .int .i64 pc] W; simp [execOp, E28, E33, resolve, invoke, go_sem] <;> exact this) ((HPM.out W hIW).mono fun e w' h => (⟨_, h.1, rfl, h.2⟩ : ∃ v, e = .returned v ∧ (v = .tuple #[.int .i64 q, .int .i64 0] ∧ J w'))) ?_
            rintro v w' ⟨rfl, hI'⟩
            exact ⟨hI', fun _ h => h, Or.inl ⟨_, by decide, rfl, updF_same _ _ _⟩⟩
          | 8, _, hdep =>
            have E34 : a1.tmps[34]?.getD undef = .tuple #[.int .i64 q, .int .i64 0] := by rw [← ha1]; exact (putsL_in2 _ _ _ _ (by decide) (show 34 < 42 from by decide)).trans (hdep 7 (by kernel_rfl))
            exact wpOp_val rfl rfl (v := .tuple #[.int .i64 q, .int .i64 0]) (w' := W) (by simp [execOp, go_sem, E34]) ⟨hIW, fun _ h => h, Or.inl ⟨_, by decide, rfl, updF_same _ _ _⟩⟩
          | 9, _, hdep =>
            have E26 : a1.tmps[26]?.getD undef = .tuple #[.int .i64 q, .int .i64 0] := by rw [← ha1]; exact (putsL_in2 _ _ _ _ (by decide) (show 26 < 42 from by decide)).trans (hdep 8 (by kernel_rfl))
            exact wpOp_val rfl rfl (v := .int .i64 q) (w' := W) (by simp [execOp, go_sem, E26]) ⟨hIW, fun _ h => h, Or.inl ⟨_, by decide, rfl, updF_same _ _ _⟩⟩
          | 10, _, hdep =>
            have E26 : a1.tmps[26]?.getD undef = .tuple #[.int .i64 q, .int .i64 0] := by rw [← ha1]; exact (putsL_in2 _ _ _ _ (by decide) (show 26 < 42 from by decide)).trans (hdep 8 (by kernel_rfl))
            exact wpOp_val rfl rfl (v := .int .i64 0) (w' := W) (by simp [execOp, go_sem, E26]) ⟨hIW, fun _ h => h, Or.inl ⟨_, by decide, rfl, updF_same _ _ _⟩⟩
          | 11, _, hdep =>
            have E35 : a1.tmps[35]?.getD undef = .int .i64 q := by rw [← ha1]; exact (putsL_in2 _ _ _ _ (by decide) (show 35 < 42 from by decide)).trans (hdep 9 (by kernel_rfl))
            exact wpOp_val rfl rfl (v := .int .i64 q) (w' := W) (by simp [execOp, go_sem, E35]) ⟨hIW, fun _ h => h, Or.inl ⟨_, by decide, rfl, updF_same _ _ _⟩⟩
          | 12, _, hdep =>
            have E36 : a1.tmps[36]?.getD undef = .int .i64 0 := by rw [← ha1]; exact (putsL_in2 _ _ _ _ (by decide) (show 36 < 42 from by decide)).trans (hdep 10 (by kernel_rfl))
            exact wpOp_val rfl rfl (v := .int .i64 0) (w' := W) (by simp [execOp, go_sem, E36]) ⟨hIW, fun _ h => h, Or.inl ⟨_, by decide, rfl, updF_same _ _ _⟩⟩
          | iq + 13, h, _ => exact absurd h (by omega)
        case refine_2 =>
          intro f W hIW hR
          have h10 : f 10 = .int .i64 q := hR 11 (show 11 < 13 from by decide)
          simp only [putsL, List.foldl_cons, List.foldl_nil, Act.put, List.setIfInBounds_toArray, List.set_cons_zero, List.set_cons_succ]
          go_wp2
          go_meet
          exact ⟨(by first | exact h10 | rfl), Lib.hid hIW⟩
      case rest =>
        obtain ⟨rfl, HJ⟩ := hcut
        have HB9 := Lib.hid (HB8.out.trans ((HJO.out _ HJ.out).mono HB8.out.size))
        clear HJ HJO HJI HJD HJ0 HCX HPC HPM
        have hw0 : IntKind.i64.wrap (0 + q) = q := by rw [Int.zero_add]; exact hwq
        go_wp2
        go_roundw
        case rel => exact ⟨1, by first | rfl | simp, by first | rfl | go_num, by omega, HB9⟩
        case measure => simp [RowKit.intOf]
    · rw [if_neg (by decide : ¬ (1 : Nat) = 0)]
      go_wp2
      go_ret2
      exact ⟨rfl, HB.out⟩

end Go.Proofs.YtknmgkjfopoinaaGreatDoor

/- accrual.Provision and checkClaims of right claims. -/
set_option linter.unusedSimpArgs false
set_option linter.unusedVariables false
namespace Go.Proofs.YtknmgkjfopoinaaGreatDoor
open Go.RowKit Go.Lib Go.Proofs

structure ClmG (c : Clm) : Prop where
  id : 1 ≤ c.id ∧ c.id ≤ 1000000
  payer : 1 ≤ c.payer ∧ c.payer ≤ 1000000
  amt : 1 ≤ c.amt ∧ c.amt ≤ 1000000000000
  opn : 0 ≤ c.opn ∧ c.opn ≤ c.amt
  day : 0 ≤ c.day ∧ c.day ≤ 36000
  code : 0 < (partsN c.code).length ∧ c.code.size ≤ 1000000
/-- What claims are worth less on a day. -/
def provM (day : Int) : List Clm → Int
  | [] => 0
  | c :: l => c.opn * pctA (day - c.day) / 100 + provM day l
theorem provM_app (day : Int) : ∀ l m : List Clm, provM day (l ++ m) = provM day l + provM day m
  | [], m => by simp [provM]
  | c :: l, m => by simp only [List.cons_append, provM, provM_app day l m]; omega
theorem prov_one_in {c : Clm} (h : ClmG c) (day : Int) : 0 ≤ c.opn * pctA (day - c.day) / 100 ∧ c.opn * pctA (day - c.day) / 100 ≤ c.opn := by
  have h1 := pctA_in (day - c.day)
  have h2 := h.opn
  have m1 := Int.mul_le_mul_of_nonneg_left h1.2 h2.1
  have m2 := Int.mul_nonneg h2.1 h1.1
  generalize c.opn * pctA (day - c.day) = x at *
  omega
theorem provM_in {day : Int} : ∀ {l : List Clm}, (∀ c ∈ l, ClmG c) → 0 ≤ provM day l ∧ provM day l ≤ 1000000000000 * (l.length : Int)
  | [], _ => by simp [provM]
  | c :: l, h => by
    have h1 := provM_in (day := day) fun x hx => h x (List.mem_cons_of_mem _ hx)
    have h2 := prov_one_in (h c List.mem_cons_self) day
    have h3 := h c List.mem_cons_self
    have h4 := h3.opn
    have h5 := h3.amt
    rw [provM, List.length_cons]
    omega

set_option maxRecDepth 100000 in
set_option maxHeartbeats 4000000 in
theorem rcClaim_gen {c : Clm} (h : ClmG c) (w : World) (hL : Lay w) : Calls Tryz.prog 53 #[.agg (clmC c).toArray] w fun e w' => e = .returned (.bool true) ∧ Below w.heap.size w w' := by
  obtain ⟨c0, c1, c2, c3, c4, c5⟩ := c
  obtain ⟨h0, h1, h2, h3, h4, h5⟩ := h
  simp only at h0 h1 h2 h3 h4 h5
  obtain ⟨n, hn⟩ : ∃ n, n = (partsN c5).length := ⟨_, rfl⟩
  rw [← hn] at h5
  have hn0 : 0 < n := h5.1
  simp only [clmC]
  obtain ⟨w1, hw1⟩ : ∃ W, W = w.alloc (.cells #[.int .i64 c0, .int .i64 c1, .int .i64 c2, .int .i64 c3, .int .i64 c4, .string c5] 39) := ⟨_, rfl⟩
  have HB1 : Hid (Below w.heap.size w w1) := Lib.hid (by rw [hw1]; exact below_alloc _ _)
  have HX1 : Hid (w1.heap[w.heap.size]? = some (.cells #[.int .i64 c0, .int .i64 c1, .int .i64 c2, .int .i64 c3, .int .i64 c4, .string c5] 39 (0, 0))) := Lib.hid (by rw [hw1]; exact heap_alloc_new _ _)
  have HPT := Lib.hid (clParts_any c5 w1 (hL.below HB1.out (Nat.le_refl _)) h5.2)
  unfold PartsPost at HPT
  have HW1 := Lib.hid hw1
  have hx1 := HX1.out
  have q0 := obj_cell hx1 0
  have q1 := obj_cell hx1 1
  have q2 := obj_cell hx1 2
  have q3 := obj_cell hx1 3
  have q4 := obj_cell hx1 4
  have q5 := obj_cell hx1 5
  simp at q0 q1 q2 q3 q4 q5
  clear hw1 hx1 hL
  go_enter Tryz.func53, Tryz.ntmps53
  go_upto_region 1 with fail
  rw [← HW1.out]
  go_wp2_with fail
  refine (rcisNumber_yes _ h0.1 h0.2).mono ?_
  rintro e w' ⟨rfl, rfl⟩
  go_wp2_with fail
  refine (rcisNumber_yes _ h1.1 h1.2).mono ?_
  rintro e w' ⟨rfl, rfl⟩
  go_wp2_with fail
  refine (rcisAmount_yes _ h2.1 h2.2).mono ?_
  rintro e w' ⟨rfl, rfl⟩
  go_wp2_with fail
  refine (rcwithin_yes _ h3.1 h3.2).mono ?_
  rintro e w' ⟨rfl, rfl⟩
  go_wp2_with fail
  refine (rcwithin_yes _ h4.1 h4.2).mono ?_
  rintro e w' ⟨rfl, rfl⟩
  go_wp2_with fail
  refine (HPT.out).mono ?_
  rintro e w2 ⟨v, rfl, hown, hb2⟩
  obtain ⟨av, cv, rfl, -, -⟩ := owns_gen hown
  rw [← hn]
  have HB2 := Lib.hid (HB1.out.trans (hb2.mono HB1.out.size))
  clear hown hb2 h5 hn
  go_wp2
  go_ret
  exact ⟨rfl, HB2.out⟩

set_option maxHeartbeats 1000000 in
theorem aacheckC_gen {c : Clm} (h : ClmG c) (w : World) (hL : Lay w) : Calls Tryz.prog 52 #[.agg (clmC c).toArray] w fun e w' => e = .returned (.bool false) ∧ Below w.heap.size w w' := by
  have HC := Lib.hid (fun W (hW : Below w.heap.size w W) => rcClaim_gen h W (hL.below hW (Nat.le_refl _)))
  obtain ⟨c0, c1, c2, c3, c4, c5⟩ := c
  obtain ⟨h0, h1, h2, h3, h4, h5⟩ := h
  simp only [clmC] at HC ⊢
  obtain ⟨w1, hw1⟩ : ∃ W, W = w.alloc (.cells #[.int .i64 c0, .int .i64 c1, .int .i64 c2, .int .i64 c3, .int .i64 c4, .string c5] 39) := ⟨_, rfl⟩
  have HB1 : Hid (Below w.heap.size w w1) := Lib.hid (by rw [hw1]; exact below_alloc _ _)
  have HX1 : Hid (w1.heap[w.heap.size]? = some (.cells #[.int .i64 c0, .int .i64 c1, .int .i64 c2, .int .i64 c3, .int .i64 c4, .string c5] 39 (0, 0))) := Lib.hid (by rw [hw1]; exact heap_alloc_new _ _)
  have HW1 := Lib.hid hw1
  have hx1 := HX1.out
  have q0 := obj_cell hx1 0
  have q1 := obj_cell hx1 1
  have q2 := obj_cell hx1 2
  have q3 := obj_cell hx1 3
  have q4 := obj_cell hx1 4
  have q5 := obj_cell hx1 5
  simp at q0 q1 q2 q3 q4 q5
  clear hw1 hx1 hL h0 h1 h2 h3 h4
  go_enter Tryz.func52, Tryz.ntmps52
  go_upto_region 1 with fail
  rw [← HW1.out]
  go_wp2_with fail
  refine (HC.out _ HB1.out).mono ?_
  rintro e w2 ⟨rfl, hb2⟩
  have HB2 := Lib.hid (HB1.out.trans (hb2.mono HB1.out.size))
  clear hb2
  go_wp2
  go_ret
  exact ⟨rfl, HB2.out⟩
set_option maxHeartbeats 1000000 in
theorem aacheck_gen {l : List Clm} (h : ∀ c ∈ l, ClmG c) (hlen : l.length ≤ 60) (v : Value) (w : World) (hL : Lay w) (hl : ListAt clmC 6 w v l) : Calls Tryz.prog 27 #[v] w fun e w' => e = .returned (.int .i64 0) ∧ Below w.heap.size w w' := by
  have HC := Lib.hid (clmContains_any 52 #[] (enters_of Tryz.func52 (by kernel_rfl) rfl) (fun _ => false) l v w hl (by omega) (fun x hx W hW => by
    have := aacheckC_gen (h x hx) W (hL.below hW (Nat.le_refl _))
    simpa using this))
  obtain ⟨a, cp, rfl, hcap, -⟩ := hl.shape clmF
  obtain ⟨n, hn⟩ : ∃ n, n = l.length := ⟨_, rfl⟩
  rw [← hn] at HC hlen hcap ⊢
  have hnn : ¬ (60 : Int) < (n : Int) := by omega
  have hany : (l.any fun _ => false) = false := by rw [List.any_eq_false]; simp
  rw [hany] at HC
  clear hl hL h hn hany
  go_enter Tryz.func27, Tryz.ntmps27
  go_wp2_with fail
  refine (HC.out).mono ?_
  rintro e w1 ⟨rfl, hb1⟩
  have HB1 := Lib.hid hb1
  clear hb1
  go_wp2
  go_ret
  exact ⟨rfl, HB1.out⟩


set_option maxRecDepth 100000 in
set_option maxHeartbeats 4000000 in
theorem aaprov_any {l : List Clm} (h : ∀ c ∈ l, ClmG c) (hlen : l.length ≤ 60) (day : Int) (hd : 0 ≤ day ∧ day ≤ 36000) (v : Value) (w : World) (hL : Lay w) (hl : ListAt clmC 6 w v l) :
    Calls Tryz.prog 11 #[v, .int .i64 day] w fun e w' => e = .returned (.tuple #[.int .i64 (provM day l), .int .i64 0]) ∧ Below w.heap.size w w' := by
  have HCK := Lib.hid (aacheck_gen h hlen v w hL hl)
  obtain ⟨a, cp, rfl, hcap, hcs⟩ := hl.shape clmF
  have HCS := Lib.hid hcs
  have HOK := Lib.hid h
  obtain ⟨n, hn⟩ : ∃ n, n = l.length := ⟨_, rfl⟩
  have HN := Lib.hid hn
  rw [← hn] at HCK hcap hlen ⊢
  obtain ⟨tt, htt⟩ : ∃ z, z = provM day l := ⟨_, rfl⟩
  have HTT := Lib.hid htt
  rw [← htt]
  have egA := enters_of Tryz.func30 (by kernel_rfl) rfl
  have egP := enters_of Tryz.func29 (by kernel_rfl) rfl
  clear hl hL hcs h hn htt
  go_enter Tryz.func11, Tryz.ntmps11
  go_wp2_with fail
  refine (HCK.out).mono ?_
  rintro e w1 ⟨rfl, hb1⟩
  have HB1 := Lib.hid hb1
  clear hb1
  go_wp2_with fail
  refine (aawithin_yes _ hd.1 hd.2).mono ?_
  rintro e w' ⟨rfl, rfl⟩
  go_wp2
  go_loopw [7, 22] (fun sv iv wr => ∃ (s : Int) (j : Nat), sv = .int .i64 s ∧ iv = .int .i64 j ∧ j ≤ n ∧ Hid (s = provM day (l.take j)) ∧ Hid (Below w.heap.size w wr)) (fun _ iv _ => n - (RowKit.intOf iv).toNat)
  case atStart => exact ⟨0, 0, rfl, rfl, by omega, Lib.hid rfl, HB1⟩
  case round =>
    obtain ⟨s, j, rfl, rfl, hjn, HS, HB⟩ := hrel
    by_cases hlt : j < n
    · have hjl : j < l.length := by rw [← HN.out]; exact hlt
      obtain ⟨b, o, rfl, hb, hcc⟩ := HCS.out (by omega)
      have hcell := fun q (hq : q < 6) => (HB.out.cell (p := ⟨b, o + j * 6 + q, none⟩) hb).trans (hcc j hjl q hq)
      have HTK : Hid (provM day (l.take (j + 1)) = provM day (l.take j) + l[j].opn * pctA (day - l[j].day) / 100) := Lib.hid (by
        rw [List.take_succ_eq_append_getElem hjl, provM_app]; simp [provM])
      have hone := prov_one_in (HOK.out _ (List.getElem_mem hjl)) day
      have hxok := HOK.out _ (List.getElem_mem hjl)
      have hsb := provM_in (day := day) (l := l.take j) fun c hc => HOK.out c (List.mem_of_mem_take hc)
      have hlk : (l.take j).length = j := by rw [List.length_take]; omega
      rw [hlk, ← HS.out] at hsb
      have hj0 : (0 : Int) ≤ (j : Int) := by omega
      have hj1 : (j : Int) < (n : Int) := by omega
      have hwj : IntKind.i64.wrap ((j : Int) + 1) = (j : Int) + 1 := IntWalk.i64_in _ (by omega)
      generalize l[j] = x at *
      obtain ⟨c0, c1, c2, c3, c4, c5⟩ := x
      obtain ⟨h0, h1, h2, h3, h4, h5⟩ := hxok
      simp only at h2 h3 h4 HTK hone
      have y0 : wr.cell? ⟨b, o + j * 6, none⟩ = some (.int .i64 c0) := hcell 0 (by omega)
      have y1 : wr.cell? ⟨b, o + j * 6 + 1, none⟩ = some (.int .i64 c1) := hcell 1 (by omega)
      have y2 : wr.cell? ⟨b, o + j * 6 + 2, none⟩ = some (.int .i64 c2) := hcell 2 (by omega)
      have y3 : wr.cell? ⟨b, o + j * 6 + 3, none⟩ = some (.int .i64 c3) := hcell 3 (by omega)
      have y4 : wr.cell? ⟨b, o + j * 6 + 4, none⟩ = some (.int .i64 c4) := hcell 4 (by omega)
      have y5 : wr.cell? ⟨b, o + j * 6 + 5, none⟩ = some (.string c5) := hcell 5 (by omega)
      obtain ⟨dd, hdd⟩ : ∃ z, z = day - c4 := ⟨_, rfl⟩
      obtain ⟨pc, hpc⟩ : ∃ z, z = pctA dd := ⟨_, rfl⟩
      have hpi := pctA_in dd
      rw [← hpc] at hpi
      obtain ⟨q, hq⟩ : ∃ z, z = c3 * pc / 100 := ⟨_, rfl⟩
      have HPA := Lib.hid (fun W => aapercent_any dd W)
      rw [← hpc] at HPA
      have HPR := Lib.hid (fun W => pct_ok (n := c3) (p := pc) ⟨h3.1, by omega⟩ hpi W)
      rw [← hq] at HPR
      rw [← hdd, ← hpc, ← hq] at HTK hone
      have hwd : IntKind.i64.wrap (day - c4) = dd := by rw [hdd]; exact IntWalk.i64_in _ (by omega)
      have hws : IntKind.i64.wrap (s + q) = s + q := IntWalk.i64_in _ (by omega)
      obtain ⟨w8, hw8⟩ : ∃ W, W = wr.alloc (.cells #[.int .i64 c0, .int .i64 c1, .int .i64 c2, .int .i64 c3, .int .i64 c4, .string c5] 39) := ⟨_, rfl⟩
      obtain ⟨bX, hbX⟩ : ∃ q, q = wr.heap.size := ⟨_, rfl⟩
      have HX8 : Hid (w8.heap[bX]? = some (.cells #[.int .i64 c0, .int .i64 c1, .int .i64 c2, .int .i64 c3, .int .i64 c4, .string c5] 39 (0, 0))) := Lib.hid (by rw [hw8, hbX]; exact heap_alloc_new _ _)
      have HB8 : Hid (Below w.heap.size w w8) := Lib.hid (by rw [hw8]; exact HB.out.alloc HB.out.size _)
      have HW8 := Lib.hid hw8
      have HBX := Lib.hid hbX
      obtain ⟨J, hJ⟩ : ∃ J, J = fun W : World => Below w8.heap.size w8 W := ⟨_, rfl⟩
      have HJO : Hid (∀ W, J W → Below w8.heap.size w8 W) := Lib.hid fun W hW => by rw [hJ] at hW; exact hW
      have HJI : Hid (∀ W, Below w8.heap.size w8 W → J W) := Lib.hid fun W hW => by rw [hJ]; exact hW
      have HJD : Hid (∀ W, J W → J W.drew) := Lib.hid fun W hW => HJI.out _ ((HJO.out W hW).drew)
      have HJ0 : Hid (J w8) := Lib.hid (HJI.out _ (Below.refl _ _))
      have HCX : Hid (∀ W, J W → ∀ i, W.cell? ⟨bX, i, none⟩ = #[.int .i64 c0, .int .i64 c1, .int .i64 c2, .int .i64 c3, .int .i64 c4, .string c5][i]?) := Lib.hid fun W hW i => obj_cell (obj_below HX8.out (HJO.out W hW)) i
      have HPC : Hid (∀ W, J W → Calls Tryz.prog 30 #[.int .i64 dd] W fun e w' => e = .returned (.int .i64 pc) ∧ J w') := Lib.hid fun W hW => (HPA.out W).mono fun e w' g => ⟨g.1, HJI.out _ ((HJO.out W hW).trans (g.2.mono (HJO.out W hW).size))⟩
      have HPM : Hid (∀ W, J W → Calls Tryz.prog 29 #[.int .i64 c3, .int .i64 pc] W fun e w' => e = .returned (.tuple #[.int .i64 q, .int .i64 0]) ∧ J w') := Lib.hid fun W hW => (HPR.out W).mono fun e w' g => ⟨g.1, g.2 ▸ hW⟩
      clear hw8 hbX hJ hcell hcc hdd hpc hpi hq hone hsb hlk h0 h1 h2 h3 h4 h5
      go_upto_region 10 with fail
      rw [← HW8.out, ← HBX.out]
      clear y0 y1 y2 y3 y4 y5
      go_cut [10] (fun gv wx => gv = .int .i64 q ∧ Hid (J wx))
      case first =>
        refine wp_region_props [27, 28, 29, 30, 31, 32, 33, 34, 26, 35, 36, 10, 11] (slotS [27, 28, 29, 30, 31, 32, 33, 34, 26, 35, 36, 10, 11]) (readsS [27, 28, 29, 30, 31, 32, 33, 34, 26, 35, 36, 10, 11]) (RTs [27, 28, 29, 30, 31, 32, 33, 34, 26, 35, 36, 10, 11] [.pointer (some ⟨bX, 3, none⟩), .int .i64 c3, .int .i64 day, .pointer (some ⟨bX, 4, none⟩), .int .i64 c4, .int .i64 dd, .int .i64 pc, .tuple #[.int .i64 q, .int .i64 0], .tuple #[.int .i64 q, .int .i64 0], .int .i64 q, .int .i64 0, .int .i64 q, .int .i64 0]) J (by kernel_rfl) (by kernel_rfl) (by kernel_rfl) (HJD.out _ HJ0.out) (fun j f q v W hq h => RTs.upd hq h) ?_ ?_
        case refine_1 =>
          intro iq hiq f W hIW hdep
          have hiq' : iq < 13 := hiq
          generalize ha1 : putsL _ [27, 28, 29, 30, 31, 32, 33, 34, 26, 35, 36, 10, 11] f = a1
          match iq, hiq', hdep with
          | 0, _, hdep =>
            have E9 : a1.tmps[9]?.getD undef = .pointer (some ⟨bX, 0, none⟩) := by rw [← ha1]; exact (putsL_out2 _ _ _ _ (by decide)).trans rfl
            exact wpOp_val rfl rfl (v := .pointer (some ⟨bX, 3, none⟩)) (w' := W) (by simp [execOp, go_sem, E9]) ⟨hIW, fun _ h => h, Or.inl ⟨_, by decide, rfl, updF_same _ _ _⟩⟩
          | 1, _, hdep =>
            have E27 : a1.tmps[27]?.getD undef = .pointer (some ⟨bX, 3, none⟩) := by rw [← ha1]; exact (putsL_in2 _ _ _ _ (by decide) (show 27 < 42 from by decide)).trans (hdep 0 (by kernel_rfl))
            have v3 : W.cell? ⟨bX, 3, none⟩ = some (.int .i64 c3) := by simpa using HCX.out W hIW 3
            exact wpOp_val rfl rfl (v := .int .i64 c3) (w' := W) (by simp [execOp, go_sem, E27, v3]) ⟨hIW, fun _ h => h, Or.inl ⟨_, by decide, rfl, updF_same _ _ _⟩⟩
          | 2, _, hdep =>
            have E1 : a1.tmps[1]?.getD undef = .int .i64 day := by rw [← ha1]; exact (putsL_out2 _ _ _ _ (by decide)).trans rfl
            exact wpOp_val rfl rfl (v := .int .i64 day) (w' := W) (by simp [execOp, go_sem, E1]) ⟨hIW, fun _ h => h, Or.inl ⟨_, by decide, rfl, updF_same _ _ _⟩⟩
          | 3, _, hdep =>
            have E9 : a1.tmps[9]?.getD undef = .pointer (some ⟨bX, 0, none⟩) := by rw [← ha1]; exact (putsL_out2 _ _ _ _ (by decide)).trans rfl
            exact wpOp_val rfl rfl (v := .pointer (some ⟨bX, 4, none⟩)) (w' := W) (by simp [execOp, go_sem, E9]) ⟨hIW, fun _ h => h, Or.inl ⟨_, by decide, rfl, updF_same _ _ _⟩⟩
          | 4, _, hdep =>
            have E30 : a1.tmps[30]?.getD undef = .pointer (some ⟨bX, 4, none⟩) := by rw [← ha1]; exact (putsL_in2 _ _ _ _ (by decide) (show 30 < 42 from by decide)).trans (hdep 3 (by kernel_rfl))
            have v4 : W.cell? ⟨bX, 4, none⟩ = some (.int .i64 c4) := by simpa using HCX.out W hIW 4
            exact wpOp_val rfl rfl (v := .int .i64 c4) (w' := W) (by simp [execOp, go_sem, E30, v4]) ⟨hIW, fun _ h => h, Or.inl ⟨_, by decide, rfl, updF_same _ _ _⟩⟩
          | 5, _, hdep =>
            have E29 : a1.tmps[29]?.getD undef = .int .i64 day := by rw [← ha1]; exact (putsL_in2 _ _ _ _ (by decide) (show 29 < 42 from by decide)).trans (hdep 2 (by kernel_rfl))
            have E31 : a1.tmps[31]?.getD undef = .int .i64 c4 := by rw [← ha1]; exact (putsL_in2 _ _ _ _ (by decide) (show 31 < 42 from by decide)).trans (hdep 4 (by kernel_rfl))
            exact wpOp_val rfl rfl (v := .int .i64 dd) (w' := W) (by simp [execOp, go_sem, E29, E31, hwd]) ⟨hIW, fun _ h => h, Or.inl ⟨_, by decide, rfl, updF_same _ _ _⟩⟩
          | 6, _, hdep =>
            have E32 : a1.tmps[32]?.getD undef = .int .i64 dd := by rw [← ha1]; exact (putsL_in2 _ _ _ _ (by decide) (show 32 < 42 from by decide)).trans (hdep 5 (by kernel_rfl))
            refine wpOp_call rfl rfl (n := 30) (vs := #[.int .i64 dd]) (by have := egA #[.int .i64 dd] W; simp [execOp, E32, resolve, invoke, go_sem] <;> exact this) ((HPC.out W hIW).mono fun e w' h => (⟨_, h.1, rfl, h.2⟩ : ∃ v, e = .returned v ∧ (v = .int .i64 pc ∧ J w'))) ?_
            rintro v w' ⟨rfl, hI'⟩
            exact ⟨hI', fun _ h => h, Or.inl ⟨_, by decide, rfl, updF_same _ _ _⟩⟩
          | 7, _, hdep =>
            have E28 : a1.tmps[28]?.getD undef = .int .i64 c3 := by rw [← ha1]; exact (putsL_in2 _ _ _ _ (by decide) (show 28 < 42 from by decide)).trans (hdep 1 (by kernel_rfl))
            have E33 : a1.tmps[33]?.getD undef = .int .i64 pc := by rw [← ha1]; exact (putsL_in2 _ _ _ _ (by decide) (show 33 < 42 from by decide)).trans (hdep 6 (by kernel_rfl))
            refine wpOp_call rfl rfl (n := 29) (vs := #[.int .i64 c3, .int .i64 pc]) (by have := egP #[.int .i64 c3, .int .i64 pc] W; simp [execOp, E28, E33, resolve, invoke, go_sem] <;> exact this) ((HPM.out W hIW).mono fun e w' h => (⟨_, h.1, rfl, h.2⟩ : ∃ v, e = .returned v ∧ (v = .tuple #[.int .i64 q, .int .i64 0] ∧ J w'))) ?_
            rintro v w' ⟨rfl, hI'⟩
            exact ⟨hI', fun _ h => h, Or.inl ⟨_, by decide, rfl, updF_same _ _ _⟩⟩
          | 8, _, hdep =>
            have E34 : a1.tmps[34]?.getD undef = .tuple #[.int .i64 q, .int .i64 0] := by rw [← ha1]; exact (putsL_in2 _ _ _ _ (by decide) (show 34 < 42 from by decide)).trans (hdep 7 (by kernel_rfl))
            exact wpOp_val rfl rfl (v := .tuple #[.int .i64 q, .int .i64 0]) (w' := W) (by simp [execOp, go_sem, E34]) ⟨hIW, fun _ h => h, Or.inl ⟨_, by decide, rfl, updF_same _ _ _⟩⟩
          | 9, _, hdep =>
            have E26 : a1.tmps[26]?.getD undef = .tuple #[.int .i64 q, .int .i64 0] := by rw [← ha1]; exact (putsL_in2 _ _ _ _ (by decide) (show 26 < 42 from by decide)).trans (hdep 8 (by kernel_rfl))
            exact wpOp_val rfl rfl (v := .int .i64 q) (w' := W) (by simp [execOp, go_sem, E26]) ⟨hIW, fun _ h => h, Or.inl ⟨_, by decide, rfl, updF_same _ _ _⟩⟩
          | 10, _, hdep =>
            have E26 : a1.tmps[26]?.getD undef = .tuple #[.int .i64 q, .int .i64 0] := by rw [← ha1]; exact (putsL_in2 _ _ _ _ (by decide) (show 26 < 42 from by decide)).trans (hdep 8 (by kernel_rfl))
            exact wpOp_val rfl rfl (v := .int .i64 0) (w' := W) (by simp [execOp, go_sem, E26]) ⟨hIW, fun _ h => h, Or.inl ⟨_, by decide, rfl, updF_same _ _ _⟩⟩
          | 11, _, hdep =>
            have E35 : a1.tmps[35]?.getD undef = .int .i64 q := by rw [← ha1]; exact (putsL_in2 _ _ _ _ (by decide) (show 35 < 42 from by decide)).trans (hdep 9 (by kernel_rfl))
            exact wpOp_val rfl rfl (v := .int .i64 q) (w' := W) (by simp [execOp, go_sem, E35]) ⟨hIW, fun _ h => h, Or.inl ⟨_, by decide, rfl, updF_same _ _ _⟩⟩
          | 12, _, hdep =>
            have E36 : a1.tmps[36]?.getD undef = .int .i64 0 := by rw [← ha1]; exact (putsL_in2 _ _ _ _ (by decide) (show 36 < 42 from by decide)).trans (hdep 10 (by kernel_rfl))
            exact wpOp_val rfl rfl (v := .int .i64 0) (w' := W) (by simp [execOp, go_sem, E36]) ⟨hIW, fun _ h => h, Or.inl ⟨_, by decide, rfl, updF_same _ _ _⟩⟩
          | iq + 13, h, _ => exact absurd h (by omega)
        case refine_2 =>
          intro f W hIW hR
          have h10 : f 10 = .int .i64 q := hR 11 (show 11 < 13 from by decide)
          simp only [putsL, List.foldl_cons, List.foldl_nil, Act.put, List.setIfInBounds_toArray, List.set_cons_zero, List.set_cons_succ]
          go_wp2
          go_meet
          exact ⟨(by first | exact h10 | rfl), Lib.hid hIW⟩
      case rest =>
        obtain ⟨rfl, HJ⟩ := hcut
        have HB9 := Lib.hid (HB8.out.trans ((HJO.out _ HJ.out).mono HB8.out.size))
        clear HJ HJO HJI HJD HJ0 HCX HPC HPM
        go_wp2
        go_roundw
        case rel => exact ⟨s + q, j + 1, by first | rfl | simp, by first | rfl | go_num, by omega, Lib.hid (by rw [HTK.out, HS.out]), HB9⟩
        case measure => simp [RowKit.intOf]; omega
    · obtain rfl : j = n := by omega
      obtain rfl : s = tt := by rw [HS.out, HTT.out, List.take_of_length_le (by rw [← HN.out]; exact Nat.le_refl _)]
      go_wp2
      go_ret2
      exact ⟨rfl, HB.out⟩

end Go.Proofs.YtknmgkjfopoinaaGreatDoor
