/- The contract of the article's reference's Text, of plain articles: their texts. -/
import Derived.Test.YtdgckdmgplpobaaGreatDoorMG6
import Derived.Test.YtdgckdmgplpobaaGreatDoorMG8
import Derived.Test.YtdgckdmgplpobaaGreatDoorMG5
import Derived.Deep.RegionHeld3
import Derived.Deep.DeepCutAuto
set_option linter.unusedSimpArgs false
set_option linter.unusedVariables false
namespace Go.Proofs.YtdgckdmgplpobaaGreatDoor
open Go.RowKit Go.Lib Go.Proofs

theorem wpAnyH_more {P : Program} {md : Region.Mode} {ops : Array Oper} {Q : Exit → Act → World → Prop} {S S' : World → Prop} (h : ∀ w, S' w → S w) : ∀ (fuel : Nat) (listed : Array Bool) (a : Act) (w : World), wpAnyH P md ops Q S' fuel listed a w → wpAnyH P md ops Q S fuel listed a w
  | 0, _, _, _, hw => hw
  | fuel + 1, _, _, _, hw => ⟨hw.1, fun i hi => wpOp_mono (fun a' w' h' => ⟨h _ h'.1, wpAnyH_more h fuel _ a' w' h'.2⟩) (hw.2 i hi)⟩


set_option maxRecDepth 100000 in
set_option maxHeartbeats 8000000 in
theorem rtx_aline (cd : ByteArray) (yr : Int) (am : Int) (nu : Int) (dy : Int) (c1 : isCodeB cd = true) (hy : 0 ≤ yr ∧ yr ≤ 99) (ha : 0 ≤ am ∧ am ≤ 1000000000000) (hd : 0 ≤ dy ∧ dy ≤ 35990) (hn : 1 ≤ nu ∧ nu ≤ 1000000) (w : World) (hL : Lay w) :
    Calls Tryz.prog 13 #[.agg #[.int .i64 10, .string cd, .string ⟨#[]⟩, .string ⟨#[]⟩, .int .i64 yr, .int .i64 am, .int .i64 0, .int .i64 nu, .int .i64 dy, .int .i64 0, .int .i64 1]] w fun e w' => e = .returned (.string (textA ⟨10, cd, ⟨#[]⟩, ⟨#[]⟩, yr, am, 0, nu, dy, 0, 1⟩)) ∧ Below w.heap.size w w' := by
  have HPL := Lib.hid (fun W => rplain_yes ⟨10, cd, ⟨#[]⟩, ⟨#[]⟩, yr, am, 0, nu, dy, 0, 1⟩ (pl_aline cd yr am dy nu c1 hy ha hd hn) W)
  rw [rtm_aline cd yr am nu dy c1 hy ha hd hn]
  simp only [Art.cells] at HPL
  obtain ⟨I, hI⟩ : ∃ I : World → Prop, I = fun W => Below (w.heap.size + 1) (w.alloc (.cells #[.int .i64 10, .string cd, .string ⟨#[]⟩, .string ⟨#[]⟩, .int .i64 yr, .int .i64 am, .int .i64 0, .int .i64 nu, .int .i64 dy, .int .i64 0, .int .i64 1] 24)) W := ⟨_, rfl⟩
  have hlater : ∀ A B, I A → Below A.heap.size A B → I B := by rw [hI]; exact fun A B h hb => h.trans (hb.mono (by have := h.size; simp at this; omega))
  have hdrew : ∀ A, I A → I A.drew := by rw [hI]; exact fun A h => h.drew
  have hfin : ∀ A, I A → Below w.heap.size w A := by rw [hI]; exact fun A h => (below_alloc w _).trans (h.mono (Nat.le_succ _))
  have hcells : ∀ A, I A → ∀ j, A.cell? ⟨w.heap.size, j, none⟩ = #[.int .i64 10, .string cd, .string ⟨#[]⟩, .string ⟨#[]⟩, .int .i64 yr, .int .i64 am, .int .i64 0, .int .i64 nu, .int .i64 dy, .int .i64 0, .int .i64 1][j]? := by rw [hI]; exact fun A h => boxg_below h
  have hnew : I (w.alloc (.cells #[.int .i64 10, .string cd, .string ⟨#[]⟩, .string ⟨#[]⟩, .int .i64 yr, .int .i64 am, .int .i64 0, .int .i64 nu, .int .i64 dy, .int .i64 0, .int .i64 1] 24)) := by rw [hI]; exact Below.refl _ _
  have hlay : ∀ A, I A → Lay A := fun A h => hL.below (hfin A h) (Nat.le_refl _)
  have z_cd : cd.size ≤ 11 := code_small c1
  have z_d_dy : (dayT dy).size ≤ 100000 := dayT_small dy
  have H0 := Lib.hid (fun W (hW : I W) => (rcText_dayT dy (by omega) (by omega) W (hlay W hW)).mono fun e w' h => (show _ ∧ I w' from ⟨h.1, hlater _ _ hW h.2⟩))
  have z_i_nu : (itoaT nu).size ≤ 21 := itoaT_size nu (by omega) (by omega)
  have H1 := Lib.hid (fun W (hW : I W) => (itoa_any nu W (hlay W hW) (by omega) (by omega)).mono fun e w' h => (show _ ∧ I w' from ⟨h.1, hlater _ _ hW h.2⟩))
  have z_s_yr : (numOr yr allT).size ≤ 21 := numOr_size yr _ (by decide) (by omega) (by omega)
  have H2 := Lib.hid (fun W (hW : I W) => (rarspan_any yr W (hlay W hW) (by omega) (by omega)).mono fun e w' h => (show _ ∧ I w' from ⟨h.1, hlater _ _ hW h.2⟩))
  have z_i_am : (itoaT am).size ≤ 21 := itoaT_size am (by omega) (by omega)
  have H3 := Lib.hid (fun W (hW : I W) => (itoa_any am W (hlay W hW) (by omega) (by omega)).mono fun e w' h => (show _ ∧ I w' from ⟨h.1, hlater _ _ hW h.2⟩))
  have HWD := Lib.hid (fun W (hW : I W) => (rarWords_any W).mono fun e w' h => (show ∃ g, e = .returned (.slice (some ⟨g, 0, none⟩) 11 11) ∧ I w' ∧ (∀ (j : Nat) x, kindW[j]? = some x → w'.cell? ⟨g, j, none⟩ = some (.string x)) ∧ w'.heap[g]? = some (.cells (cellsS kindW).toArray 9 (0, 0)) from ⟨W.heap.size, h.1, by rw [h.2]; exact hlater _ _ hW (below_alloc _ _), fun j x hx => by rw [h.2, cell_of_row _ _ _ _ _ _ (heap_alloc_new W _)]; simp [cellsS, hx], by rw [h.2]; exact heap_alloc_new W _⟩))
  have HPL2 := Lib.hid (fun W (hW : I W) => (HPL.out W).mono fun e w' h => (show _ ∧ I w' from ⟨h.1, hlater _ _ hW h.2⟩))
  have HSP := Lib.hid (fun W (hW : I W) => (rarspan_any yr W (hlay W hW) (by omega) (by omega)).mono fun e w' h => (show _ ∧ I w' ∧ Below W.heap.size W w' from ⟨h.1, hlater _ _ hW h.2, h.2⟩))
  generalize dayT dy = d_dy at *
  generalize itoaT nu = i_nu at *
  generalize numOr yr allT = s_yr at *
  generalize itoaT am = i_am at *
  have HCE := Lib.hid hcells
  have HDR := Lib.hid hdrew
  have HFN := Lib.hid hfin
  clear hI hlater hdrew hfin hcells HPL hL hlay
  have q0 : ¬ 9223372036854775807 < 1 + d_dy.size := by omega
  have q1 : ¬ 9223372036854775807 < 1 + d_dy.size + 1 := by omega
  have q2 : ¬ 9223372036854775807 < 1 + d_dy.size + 1 + i_nu.size := by omega
  have q3 : ¬ 9223372036854775807 < 1 + d_dy.size + 1 + i_nu.size + 1 := by omega
  have q4 : ¬ 9223372036854775807 < 1 + d_dy.size + 1 + i_nu.size + 1 + 4 := by omega
  have q5 : ¬ 9223372036854775807 < 1 + d_dy.size + 1 + i_nu.size + 1 + 4 + 1 := by omega
  have q6 : ¬ 9223372036854775807 < 1 + d_dy.size + 1 + i_nu.size + 1 + 4 + 1 + cd.size := by omega
  have q7 : ¬ 9223372036854775807 < 1 + d_dy.size + 1 + i_nu.size + 1 + 4 + 1 + cd.size + 1 := by omega
  have q8 : ¬ 9223372036854775807 < 1 + d_dy.size + 1 + i_nu.size + 1 + 4 + 1 + cd.size + 1 + s_yr.size := by omega
  have q9 : ¬ 9223372036854775807 < 1 + d_dy.size + 1 + i_nu.size + 1 + 4 + 1 + cd.size + 1 + s_yr.size + 1 := by omega
  have q10 : ¬ 9223372036854775807 < 1 + d_dy.size + 1 + i_nu.size + 1 + 4 + 1 + cd.size + 1 + s_yr.size + 1 + i_am.size := by omega
  have q11 : ¬ 9223372036854775807 < 5 + (1 + d_dy.size + 1 + i_nu.size + 1 + 4 + 1 + cd.size + 1 + s_yr.size + 1 + i_am.size) := by omega
  go_enter Tryz.func13, Tryz.ntmps13
  go_wp2_with fail
  refine (HPL2.out _ hnew).mono ?_
  rintro e w1 ⟨rfl, hi1⟩
  have HI1 := Lib.hid hi1
  have hu := HCE.out _ hi1
  clear hnew
  go_upto_region 3 with fail
  go_cut [3] (fun s wx => s = .string ⟨#[97, 109, 101, 110, 100]⟩ ∧ I wx)
  case first =>
    go_region_with (go_at_call 40; refine (HWD.out _ (by first | exact HI1.out | exact HDR.out _ HI1.out)).mono ?_; rintro e w2 ⟨gw, rfl, hi2, hcw, _⟩; have cw := hcw 10 _ rfl; have u2 := HCE.out _ hi2; clear hcw)
    all_goals (go_wp2_with fail)
    all_goals go_meet
    all_goals exact ⟨rfl, by first | assumption | exact HDR.out _ (by assumption)⟩
  case rest =>
    obtain ⟨rfl, hi3⟩ := hcut
    have HI3 := Lib.hid hi3
    have hu3 := HCE.out _ hi3
    clear HI1 hi1 hu
    have ham : 0 ≤ am := ha.1
    go_upto_region 8 with (go_at_call 41; (with_reducible refine (H3.out _ hi3).mono ?_); rintro e w4 ⟨rfl, hi4⟩; have hu4 := HCE.out _ hi4)
    have hw3 : IntKind.i64.wrap 3 = 3 := by decide
    refine wp_region_held_drew (S := I) (by kernel_rfl) (HDR.out _ (by assumption)) (fun hH => ?_)
    refine wpAnyH_take (i := 0) (oi := ⟨some 21, _, _, _, _, _⟩) (v := ?_) rfl (by kernel_rfl) (by kernel_rfl) (by kernel_rfl) (fun _ _ _ h => h) (Or.inl ⟨by rfl, ?_⟩) (by assumption) ?_
    rotate_left
    · (intro wz hSw; have hcz := HCE.out wz hSw; (go_simp <;> with_reducible rfl))
    (try simp only [Act.put, List.setIfInBounds_toArray, List.set_cons_zero, List.set_cons_succ])
    refine wpAnyH_take (i := 1) (oi := ⟨some 22, _, _, _, _, _⟩) (v := ?_) rfl (by kernel_rfl) (by kernel_rfl) (by kernel_rfl) (fun _ _ _ h => h) (Or.inl ⟨by rfl, ?_⟩) (by assumption) ?_
    rotate_left
    · (intro wz hSw; have hcz := HCE.out wz hSw; (go_simp <;> with_reducible rfl))
    (try simp only [Act.put, List.setIfInBounds_toArray, List.set_cons_zero, List.set_cons_succ])
    refine wpAnyH_take (i := 2) (oi := ⟨some 23, _, _, _, _, _⟩) (v := ?_) rfl (by kernel_rfl) (by kernel_rfl) (by kernel_rfl) (fun _ _ _ h => h) (Or.inl ⟨by rfl, ?_⟩) (by assumption) ?_
    rotate_left
    · (intro wz hSw; have hcz := HCE.out wz hSw; (go_simp <;> with_reducible rfl))
    (try simp only [Act.put, List.setIfInBounds_toArray, List.set_cons_zero, List.set_cons_succ])
    refine wpAnyH_take (i := 6) (oi := ⟨some 27, _, _, _, _, _⟩) (v := ?_) rfl (by kernel_rfl) (by kernel_rfl) (by kernel_rfl) (fun _ _ _ h => h) (Or.inl ⟨by rfl, ?_⟩) (by assumption) ?_
    rotate_left
    · (intro wz hSw; have hcz := HCE.out wz hSw; (go_simp <;> with_reducible rfl))
    (try simp only [Act.put, List.setIfInBounds_toArray, List.set_cons_zero, List.set_cons_succ])
    refine wpAnyH_take (i := 7) (oi := ⟨some 28, _, _, _, _, _⟩) (v := ?_) rfl (by kernel_rfl) (by kernel_rfl) (by kernel_rfl) (fun _ _ _ h => h) (Or.inl ⟨by rfl, ?_⟩) (by assumption) ?_
    rotate_left
    · (intro wz hSw; have hcz := HCE.out wz hSw; (go_simp <;> with_reducible rfl))
    (try simp only [Act.put, List.setIfInBounds_toArray, List.set_cons_zero, List.set_cons_succ])
    refine wpAnyH_take (i := 12) (oi := ⟨some 33, _, _, _, _, _⟩) (v := ?_) rfl (by kernel_rfl) (by kernel_rfl) (by kernel_rfl) (fun _ _ _ h => h) (Or.inl ⟨by rfl, ?_⟩) (by assumption) ?_
    rotate_left
    · (intro wz hSw; have hcz := HCE.out wz hSw; (go_simp <;> with_reducible rfl))
    (try simp only [Act.put, List.setIfInBounds_toArray, List.set_cons_zero, List.set_cons_succ])
    refine wpAnyH_take (i := 13) (oi := ⟨some 34, _, _, _, _, _⟩) (v := ?_) rfl (by kernel_rfl) (by kernel_rfl) (by kernel_rfl) (fun _ _ _ h => h) (Or.inl ⟨by rfl, ?_⟩) (by assumption) ?_
    rotate_left
    · (intro wz hSw; have hcz := HCE.out wz hSw; (go_simp <;> with_reducible rfl))
    (try simp only [Act.put, List.setIfInBounds_toArray, List.set_cons_zero, List.set_cons_succ])
    refine wpAnyH_take (i := 14) (oi := ⟨some 35, _, _, _, _, _⟩) (v := ?_) rfl (by kernel_rfl) (by kernel_rfl) (by kernel_rfl) (fun _ _ _ h => h) (Or.inl ⟨by rfl, ?_⟩) (by assumption) ?_
    rotate_left
    · (intro wz hSw; have hcz := HCE.out wz hSw; (go_simp <;> with_reducible rfl))
    (try simp only [Act.put, List.setIfInBounds_toArray, List.set_cons_zero, List.set_cons_succ])
    refine wpAnyH_take (i := 19) (oi := ⟨some 40, _, _, _, _, _⟩) (v := ?_) rfl (by kernel_rfl) (by kernel_rfl) (by kernel_rfl) (fun _ _ _ h => h) (Or.inl ⟨by rfl, ?_⟩) (by assumption) ?_
    rotate_left
    · (intro wz hSw; have hcz := HCE.out wz hSw; (go_simp <;> with_reducible rfl))
    (try simp only [Act.put, List.setIfInBounds_toArray, List.set_cons_zero, List.set_cons_succ])
    refine wpAnyH_take (i := 20) (oi := ⟨some 41, _, _, _, _, _⟩) (v := ?_) rfl (by kernel_rfl) (by kernel_rfl) (by kernel_rfl) (fun _ _ _ h => h) (Or.inl ⟨by rfl, ?_⟩) (by assumption) ?_
    rotate_left
    · (intro wz hSw; have hcz := HCE.out wz hSw; (go_simp <;> with_reducible rfl))
    (try simp only [Act.put, List.setIfInBounds_toArray, List.set_cons_zero, List.set_cons_succ])
    refine wpAnyH_take (i := 23) (oi := ⟨some 44, _, _, _, _, _⟩) (v := ?_) rfl (by kernel_rfl) (by kernel_rfl) (by kernel_rfl) (fun _ _ _ h => h) (Or.inl ⟨by rfl, ?_⟩) (by assumption) ?_
    rotate_left
    · (intro wz hSw; have hcz := HCE.out wz hSw; (go_simp <;> with_reducible rfl))
    (try simp only [Act.put, List.setIfInBounds_toArray, List.set_cons_zero, List.set_cons_succ])
    refine wpAnyH_take (i := 24) (oi := ⟨some 45, _, _, _, _, _⟩) (v := ?_) rfl (by kernel_rfl) (by kernel_rfl) (by kernel_rfl) (fun _ _ _ h => h) (Or.inl ⟨by rfl, ?_⟩) (by assumption) ?_
    rotate_left
    · (intro wz hSw; have hcz := HCE.out wz hSw; (go_simp <;> with_reducible rfl))
    (try simp only [Act.put, List.setIfInBounds_toArray, List.set_cons_zero, List.set_cons_succ])
    refine wpAnyH_take (i := 28) (oi := ⟨some 49, _, _, _, _, _⟩) (v := ?_) rfl (by kernel_rfl) (by kernel_rfl) (by kernel_rfl) (fun _ _ _ h => h) (Or.inl ⟨by rfl, ?_⟩) (by assumption) ?_
    rotate_left
    · (intro wz hSw; have hcz := HCE.out wz hSw; (go_simp <;> with_reducible rfl))
    (try simp only [Act.put, List.setIfInBounds_toArray, List.set_cons_zero, List.set_cons_succ])
    refine wpAnyH_ready (rs := [3]) (by kernel_rfl) (by simp) ?_
    refine AllReadyH.cons (o := ⟨some 24, _, _, _, _, _⟩) rfl (fun K hK => ?_) AllReadyH.nil
    go_simp
    refine (H0.out _ hH).mono ?_
    rintro e w5 ⟨rfl, hi5⟩
    refine hK.out _ _ hi5 (fun hH => ?_)
    clear hK K
    (try simp only [Act.put, List.setIfInBounds_toArray, List.set_cons_zero, List.set_cons_succ])
    refine wpAnyH_take (i := 4) (oi := ⟨some 25, _, _, _, _, _⟩) (v := ?_) rfl (by kernel_rfl) (by kernel_rfl) (by kernel_rfl) (fun _ _ _ h => h) (Or.inl ⟨by rfl, ?_⟩) (by assumption) ?_
    rotate_left
    · (intro wz hSw; have hcz := HCE.out wz hSw; (go_simp <;> with_reducible rfl))
    (try simp only [Act.put, List.setIfInBounds_toArray, List.set_cons_zero, List.set_cons_succ])
    refine wpAnyH_take (i := 5) (oi := ⟨some 26, _, _, _, _, _⟩) (v := ?_) rfl (by kernel_rfl) (by kernel_rfl) (by kernel_rfl) (fun _ _ _ h => h) (Or.inl ⟨by rfl, ?_⟩) (by assumption) ?_
    rotate_left
    · (intro wz hSw; have hcz := HCE.out wz hSw; (go_simp <;> with_reducible rfl))
    (try simp only [Act.put, List.setIfInBounds_toArray, List.set_cons_zero, List.set_cons_succ])
    refine wpAnyH_ready (rs := [8]) (by kernel_rfl) (by simp) ?_
    refine AllReadyH.cons (o := ⟨some 29, _, _, _, _, _⟩) rfl (fun K hK => ?_) AllReadyH.nil
    go_simp
    refine (H1.out _ hi5).mono ?_
    rintro e w6 ⟨rfl, hi6⟩
    refine hK.out _ _ hi6 (fun hH => ?_)
    clear hK K
    (try simp only [Act.put, List.setIfInBounds_toArray, List.set_cons_zero, List.set_cons_succ])
    refine wpAnyH_take (i := 9) (oi := ⟨some 30, _, _, _, _, _⟩) (v := ?_) rfl (by kernel_rfl) (by kernel_rfl) (by kernel_rfl) (fun _ _ _ h => h) (Or.inl ⟨by rfl, ?_⟩) (by assumption) ?_
    rotate_left
    · (intro wz hSw; have hcz := HCE.out wz hSw; (go_simp <;> with_reducible rfl))
    (try simp only [Act.put, List.setIfInBounds_toArray, List.set_cons_zero, List.set_cons_succ])
    refine wpAnyH_take (i := 10) (oi := ⟨some 31, _, _, _, _, _⟩) (v := ?_) rfl (by kernel_rfl) (by kernel_rfl) (by kernel_rfl) (fun _ _ _ h => h) (Or.inl ⟨by rfl, ?_⟩) (by assumption) ?_
    rotate_left
    · (intro wz hSw; have hcz := HCE.out wz hSw; (go_simp <;> with_reducible rfl))
    (try simp only [Act.put, List.setIfInBounds_toArray, List.set_cons_zero, List.set_cons_succ])
    refine wpAnyH_ready (rs := [11]) (by kernel_rfl) (by simp) ?_
    refine AllReadyH.cons (o := ⟨some 32, _, _, _, _, _⟩) rfl (fun K hK => ?_) AllReadyH.nil
    go_simp
    refine (HWD.out _ hi6).mono ?_
    rintro e w7 ⟨gw, rfl, hi7, hcw, hgw⟩
    refine hK.out _ _ hi7 (fun hH => ?_)
    clear hK K
    (try simp only [Act.put, List.setIfInBounds_toArray, List.set_cons_zero, List.set_cons_succ])
    refine wpAnyH_more (S' := fun W => I W ∧ W.cell? ⟨gw, 3, none⟩ = some (.string ⟨#[108, 105, 110, 101]⟩)) (fun _ h => h.1) _ _ _ _ ?_
    have hH2 : I w7 ∧ w7.cell? ⟨gw, 3, none⟩ = some (.string ⟨#[108, 105, 110, 101]⟩) := ⟨hi7, hcw 3 _ rfl⟩
    clear hH hcw
    refine wpAnyH_take (i := 15) (oi := ⟨some 36, _, _, _, _, _⟩) (v := ?_) rfl (by kernel_rfl) (by kernel_rfl) (by kernel_rfl) (fun _ _ _ h => h) (Or.inl ⟨by rfl, ?_⟩) (by assumption) ?_
    rotate_left
    · (intro wz hSw; have hcz := HCE.out wz hSw.1; have hwz := hSw.2; (go_simp <;> with_reducible rfl))
    (try simp only [Act.put, List.setIfInBounds_toArray, List.set_cons_zero, List.set_cons_succ])
    refine wpAnyH_take (i := 16) (oi := ⟨some 37, _, _, _, _, _⟩) (v := ?_) rfl (by kernel_rfl) (by kernel_rfl) (by kernel_rfl) (fun _ _ _ h => h) (Or.inl ⟨by rfl, ?_⟩) (by assumption) ?_
    rotate_left
    · (intro wz hSw; have hcz := HCE.out wz hSw.1; have hwz := hSw.2; (go_simp <;> with_reducible rfl))
    (try simp only [Act.put, List.setIfInBounds_toArray, List.set_cons_zero, List.set_cons_succ])
    refine wpAnyH_take (i := 17) (oi := ⟨some 38, _, _, _, _, _⟩) (v := ?_) rfl (by kernel_rfl) (by kernel_rfl) (by kernel_rfl) (fun _ _ _ h => h) (Or.inl ⟨by rfl, ?_⟩) (by assumption) ?_
    rotate_left
    · (intro wz hSw; have hcz := HCE.out wz hSw.1; have hwz := hSw.2; (go_simp <;> with_reducible rfl))
    (try simp only [Act.put, List.setIfInBounds_toArray, List.set_cons_zero, List.set_cons_succ])
    refine wpAnyH_take (i := 18) (oi := ⟨some 39, _, _, _, _, _⟩) (v := ?_) rfl (by kernel_rfl) (by kernel_rfl) (by kernel_rfl) (fun _ _ _ h => h) (Or.inl ⟨by rfl, ?_⟩) (by assumption) ?_
    rotate_left
    · (intro wz hSw; have hcz := HCE.out wz hSw.1; have hwz := hSw.2; (go_simp <;> with_reducible rfl))
    (try simp only [Act.put, List.setIfInBounds_toArray, List.set_cons_zero, List.set_cons_succ])
    refine wpAnyH_take (i := 21) (oi := ⟨some 42, _, _, _, _, _⟩) (v := ?_) rfl (by kernel_rfl) (by kernel_rfl) (by kernel_rfl) (fun _ _ _ h => h) (Or.inl ⟨by rfl, ?_⟩) (by assumption) ?_
    rotate_left
    · (intro wz hSw; have hcz := HCE.out wz hSw.1; have hwz := hSw.2; (go_simp <;> with_reducible rfl))
    (try simp only [Act.put, List.setIfInBounds_toArray, List.set_cons_zero, List.set_cons_succ])
    refine wpAnyH_take (i := 22) (oi := ⟨some 43, _, _, _, _, _⟩) (v := ?_) rfl (by kernel_rfl) (by kernel_rfl) (by kernel_rfl) (fun _ _ _ h => h) (Or.inl ⟨by rfl, ?_⟩) (by assumption) ?_
    rotate_left
    · (intro wz hSw; have hcz := HCE.out wz hSw.1; have hwz := hSw.2; (go_simp <;> with_reducible rfl))
    (try simp only [Act.put, List.setIfInBounds_toArray, List.set_cons_zero, List.set_cons_succ])
    refine wpAnyH_ready (rs := [25]) (by kernel_rfl) (by simp) ?_
    refine AllReadyH.cons (o := ⟨some 46, _, _, _, _, _⟩) rfl (fun K hK => ?_) AllReadyH.nil
    go_simp
    refine (HSP.out _ hi7).mono ?_
    rintro e w8 ⟨rfl, hi8, hbsp⟩
    have hgw2 := (hbsp.block gw (Array.getElem?_eq_some_iff.1 hgw).1).trans hgw
    have cw2 : w8.cell? ⟨gw, 3, none⟩ = some (.string ⟨#[108, 105, 110, 101]⟩) := (by rw [cell_of_row _ _ _ _ _ _ hgw2]; rfl)
    refine hK.out _ _ ⟨hi8, cw2⟩ (fun hH => ?_)
    clear hK K
    (try simp only [Act.put, List.setIfInBounds_toArray, List.set_cons_zero, List.set_cons_succ])
    refine wpAnyH_take (i := 26) (oi := ⟨some 47, _, _, _, _, _⟩) (v := ?_) rfl (by kernel_rfl) (by kernel_rfl) (by kernel_rfl) (fun _ _ _ h => h) (Or.inl ⟨by rfl, ?_⟩) (by assumption) ?_
    rotate_left
    · (intro wz hSw; have hcz := HCE.out wz hSw.1; have hwz := hSw.2; (go_simp <;> with_reducible rfl))
    (try simp only [Act.put, List.setIfInBounds_toArray, List.set_cons_zero, List.set_cons_succ])
    refine wpAnyH_take (i := 27) (oi := ⟨some 48, _, _, _, _, _⟩) (v := ?_) rfl (by kernel_rfl) (by kernel_rfl) (by kernel_rfl) (fun _ _ _ h => h) (Or.inl ⟨by rfl, ?_⟩) (by assumption) ?_
    rotate_left
    · (intro wz hSw; have hcz := HCE.out wz hSw.1; have hwz := hSw.2; (go_simp <;> with_reducible rfl))
    (try simp only [Act.put, List.setIfInBounds_toArray, List.set_cons_zero, List.set_cons_succ])
    refine wpAnyH_take (i := 29) (oi := ⟨some 50, _, _, _, _, _⟩) (v := ?_) rfl (by kernel_rfl) (by kernel_rfl) (by kernel_rfl) (fun _ _ _ h => h) (Or.inl ⟨by rfl, ?_⟩) (by assumption) ?_
    rotate_left
    · (intro wz hSw; have hcz := HCE.out wz hSw.1; have hwz := hSw.2; (go_simp <;> with_reducible rfl))
    (try simp only [Act.put, List.setIfInBounds_toArray, List.set_cons_zero, List.set_cons_succ])
    refine wpAnyH_take (i := 30) (oi := ⟨some 51, _, _, _, _, _⟩) (v := ?_) rfl (by kernel_rfl) (by kernel_rfl) (by kernel_rfl) (fun _ _ _ h => h) (Or.inl ⟨by rfl, ?_⟩) (by assumption) ?_
    rotate_left
    · (intro wz hSw; have hcz := HCE.out wz hSw.1; have hwz := hSw.2; (go_simp <;> with_reducible rfl))
    (try simp only [Act.put, List.setIfInBounds_toArray, List.set_cons_zero, List.set_cons_succ])
    refine wpAnyH_take (i := 31) (oi := ⟨some 3, _, _, _, _, _⟩) (v := ?_) rfl (by kernel_rfl) (by kernel_rfl) (by kernel_rfl) (fun _ _ _ h => h) (Or.inl ⟨by rfl, ?_⟩) (by assumption) ?_
    rotate_left
    · (intro wz hSw; have hcz := HCE.out wz hSw.1; have hwz := hSw.2; (go_simp <;> with_reducible rfl))
    (try simp only [Act.put, List.setIfInBounds_toArray, List.set_cons_zero, List.set_cons_succ])
    refine wpAnyH_done (by kernel_rfl) ?_ _
    go_wp2_with fail
    go_ret
    exact ⟨by first | rfl | (simp only [ByteArray.append_assoc]; rfl), HFN.out _ (by assumption)⟩

set_option maxRecDepth 100000 in
set_option maxHeartbeats 8000000 in
theorem rtx_aceilingA (cd : ByteArray) (yr : Int) (am : Int) (nu : Int) (dy : Int) (c1 : isCodeB cd = true) (hs : yr = -1 ∨ 0 ≤ yr ∧ yr ≤ 99) (ha : 0 ≤ am ∧ am ≤ 1000000000000) (hd : 0 ≤ dy ∧ dy ≤ 35990) (hn : 1 ≤ nu ∧ nu ≤ 1000000) (w : World) (hL : Lay w) :
    Calls Tryz.prog 13 #[.agg #[.int .i64 10, .string cd, .string ⟨#[]⟩, .string ⟨#[]⟩, .int .i64 yr, .int .i64 am, .int .i64 0, .int .i64 nu, .int .i64 dy, .int .i64 0, .int .i64 2]] w fun e w' => e = .returned (.string (textA ⟨10, cd, ⟨#[]⟩, ⟨#[]⟩, yr, am, 0, nu, dy, 0, 2⟩)) ∧ Below w.heap.size w w' := by
  have HPL := Lib.hid (fun W => rplain_yes ⟨10, cd, ⟨#[]⟩, ⟨#[]⟩, yr, am, 0, nu, dy, 0, 2⟩ (pl_aceiling cd yr am dy nu c1 hs (Or.inr ha) hd hn) W)
  rw [rtm_aceilingA cd yr am nu dy c1 hs ha hd hn]
  simp only [Art.cells] at HPL
  obtain ⟨I, hI⟩ : ∃ I : World → Prop, I = fun W => Below (w.heap.size + 1) (w.alloc (.cells #[.int .i64 10, .string cd, .string ⟨#[]⟩, .string ⟨#[]⟩, .int .i64 yr, .int .i64 am, .int .i64 0, .int .i64 nu, .int .i64 dy, .int .i64 0, .int .i64 2] 24)) W := ⟨_, rfl⟩
  have hlater : ∀ A B, I A → Below A.heap.size A B → I B := by rw [hI]; exact fun A B h hb => h.trans (hb.mono (by have := h.size; simp at this; omega))
  have hdrew : ∀ A, I A → I A.drew := by rw [hI]; exact fun A h => h.drew
  have hfin : ∀ A, I A → Below w.heap.size w A := by rw [hI]; exact fun A h => (below_alloc w _).trans (h.mono (Nat.le_succ _))
  have hcells : ∀ A, I A → ∀ j, A.cell? ⟨w.heap.size, j, none⟩ = #[.int .i64 10, .string cd, .string ⟨#[]⟩, .string ⟨#[]⟩, .int .i64 yr, .int .i64 am, .int .i64 0, .int .i64 nu, .int .i64 dy, .int .i64 0, .int .i64 2][j]? := by rw [hI]; exact fun A h => boxg_below h
  have hnew : I (w.alloc (.cells #[.int .i64 10, .string cd, .string ⟨#[]⟩, .string ⟨#[]⟩, .int .i64 yr, .int .i64 am, .int .i64 0, .int .i64 nu, .int .i64 dy, .int .i64 0, .int .i64 2] 24)) := by rw [hI]; exact Below.refl _ _
  have hlay : ∀ A, I A → Lay A := fun A h => hL.below (hfin A h) (Nat.le_refl _)
  have z_cd : cd.size ≤ 11 := code_small c1
  have z_d_dy : (dayT dy).size ≤ 100000 := dayT_small dy
  have H0 := Lib.hid (fun W (hW : I W) => (rcText_dayT dy (by omega) (by omega) W (hlay W hW)).mono fun e w' h => (show _ ∧ I w' from ⟨h.1, hlater _ _ hW h.2⟩))
  have z_i_nu : (itoaT nu).size ≤ 21 := itoaT_size nu (by omega) (by omega)
  have H1 := Lib.hid (fun W (hW : I W) => (itoa_any nu W (hlay W hW) (by omega) (by omega)).mono fun e w' h => (show _ ∧ I w' from ⟨h.1, hlater _ _ hW h.2⟩))
  have z_s_yr : (numOr yr allT).size ≤ 21 := numOr_size yr _ (by decide) (by omega) (by omega)
  have H2 := Lib.hid (fun W (hW : I W) => (rarspan_any yr W (hlay W hW) (by omega) (by omega)).mono fun e w' h => (show _ ∧ I w' from ⟨h.1, hlater _ _ hW h.2⟩))
  have z_i_am : (itoaT am).size ≤ 21 := itoaT_size am (by omega) (by omega)
  have H3 := Lib.hid (fun W (hW : I W) => (itoa_any am W (hlay W hW) (by omega) (by omega)).mono fun e w' h => (show _ ∧ I w' from ⟨h.1, hlater _ _ hW h.2⟩))
  have HWD := Lib.hid (fun W (hW : I W) => (rarWords_any W).mono fun e w' h => (show ∃ g, e = .returned (.slice (some ⟨g, 0, none⟩) 11 11) ∧ I w' ∧ (∀ (j : Nat) x, kindW[j]? = some x → w'.cell? ⟨g, j, none⟩ = some (.string x)) ∧ w'.heap[g]? = some (.cells (cellsS kindW).toArray 9 (0, 0)) from ⟨W.heap.size, h.1, by rw [h.2]; exact hlater _ _ hW (below_alloc _ _), fun j x hx => by rw [h.2, cell_of_row _ _ _ _ _ _ (heap_alloc_new W _)]; simp [cellsS, hx], by rw [h.2]; exact heap_alloc_new W _⟩))
  have HPL2 := Lib.hid (fun W (hW : I W) => (HPL.out W).mono fun e w' h => (show _ ∧ I w' from ⟨h.1, hlater _ _ hW h.2⟩))
  have HSP := Lib.hid (fun W (hW : I W) => (rarspan_any yr W (hlay W hW) (by omega) (by omega)).mono fun e w' h => (show _ ∧ I w' ∧ Below W.heap.size W w' from ⟨h.1, hlater _ _ hW h.2, h.2⟩))
  generalize dayT dy = d_dy at *
  generalize itoaT nu = i_nu at *
  generalize numOr yr allT = s_yr at *
  generalize itoaT am = i_am at *
  have HCE := Lib.hid hcells
  have HDR := Lib.hid hdrew
  have HFN := Lib.hid hfin
  clear hI hlater hdrew hfin hcells HPL hL hlay
  have q0 : ¬ 9223372036854775807 < 1 + d_dy.size := by omega
  have q1 : ¬ 9223372036854775807 < 1 + d_dy.size + 1 := by omega
  have q2 : ¬ 9223372036854775807 < 1 + d_dy.size + 1 + i_nu.size := by omega
  have q3 : ¬ 9223372036854775807 < 1 + d_dy.size + 1 + i_nu.size + 1 := by omega
  have q4 : ¬ 9223372036854775807 < 1 + d_dy.size + 1 + i_nu.size + 1 + 7 := by omega
  have q5 : ¬ 9223372036854775807 < 1 + d_dy.size + 1 + i_nu.size + 1 + 7 + 1 := by omega
  have q6 : ¬ 9223372036854775807 < 1 + d_dy.size + 1 + i_nu.size + 1 + 7 + 1 + cd.size := by omega
  have q7 : ¬ 9223372036854775807 < 1 + d_dy.size + 1 + i_nu.size + 1 + 7 + 1 + cd.size + 1 := by omega
  have q8 : ¬ 9223372036854775807 < 1 + d_dy.size + 1 + i_nu.size + 1 + 7 + 1 + cd.size + 1 + s_yr.size := by omega
  have q9 : ¬ 9223372036854775807 < 1 + d_dy.size + 1 + i_nu.size + 1 + 7 + 1 + cd.size + 1 + s_yr.size + 1 := by omega
  have q10 : ¬ 9223372036854775807 < 1 + d_dy.size + 1 + i_nu.size + 1 + 7 + 1 + cd.size + 1 + s_yr.size + 1 + i_am.size := by omega
  have q11 : ¬ 9223372036854775807 < 5 + (1 + d_dy.size + 1 + i_nu.size + 1 + 7 + 1 + cd.size + 1 + s_yr.size + 1 + i_am.size) := by omega
  go_enter Tryz.func13, Tryz.ntmps13
  go_wp2_with fail
  refine (HPL2.out _ hnew).mono ?_
  rintro e w1 ⟨rfl, hi1⟩
  have HI1 := Lib.hid hi1
  have hu := HCE.out _ hi1
  clear hnew
  go_upto_region 3 with fail
  go_cut [3] (fun s wx => s = .string ⟨#[97, 109, 101, 110, 100]⟩ ∧ I wx)
  case first =>
    go_region_with (go_at_call 40; refine (HWD.out _ (by first | exact HI1.out | exact HDR.out _ HI1.out)).mono ?_; rintro e w2 ⟨gw, rfl, hi2, hcw, _⟩; have cw := hcw 10 _ rfl; have u2 := HCE.out _ hi2; clear hcw)
    all_goals (go_wp2_with fail)
    all_goals go_meet
    all_goals exact ⟨rfl, by first | assumption | exact HDR.out _ (by assumption)⟩
  case rest =>
    obtain ⟨rfl, hi3⟩ := hcut
    have HI3 := Lib.hid hi3
    have hu3 := HCE.out _ hi3
    clear HI1 hi1 hu
    have ham : 0 ≤ am := ha.1
    go_upto_region 8 with (go_at_call 41; (with_reducible refine (H3.out _ hi3).mono ?_); rintro e w4 ⟨rfl, hi4⟩; have hu4 := HCE.out _ hi4)
    have hw3 : IntKind.i64.wrap 4 = 4 := by decide
    refine wp_region_held_drew (S := I) (by kernel_rfl) (HDR.out _ (by assumption)) (fun hH => ?_)
    refine wpAnyH_take (i := 0) (oi := ⟨some 21, _, _, _, _, _⟩) (v := ?_) rfl (by kernel_rfl) (by kernel_rfl) (by kernel_rfl) (fun _ _ _ h => h) (Or.inl ⟨by rfl, ?_⟩) (by assumption) ?_
    rotate_left
    · (intro wz hSw; have hcz := HCE.out wz hSw; (go_simp <;> with_reducible rfl))
    (try simp only [Act.put, List.setIfInBounds_toArray, List.set_cons_zero, List.set_cons_succ])
    refine wpAnyH_take (i := 1) (oi := ⟨some 22, _, _, _, _, _⟩) (v := ?_) rfl (by kernel_rfl) (by kernel_rfl) (by kernel_rfl) (fun _ _ _ h => h) (Or.inl ⟨by rfl, ?_⟩) (by assumption) ?_
    rotate_left
    · (intro wz hSw; have hcz := HCE.out wz hSw; (go_simp <;> with_reducible rfl))
    (try simp only [Act.put, List.setIfInBounds_toArray, List.set_cons_zero, List.set_cons_succ])
    refine wpAnyH_take (i := 2) (oi := ⟨some 23, _, _, _, _, _⟩) (v := ?_) rfl (by kernel_rfl) (by kernel_rfl) (by kernel_rfl) (fun _ _ _ h => h) (Or.inl ⟨by rfl, ?_⟩) (by assumption) ?_
    rotate_left
    · (intro wz hSw; have hcz := HCE.out wz hSw; (go_simp <;> with_reducible rfl))
    (try simp only [Act.put, List.setIfInBounds_toArray, List.set_cons_zero, List.set_cons_succ])
    refine wpAnyH_take (i := 6) (oi := ⟨some 27, _, _, _, _, _⟩) (v := ?_) rfl (by kernel_rfl) (by kernel_rfl) (by kernel_rfl) (fun _ _ _ h => h) (Or.inl ⟨by rfl, ?_⟩) (by assumption) ?_
    rotate_left
    · (intro wz hSw; have hcz := HCE.out wz hSw; (go_simp <;> with_reducible rfl))
    (try simp only [Act.put, List.setIfInBounds_toArray, List.set_cons_zero, List.set_cons_succ])
    refine wpAnyH_take (i := 7) (oi := ⟨some 28, _, _, _, _, _⟩) (v := ?_) rfl (by kernel_rfl) (by kernel_rfl) (by kernel_rfl) (fun _ _ _ h => h) (Or.inl ⟨by rfl, ?_⟩) (by assumption) ?_
    rotate_left
    · (intro wz hSw; have hcz := HCE.out wz hSw; (go_simp <;> with_reducible rfl))
    (try simp only [Act.put, List.setIfInBounds_toArray, List.set_cons_zero, List.set_cons_succ])
    refine wpAnyH_take (i := 12) (oi := ⟨some 33, _, _, _, _, _⟩) (v := ?_) rfl (by kernel_rfl) (by kernel_rfl) (by kernel_rfl) (fun _ _ _ h => h) (Or.inl ⟨by rfl, ?_⟩) (by assumption) ?_
    rotate_left
    · (intro wz hSw; have hcz := HCE.out wz hSw; (go_simp <;> with_reducible rfl))
    (try simp only [Act.put, List.setIfInBounds_toArray, List.set_cons_zero, List.set_cons_succ])
    refine wpAnyH_take (i := 13) (oi := ⟨some 34, _, _, _, _, _⟩) (v := ?_) rfl (by kernel_rfl) (by kernel_rfl) (by kernel_rfl) (fun _ _ _ h => h) (Or.inl ⟨by rfl, ?_⟩) (by assumption) ?_
    rotate_left
    · (intro wz hSw; have hcz := HCE.out wz hSw; (go_simp <;> with_reducible rfl))
    (try simp only [Act.put, List.setIfInBounds_toArray, List.set_cons_zero, List.set_cons_succ])
    refine wpAnyH_take (i := 14) (oi := ⟨some 35, _, _, _, _, _⟩) (v := ?_) rfl (by kernel_rfl) (by kernel_rfl) (by kernel_rfl) (fun _ _ _ h => h) (Or.inl ⟨by rfl, ?_⟩) (by assumption) ?_
    rotate_left
    · (intro wz hSw; have hcz := HCE.out wz hSw; (go_simp <;> with_reducible rfl))
    (try simp only [Act.put, List.setIfInBounds_toArray, List.set_cons_zero, List.set_cons_succ])
    refine wpAnyH_take (i := 19) (oi := ⟨some 40, _, _, _, _, _⟩) (v := ?_) rfl (by kernel_rfl) (by kernel_rfl) (by kernel_rfl) (fun _ _ _ h => h) (Or.inl ⟨by rfl, ?_⟩) (by assumption) ?_
    rotate_left
    · (intro wz hSw; have hcz := HCE.out wz hSw; (go_simp <;> with_reducible rfl))
    (try simp only [Act.put, List.setIfInBounds_toArray, List.set_cons_zero, List.set_cons_succ])
    refine wpAnyH_take (i := 20) (oi := ⟨some 41, _, _, _, _, _⟩) (v := ?_) rfl (by kernel_rfl) (by kernel_rfl) (by kernel_rfl) (fun _ _ _ h => h) (Or.inl ⟨by rfl, ?_⟩) (by assumption) ?_
    rotate_left
    · (intro wz hSw; have hcz := HCE.out wz hSw; (go_simp <;> with_reducible rfl))
    (try simp only [Act.put, List.setIfInBounds_toArray, List.set_cons_zero, List.set_cons_succ])
    refine wpAnyH_take (i := 23) (oi := ⟨some 44, _, _, _, _, _⟩) (v := ?_) rfl (by kernel_rfl) (by kernel_rfl) (by kernel_rfl) (fun _ _ _ h => h) (Or.inl ⟨by rfl, ?_⟩) (by assumption) ?_
    rotate_left
    · (intro wz hSw; have hcz := HCE.out wz hSw; (go_simp <;> with_reducible rfl))
    (try simp only [Act.put, List.setIfInBounds_toArray, List.set_cons_zero, List.set_cons_succ])
    refine wpAnyH_take (i := 24) (oi := ⟨some 45, _, _, _, _, _⟩) (v := ?_) rfl (by kernel_rfl) (by kernel_rfl) (by kernel_rfl) (fun _ _ _ h => h) (Or.inl ⟨by rfl, ?_⟩) (by assumption) ?_
    rotate_left
    · (intro wz hSw; have hcz := HCE.out wz hSw; (go_simp <;> with_reducible rfl))
    (try simp only [Act.put, List.setIfInBounds_toArray, List.set_cons_zero, List.set_cons_succ])
    refine wpAnyH_take (i := 28) (oi := ⟨some 49, _, _, _, _, _⟩) (v := ?_) rfl (by kernel_rfl) (by kernel_rfl) (by kernel_rfl) (fun _ _ _ h => h) (Or.inl ⟨by rfl, ?_⟩) (by assumption) ?_
    rotate_left
    · (intro wz hSw; have hcz := HCE.out wz hSw; (go_simp <;> with_reducible rfl))
    (try simp only [Act.put, List.setIfInBounds_toArray, List.set_cons_zero, List.set_cons_succ])
    refine wpAnyH_ready (rs := [3]) (by kernel_rfl) (by simp) ?_
    refine AllReadyH.cons (o := ⟨some 24, _, _, _, _, _⟩) rfl (fun K hK => ?_) AllReadyH.nil
    go_simp
    refine (H0.out _ hH).mono ?_
    rintro e w5 ⟨rfl, hi5⟩
    refine hK.out _ _ hi5 (fun hH => ?_)
    clear hK K
    (try simp only [Act.put, List.setIfInBounds_toArray, List.set_cons_zero, List.set_cons_succ])
    refine wpAnyH_take (i := 4) (oi := ⟨some 25, _, _, _, _, _⟩) (v := ?_) rfl (by kernel_rfl) (by kernel_rfl) (by kernel_rfl) (fun _ _ _ h => h) (Or.inl ⟨by rfl, ?_⟩) (by assumption) ?_
    rotate_left
    · (intro wz hSw; have hcz := HCE.out wz hSw; (go_simp <;> with_reducible rfl))
    (try simp only [Act.put, List.setIfInBounds_toArray, List.set_cons_zero, List.set_cons_succ])
    refine wpAnyH_take (i := 5) (oi := ⟨some 26, _, _, _, _, _⟩) (v := ?_) rfl (by kernel_rfl) (by kernel_rfl) (by kernel_rfl) (fun _ _ _ h => h) (Or.inl ⟨by rfl, ?_⟩) (by assumption) ?_
    rotate_left
    · (intro wz hSw; have hcz := HCE.out wz hSw; (go_simp <;> with_reducible rfl))
    (try simp only [Act.put, List.setIfInBounds_toArray, List.set_cons_zero, List.set_cons_succ])
    refine wpAnyH_ready (rs := [8]) (by kernel_rfl) (by simp) ?_
    refine AllReadyH.cons (o := ⟨some 29, _, _, _, _, _⟩) rfl (fun K hK => ?_) AllReadyH.nil
    go_simp
    refine (H1.out _ hi5).mono ?_
    rintro e w6 ⟨rfl, hi6⟩
    refine hK.out _ _ hi6 (fun hH => ?_)
    clear hK K
    (try simp only [Act.put, List.setIfInBounds_toArray, List.set_cons_zero, List.set_cons_succ])
    refine wpAnyH_take (i := 9) (oi := ⟨some 30, _, _, _, _, _⟩) (v := ?_) rfl (by kernel_rfl) (by kernel_rfl) (by kernel_rfl) (fun _ _ _ h => h) (Or.inl ⟨by rfl, ?_⟩) (by assumption) ?_
    rotate_left
    · (intro wz hSw; have hcz := HCE.out wz hSw; (go_simp <;> with_reducible rfl))
    (try simp only [Act.put, List.setIfInBounds_toArray, List.set_cons_zero, List.set_cons_succ])
    refine wpAnyH_take (i := 10) (oi := ⟨some 31, _, _, _, _, _⟩) (v := ?_) rfl (by kernel_rfl) (by kernel_rfl) (by kernel_rfl) (fun _ _ _ h => h) (Or.inl ⟨by rfl, ?_⟩) (by assumption) ?_
    rotate_left
    · (intro wz hSw; have hcz := HCE.out wz hSw; (go_simp <;> with_reducible rfl))
    (try simp only [Act.put, List.setIfInBounds_toArray, List.set_cons_zero, List.set_cons_succ])
    refine wpAnyH_ready (rs := [11]) (by kernel_rfl) (by simp) ?_
    refine AllReadyH.cons (o := ⟨some 32, _, _, _, _, _⟩) rfl (fun K hK => ?_) AllReadyH.nil
    go_simp
    refine (HWD.out _ hi6).mono ?_
    rintro e w7 ⟨gw, rfl, hi7, hcw, hgw⟩
    refine hK.out _ _ hi7 (fun hH => ?_)
    clear hK K
    (try simp only [Act.put, List.setIfInBounds_toArray, List.set_cons_zero, List.set_cons_succ])
    refine wpAnyH_more (S' := fun W => I W ∧ W.cell? ⟨gw, 4, none⟩ = some (.string ⟨#[99, 101, 105, 108, 105, 110, 103]⟩)) (fun _ h => h.1) _ _ _ _ ?_
    have hH2 : I w7 ∧ w7.cell? ⟨gw, 4, none⟩ = some (.string ⟨#[99, 101, 105, 108, 105, 110, 103]⟩) := ⟨hi7, hcw 4 _ rfl⟩
    clear hH hcw
    refine wpAnyH_take (i := 15) (oi := ⟨some 36, _, _, _, _, _⟩) (v := ?_) rfl (by kernel_rfl) (by kernel_rfl) (by kernel_rfl) (fun _ _ _ h => h) (Or.inl ⟨by rfl, ?_⟩) (by assumption) ?_
    rotate_left
    · (intro wz hSw; have hcz := HCE.out wz hSw.1; have hwz := hSw.2; (go_simp <;> with_reducible rfl))
    (try simp only [Act.put, List.setIfInBounds_toArray, List.set_cons_zero, List.set_cons_succ])
    refine wpAnyH_take (i := 16) (oi := ⟨some 37, _, _, _, _, _⟩) (v := ?_) rfl (by kernel_rfl) (by kernel_rfl) (by kernel_rfl) (fun _ _ _ h => h) (Or.inl ⟨by rfl, ?_⟩) (by assumption) ?_
    rotate_left
    · (intro wz hSw; have hcz := HCE.out wz hSw.1; have hwz := hSw.2; (go_simp <;> with_reducible rfl))
    (try simp only [Act.put, List.setIfInBounds_toArray, List.set_cons_zero, List.set_cons_succ])
    refine wpAnyH_take (i := 17) (oi := ⟨some 38, _, _, _, _, _⟩) (v := ?_) rfl (by kernel_rfl) (by kernel_rfl) (by kernel_rfl) (fun _ _ _ h => h) (Or.inl ⟨by rfl, ?_⟩) (by assumption) ?_
    rotate_left
    · (intro wz hSw; have hcz := HCE.out wz hSw.1; have hwz := hSw.2; (go_simp <;> with_reducible rfl))
    (try simp only [Act.put, List.setIfInBounds_toArray, List.set_cons_zero, List.set_cons_succ])
    refine wpAnyH_take (i := 18) (oi := ⟨some 39, _, _, _, _, _⟩) (v := ?_) rfl (by kernel_rfl) (by kernel_rfl) (by kernel_rfl) (fun _ _ _ h => h) (Or.inl ⟨by rfl, ?_⟩) (by assumption) ?_
    rotate_left
    · (intro wz hSw; have hcz := HCE.out wz hSw.1; have hwz := hSw.2; (go_simp <;> with_reducible rfl))
    (try simp only [Act.put, List.setIfInBounds_toArray, List.set_cons_zero, List.set_cons_succ])
    refine wpAnyH_take (i := 21) (oi := ⟨some 42, _, _, _, _, _⟩) (v := ?_) rfl (by kernel_rfl) (by kernel_rfl) (by kernel_rfl) (fun _ _ _ h => h) (Or.inl ⟨by rfl, ?_⟩) (by assumption) ?_
    rotate_left
    · (intro wz hSw; have hcz := HCE.out wz hSw.1; have hwz := hSw.2; (go_simp <;> with_reducible rfl))
    (try simp only [Act.put, List.setIfInBounds_toArray, List.set_cons_zero, List.set_cons_succ])
    refine wpAnyH_take (i := 22) (oi := ⟨some 43, _, _, _, _, _⟩) (v := ?_) rfl (by kernel_rfl) (by kernel_rfl) (by kernel_rfl) (fun _ _ _ h => h) (Or.inl ⟨by rfl, ?_⟩) (by assumption) ?_
    rotate_left
    · (intro wz hSw; have hcz := HCE.out wz hSw.1; have hwz := hSw.2; (go_simp <;> with_reducible rfl))
    (try simp only [Act.put, List.setIfInBounds_toArray, List.set_cons_zero, List.set_cons_succ])
    refine wpAnyH_ready (rs := [25]) (by kernel_rfl) (by simp) ?_
    refine AllReadyH.cons (o := ⟨some 46, _, _, _, _, _⟩) rfl (fun K hK => ?_) AllReadyH.nil
    go_simp
    refine (HSP.out _ hi7).mono ?_
    rintro e w8 ⟨rfl, hi8, hbsp⟩
    have hgw2 := (hbsp.block gw (Array.getElem?_eq_some_iff.1 hgw).1).trans hgw
    have cw2 : w8.cell? ⟨gw, 4, none⟩ = some (.string ⟨#[99, 101, 105, 108, 105, 110, 103]⟩) := (by rw [cell_of_row _ _ _ _ _ _ hgw2]; rfl)
    refine hK.out _ _ ⟨hi8, cw2⟩ (fun hH => ?_)
    clear hK K
    (try simp only [Act.put, List.setIfInBounds_toArray, List.set_cons_zero, List.set_cons_succ])
    refine wpAnyH_take (i := 26) (oi := ⟨some 47, _, _, _, _, _⟩) (v := ?_) rfl (by kernel_rfl) (by kernel_rfl) (by kernel_rfl) (fun _ _ _ h => h) (Or.inl ⟨by rfl, ?_⟩) (by assumption) ?_
    rotate_left
    · (intro wz hSw; have hcz := HCE.out wz hSw.1; have hwz := hSw.2; (go_simp <;> with_reducible rfl))
    (try simp only [Act.put, List.setIfInBounds_toArray, List.set_cons_zero, List.set_cons_succ])
    refine wpAnyH_take (i := 27) (oi := ⟨some 48, _, _, _, _, _⟩) (v := ?_) rfl (by kernel_rfl) (by kernel_rfl) (by kernel_rfl) (fun _ _ _ h => h) (Or.inl ⟨by rfl, ?_⟩) (by assumption) ?_
    rotate_left
    · (intro wz hSw; have hcz := HCE.out wz hSw.1; have hwz := hSw.2; (go_simp <;> with_reducible rfl))
    (try simp only [Act.put, List.setIfInBounds_toArray, List.set_cons_zero, List.set_cons_succ])
    refine wpAnyH_take (i := 29) (oi := ⟨some 50, _, _, _, _, _⟩) (v := ?_) rfl (by kernel_rfl) (by kernel_rfl) (by kernel_rfl) (fun _ _ _ h => h) (Or.inl ⟨by rfl, ?_⟩) (by assumption) ?_
    rotate_left
    · (intro wz hSw; have hcz := HCE.out wz hSw.1; have hwz := hSw.2; (go_simp <;> with_reducible rfl))
    (try simp only [Act.put, List.setIfInBounds_toArray, List.set_cons_zero, List.set_cons_succ])
    refine wpAnyH_take (i := 30) (oi := ⟨some 51, _, _, _, _, _⟩) (v := ?_) rfl (by kernel_rfl) (by kernel_rfl) (by kernel_rfl) (fun _ _ _ h => h) (Or.inl ⟨by rfl, ?_⟩) (by assumption) ?_
    rotate_left
    · (intro wz hSw; have hcz := HCE.out wz hSw.1; have hwz := hSw.2; (go_simp <;> with_reducible rfl))
    (try simp only [Act.put, List.setIfInBounds_toArray, List.set_cons_zero, List.set_cons_succ])
    refine wpAnyH_take (i := 31) (oi := ⟨some 3, _, _, _, _, _⟩) (v := ?_) rfl (by kernel_rfl) (by kernel_rfl) (by kernel_rfl) (fun _ _ _ h => h) (Or.inl ⟨by rfl, ?_⟩) (by assumption) ?_
    rotate_left
    · (intro wz hSw; have hcz := HCE.out wz hSw.1; have hwz := hSw.2; (go_simp <;> with_reducible rfl))
    (try simp only [Act.put, List.setIfInBounds_toArray, List.set_cons_zero, List.set_cons_succ])
    refine wpAnyH_done (by kernel_rfl) ?_ _
    go_wp2_with fail
    go_ret
    exact ⟨by first | rfl | (simp only [ByteArray.append_assoc]; rfl), HFN.out _ (by assumption)⟩

set_option maxRecDepth 100000 in
set_option maxHeartbeats 8000000 in
theorem rtx_aceilingN (cd : ByteArray) (yr : Int) (nu : Int) (dy : Int) (c1 : isCodeB cd = true) (hs : yr = -1 ∨ 0 ≤ yr ∧ yr ≤ 99) (hd : 0 ≤ dy ∧ dy ≤ 35990) (hn : 1 ≤ nu ∧ nu ≤ 1000000) (w : World) (hL : Lay w) :
    Calls Tryz.prog 13 #[.agg #[.int .i64 10, .string cd, .string ⟨#[]⟩, .string ⟨#[]⟩, .int .i64 yr, .int .i64 (-1), .int .i64 0, .int .i64 nu, .int .i64 dy, .int .i64 0, .int .i64 2]] w fun e w' => e = .returned (.string (textA ⟨10, cd, ⟨#[]⟩, ⟨#[]⟩, yr, (-1), 0, nu, dy, 0, 2⟩)) ∧ Below w.heap.size w w' := by
  have HPL := Lib.hid (fun W => rplain_yes ⟨10, cd, ⟨#[]⟩, ⟨#[]⟩, yr, (-1), 0, nu, dy, 0, 2⟩ (pl_aceiling cd yr (-1) dy nu c1 hs (Or.inl rfl) hd hn) W)
  rw [rtm_aceilingN cd yr nu dy c1 hs hd hn]
  simp only [Art.cells] at HPL
  obtain ⟨I, hI⟩ : ∃ I : World → Prop, I = fun W => Below (w.heap.size + 1) (w.alloc (.cells #[.int .i64 10, .string cd, .string ⟨#[]⟩, .string ⟨#[]⟩, .int .i64 yr, .int .i64 (-1), .int .i64 0, .int .i64 nu, .int .i64 dy, .int .i64 0, .int .i64 2] 24)) W := ⟨_, rfl⟩
  have hlater : ∀ A B, I A → Below A.heap.size A B → I B := by rw [hI]; exact fun A B h hb => h.trans (hb.mono (by have := h.size; simp at this; omega))
  have hdrew : ∀ A, I A → I A.drew := by rw [hI]; exact fun A h => h.drew
  have hfin : ∀ A, I A → Below w.heap.size w A := by rw [hI]; exact fun A h => (below_alloc w _).trans (h.mono (Nat.le_succ _))
  have hcells : ∀ A, I A → ∀ j, A.cell? ⟨w.heap.size, j, none⟩ = #[.int .i64 10, .string cd, .string ⟨#[]⟩, .string ⟨#[]⟩, .int .i64 yr, .int .i64 (-1), .int .i64 0, .int .i64 nu, .int .i64 dy, .int .i64 0, .int .i64 2][j]? := by rw [hI]; exact fun A h => boxg_below h
  have hnew : I (w.alloc (.cells #[.int .i64 10, .string cd, .string ⟨#[]⟩, .string ⟨#[]⟩, .int .i64 yr, .int .i64 (-1), .int .i64 0, .int .i64 nu, .int .i64 dy, .int .i64 0, .int .i64 2] 24)) := by rw [hI]; exact Below.refl _ _
  have hlay : ∀ A, I A → Lay A := fun A h => hL.below (hfin A h) (Nat.le_refl _)
  have z_cd : cd.size ≤ 11 := code_small c1
  have z_d_dy : (dayT dy).size ≤ 100000 := dayT_small dy
  have H0 := Lib.hid (fun W (hW : I W) => (rcText_dayT dy (by omega) (by omega) W (hlay W hW)).mono fun e w' h => (show _ ∧ I w' from ⟨h.1, hlater _ _ hW h.2⟩))
  have z_i_nu : (itoaT nu).size ≤ 21 := itoaT_size nu (by omega) (by omega)
  have H1 := Lib.hid (fun W (hW : I W) => (itoa_any nu W (hlay W hW) (by omega) (by omega)).mono fun e w' h => (show _ ∧ I w' from ⟨h.1, hlater _ _ hW h.2⟩))
  have z_s_yr : (numOr yr allT).size ≤ 21 := numOr_size yr _ (by decide) (by omega) (by omega)
  have H2 := Lib.hid (fun W (hW : I W) => (rarspan_any yr W (hlay W hW) (by omega) (by omega)).mono fun e w' h => (show _ ∧ I w' from ⟨h.1, hlater _ _ hW h.2⟩))
  have HWD := Lib.hid (fun W (hW : I W) => (rarWords_any W).mono fun e w' h => (show ∃ g, e = .returned (.slice (some ⟨g, 0, none⟩) 11 11) ∧ I w' ∧ (∀ (j : Nat) x, kindW[j]? = some x → w'.cell? ⟨g, j, none⟩ = some (.string x)) ∧ w'.heap[g]? = some (.cells (cellsS kindW).toArray 9 (0, 0)) from ⟨W.heap.size, h.1, by rw [h.2]; exact hlater _ _ hW (below_alloc _ _), fun j x hx => by rw [h.2, cell_of_row _ _ _ _ _ _ (heap_alloc_new W _)]; simp [cellsS, hx], by rw [h.2]; exact heap_alloc_new W _⟩))
  have HPL2 := Lib.hid (fun W (hW : I W) => (HPL.out W).mono fun e w' h => (show _ ∧ I w' from ⟨h.1, hlater _ _ hW h.2⟩))
  have HSP := Lib.hid (fun W (hW : I W) => (rarspan_any yr W (hlay W hW) (by omega) (by omega)).mono fun e w' h => (show _ ∧ I w' ∧ Below W.heap.size W w' from ⟨h.1, hlater _ _ hW h.2, h.2⟩))
  generalize dayT dy = d_dy at *
  generalize itoaT nu = i_nu at *
  generalize numOr yr allT = s_yr at *
  have HCE := Lib.hid hcells
  have HDR := Lib.hid hdrew
  have HFN := Lib.hid hfin
  clear hI hlater hdrew hfin hcells HPL hL hlay
  have q0 : ¬ 9223372036854775807 < 1 + d_dy.size := by omega
  have q1 : ¬ 9223372036854775807 < 1 + d_dy.size + 1 := by omega
  have q2 : ¬ 9223372036854775807 < 1 + d_dy.size + 1 + i_nu.size := by omega
  have q3 : ¬ 9223372036854775807 < 1 + d_dy.size + 1 + i_nu.size + 1 := by omega
  have q4 : ¬ 9223372036854775807 < 1 + d_dy.size + 1 + i_nu.size + 1 + 7 := by omega
  have q5 : ¬ 9223372036854775807 < 1 + d_dy.size + 1 + i_nu.size + 1 + 7 + 1 := by omega
  have q6 : ¬ 9223372036854775807 < 1 + d_dy.size + 1 + i_nu.size + 1 + 7 + 1 + cd.size := by omega
  have q7 : ¬ 9223372036854775807 < 1 + d_dy.size + 1 + i_nu.size + 1 + 7 + 1 + cd.size + 1 := by omega
  have q8 : ¬ 9223372036854775807 < 1 + d_dy.size + 1 + i_nu.size + 1 + 7 + 1 + cd.size + 1 + s_yr.size := by omega
  have q9 : ¬ 9223372036854775807 < 1 + d_dy.size + 1 + i_nu.size + 1 + 7 + 1 + cd.size + 1 + s_yr.size + 1 := by omega
  have q10 : ¬ 9223372036854775807 < 1 + d_dy.size + 1 + i_nu.size + 1 + 7 + 1 + cd.size + 1 + s_yr.size + 1 + 4 := by omega
  have q11 : ¬ 9223372036854775807 < 5 + (1 + d_dy.size + 1 + i_nu.size + 1 + 7 + 1 + cd.size + 1 + s_yr.size + 1 + 4) := by omega
  go_enter Tryz.func13, Tryz.ntmps13
  go_wp2_with fail
  refine (HPL2.out _ hnew).mono ?_
  rintro e w1 ⟨rfl, hi1⟩
  have HI1 := Lib.hid hi1
  have hu := HCE.out _ hi1
  clear hnew
  go_upto_region 3 with fail
  go_cut [3] (fun s wx => s = .string ⟨#[97, 109, 101, 110, 100]⟩ ∧ I wx)
  case first =>
    go_region_with (go_at_call 40; refine (HWD.out _ (by first | exact HI1.out | exact HDR.out _ HI1.out)).mono ?_; rintro e w2 ⟨gw, rfl, hi2, hcw, _⟩; have cw := hcw 10 _ rfl; have u2 := HCE.out _ hi2; clear hcw)
    all_goals (go_wp2_with fail)
    all_goals go_meet
    all_goals exact ⟨rfl, by first | assumption | exact HDR.out _ (by assumption)⟩
  case rest =>
    obtain ⟨rfl, hi3⟩ := hcut
    have HI3 := Lib.hid hi3
    have hu3 := HCE.out _ hi3
    clear HI1 hi1 hu
    go_upto_region 8 with fail
    have hw3 : IntKind.i64.wrap 4 = 4 := by decide
    refine wp_region_held_drew (S := I) (by kernel_rfl) (HDR.out _ (by assumption)) (fun hH => ?_)
    refine wpAnyH_take (i := 0) (oi := ⟨some 21, _, _, _, _, _⟩) (v := ?_) rfl (by kernel_rfl) (by kernel_rfl) (by kernel_rfl) (fun _ _ _ h => h) (Or.inl ⟨by rfl, ?_⟩) (by assumption) ?_
    rotate_left
    · (intro wz hSw; have hcz := HCE.out wz hSw; (go_simp <;> with_reducible rfl))
    (try simp only [Act.put, List.setIfInBounds_toArray, List.set_cons_zero, List.set_cons_succ])
    refine wpAnyH_take (i := 1) (oi := ⟨some 22, _, _, _, _, _⟩) (v := ?_) rfl (by kernel_rfl) (by kernel_rfl) (by kernel_rfl) (fun _ _ _ h => h) (Or.inl ⟨by rfl, ?_⟩) (by assumption) ?_
    rotate_left
    · (intro wz hSw; have hcz := HCE.out wz hSw; (go_simp <;> with_reducible rfl))
    (try simp only [Act.put, List.setIfInBounds_toArray, List.set_cons_zero, List.set_cons_succ])
    refine wpAnyH_take (i := 2) (oi := ⟨some 23, _, _, _, _, _⟩) (v := ?_) rfl (by kernel_rfl) (by kernel_rfl) (by kernel_rfl) (fun _ _ _ h => h) (Or.inl ⟨by rfl, ?_⟩) (by assumption) ?_
    rotate_left
    · (intro wz hSw; have hcz := HCE.out wz hSw; (go_simp <;> with_reducible rfl))
    (try simp only [Act.put, List.setIfInBounds_toArray, List.set_cons_zero, List.set_cons_succ])
    refine wpAnyH_take (i := 6) (oi := ⟨some 27, _, _, _, _, _⟩) (v := ?_) rfl (by kernel_rfl) (by kernel_rfl) (by kernel_rfl) (fun _ _ _ h => h) (Or.inl ⟨by rfl, ?_⟩) (by assumption) ?_
    rotate_left
    · (intro wz hSw; have hcz := HCE.out wz hSw; (go_simp <;> with_reducible rfl))
    (try simp only [Act.put, List.setIfInBounds_toArray, List.set_cons_zero, List.set_cons_succ])
    refine wpAnyH_take (i := 7) (oi := ⟨some 28, _, _, _, _, _⟩) (v := ?_) rfl (by kernel_rfl) (by kernel_rfl) (by kernel_rfl) (fun _ _ _ h => h) (Or.inl ⟨by rfl, ?_⟩) (by assumption) ?_
    rotate_left
    · (intro wz hSw; have hcz := HCE.out wz hSw; (go_simp <;> with_reducible rfl))
    (try simp only [Act.put, List.setIfInBounds_toArray, List.set_cons_zero, List.set_cons_succ])
    refine wpAnyH_take (i := 12) (oi := ⟨some 33, _, _, _, _, _⟩) (v := ?_) rfl (by kernel_rfl) (by kernel_rfl) (by kernel_rfl) (fun _ _ _ h => h) (Or.inl ⟨by rfl, ?_⟩) (by assumption) ?_
    rotate_left
    · (intro wz hSw; have hcz := HCE.out wz hSw; (go_simp <;> with_reducible rfl))
    (try simp only [Act.put, List.setIfInBounds_toArray, List.set_cons_zero, List.set_cons_succ])
    refine wpAnyH_take (i := 13) (oi := ⟨some 34, _, _, _, _, _⟩) (v := ?_) rfl (by kernel_rfl) (by kernel_rfl) (by kernel_rfl) (fun _ _ _ h => h) (Or.inl ⟨by rfl, ?_⟩) (by assumption) ?_
    rotate_left
    · (intro wz hSw; have hcz := HCE.out wz hSw; (go_simp <;> with_reducible rfl))
    (try simp only [Act.put, List.setIfInBounds_toArray, List.set_cons_zero, List.set_cons_succ])
    refine wpAnyH_take (i := 14) (oi := ⟨some 35, _, _, _, _, _⟩) (v := ?_) rfl (by kernel_rfl) (by kernel_rfl) (by kernel_rfl) (fun _ _ _ h => h) (Or.inl ⟨by rfl, ?_⟩) (by assumption) ?_
    rotate_left
    · (intro wz hSw; have hcz := HCE.out wz hSw; (go_simp <;> with_reducible rfl))
    (try simp only [Act.put, List.setIfInBounds_toArray, List.set_cons_zero, List.set_cons_succ])
    refine wpAnyH_take (i := 19) (oi := ⟨some 40, _, _, _, _, _⟩) (v := ?_) rfl (by kernel_rfl) (by kernel_rfl) (by kernel_rfl) (fun _ _ _ h => h) (Or.inl ⟨by rfl, ?_⟩) (by assumption) ?_
    rotate_left
    · (intro wz hSw; have hcz := HCE.out wz hSw; (go_simp <;> with_reducible rfl))
    (try simp only [Act.put, List.setIfInBounds_toArray, List.set_cons_zero, List.set_cons_succ])
    refine wpAnyH_take (i := 20) (oi := ⟨some 41, _, _, _, _, _⟩) (v := ?_) rfl (by kernel_rfl) (by kernel_rfl) (by kernel_rfl) (fun _ _ _ h => h) (Or.inl ⟨by rfl, ?_⟩) (by assumption) ?_
    rotate_left
    · (intro wz hSw; have hcz := HCE.out wz hSw; (go_simp <;> with_reducible rfl))
    (try simp only [Act.put, List.setIfInBounds_toArray, List.set_cons_zero, List.set_cons_succ])
    refine wpAnyH_take (i := 23) (oi := ⟨some 44, _, _, _, _, _⟩) (v := ?_) rfl (by kernel_rfl) (by kernel_rfl) (by kernel_rfl) (fun _ _ _ h => h) (Or.inl ⟨by rfl, ?_⟩) (by assumption) ?_
    rotate_left
    · (intro wz hSw; have hcz := HCE.out wz hSw; (go_simp <;> with_reducible rfl))
    (try simp only [Act.put, List.setIfInBounds_toArray, List.set_cons_zero, List.set_cons_succ])
    refine wpAnyH_take (i := 24) (oi := ⟨some 45, _, _, _, _, _⟩) (v := ?_) rfl (by kernel_rfl) (by kernel_rfl) (by kernel_rfl) (fun _ _ _ h => h) (Or.inl ⟨by rfl, ?_⟩) (by assumption) ?_
    rotate_left
    · (intro wz hSw; have hcz := HCE.out wz hSw; (go_simp <;> with_reducible rfl))
    (try simp only [Act.put, List.setIfInBounds_toArray, List.set_cons_zero, List.set_cons_succ])
    refine wpAnyH_take (i := 28) (oi := ⟨some 49, _, _, _, _, _⟩) (v := ?_) rfl (by kernel_rfl) (by kernel_rfl) (by kernel_rfl) (fun _ _ _ h => h) (Or.inl ⟨by rfl, ?_⟩) (by assumption) ?_
    rotate_left
    · (intro wz hSw; have hcz := HCE.out wz hSw; (go_simp <;> with_reducible rfl))
    (try simp only [Act.put, List.setIfInBounds_toArray, List.set_cons_zero, List.set_cons_succ])
    refine wpAnyH_ready (rs := [3]) (by kernel_rfl) (by simp) ?_
    refine AllReadyH.cons (o := ⟨some 24, _, _, _, _, _⟩) rfl (fun K hK => ?_) AllReadyH.nil
    go_simp
    refine (H0.out _ hH).mono ?_
    rintro e w5 ⟨rfl, hi5⟩
    refine hK.out _ _ hi5 (fun hH => ?_)
    clear hK K
    (try simp only [Act.put, List.setIfInBounds_toArray, List.set_cons_zero, List.set_cons_succ])
    refine wpAnyH_take (i := 4) (oi := ⟨some 25, _, _, _, _, _⟩) (v := ?_) rfl (by kernel_rfl) (by kernel_rfl) (by kernel_rfl) (fun _ _ _ h => h) (Or.inl ⟨by rfl, ?_⟩) (by assumption) ?_
    rotate_left
    · (intro wz hSw; have hcz := HCE.out wz hSw; (go_simp <;> with_reducible rfl))
    (try simp only [Act.put, List.setIfInBounds_toArray, List.set_cons_zero, List.set_cons_succ])
    refine wpAnyH_take (i := 5) (oi := ⟨some 26, _, _, _, _, _⟩) (v := ?_) rfl (by kernel_rfl) (by kernel_rfl) (by kernel_rfl) (fun _ _ _ h => h) (Or.inl ⟨by rfl, ?_⟩) (by assumption) ?_
    rotate_left
    · (intro wz hSw; have hcz := HCE.out wz hSw; (go_simp <;> with_reducible rfl))
    (try simp only [Act.put, List.setIfInBounds_toArray, List.set_cons_zero, List.set_cons_succ])
    refine wpAnyH_ready (rs := [8]) (by kernel_rfl) (by simp) ?_
    refine AllReadyH.cons (o := ⟨some 29, _, _, _, _, _⟩) rfl (fun K hK => ?_) AllReadyH.nil
    go_simp
    refine (H1.out _ hi5).mono ?_
    rintro e w6 ⟨rfl, hi6⟩
    refine hK.out _ _ hi6 (fun hH => ?_)
    clear hK K
    (try simp only [Act.put, List.setIfInBounds_toArray, List.set_cons_zero, List.set_cons_succ])
    refine wpAnyH_take (i := 9) (oi := ⟨some 30, _, _, _, _, _⟩) (v := ?_) rfl (by kernel_rfl) (by kernel_rfl) (by kernel_rfl) (fun _ _ _ h => h) (Or.inl ⟨by rfl, ?_⟩) (by assumption) ?_
    rotate_left
    · (intro wz hSw; have hcz := HCE.out wz hSw; (go_simp <;> with_reducible rfl))
    (try simp only [Act.put, List.setIfInBounds_toArray, List.set_cons_zero, List.set_cons_succ])
    refine wpAnyH_take (i := 10) (oi := ⟨some 31, _, _, _, _, _⟩) (v := ?_) rfl (by kernel_rfl) (by kernel_rfl) (by kernel_rfl) (fun _ _ _ h => h) (Or.inl ⟨by rfl, ?_⟩) (by assumption) ?_
    rotate_left
    · (intro wz hSw; have hcz := HCE.out wz hSw; (go_simp <;> with_reducible rfl))
    (try simp only [Act.put, List.setIfInBounds_toArray, List.set_cons_zero, List.set_cons_succ])
    refine wpAnyH_ready (rs := [11]) (by kernel_rfl) (by simp) ?_
    refine AllReadyH.cons (o := ⟨some 32, _, _, _, _, _⟩) rfl (fun K hK => ?_) AllReadyH.nil
    go_simp
    refine (HWD.out _ hi6).mono ?_
    rintro e w7 ⟨gw, rfl, hi7, hcw, hgw⟩
    refine hK.out _ _ hi7 (fun hH => ?_)
    clear hK K
    (try simp only [Act.put, List.setIfInBounds_toArray, List.set_cons_zero, List.set_cons_succ])
    refine wpAnyH_more (S' := fun W => I W ∧ W.cell? ⟨gw, 4, none⟩ = some (.string ⟨#[99, 101, 105, 108, 105, 110, 103]⟩)) (fun _ h => h.1) _ _ _ _ ?_
    have hH2 : I w7 ∧ w7.cell? ⟨gw, 4, none⟩ = some (.string ⟨#[99, 101, 105, 108, 105, 110, 103]⟩) := ⟨hi7, hcw 4 _ rfl⟩
    clear hH hcw
    refine wpAnyH_take (i := 15) (oi := ⟨some 36, _, _, _, _, _⟩) (v := ?_) rfl (by kernel_rfl) (by kernel_rfl) (by kernel_rfl) (fun _ _ _ h => h) (Or.inl ⟨by rfl, ?_⟩) (by assumption) ?_
    rotate_left
    · (intro wz hSw; have hcz := HCE.out wz hSw.1; have hwz := hSw.2; (go_simp <;> with_reducible rfl))
    (try simp only [Act.put, List.setIfInBounds_toArray, List.set_cons_zero, List.set_cons_succ])
    refine wpAnyH_take (i := 16) (oi := ⟨some 37, _, _, _, _, _⟩) (v := ?_) rfl (by kernel_rfl) (by kernel_rfl) (by kernel_rfl) (fun _ _ _ h => h) (Or.inl ⟨by rfl, ?_⟩) (by assumption) ?_
    rotate_left
    · (intro wz hSw; have hcz := HCE.out wz hSw.1; have hwz := hSw.2; (go_simp <;> with_reducible rfl))
    (try simp only [Act.put, List.setIfInBounds_toArray, List.set_cons_zero, List.set_cons_succ])
    refine wpAnyH_take (i := 17) (oi := ⟨some 38, _, _, _, _, _⟩) (v := ?_) rfl (by kernel_rfl) (by kernel_rfl) (by kernel_rfl) (fun _ _ _ h => h) (Or.inl ⟨by rfl, ?_⟩) (by assumption) ?_
    rotate_left
    · (intro wz hSw; have hcz := HCE.out wz hSw.1; have hwz := hSw.2; (go_simp <;> with_reducible rfl))
    (try simp only [Act.put, List.setIfInBounds_toArray, List.set_cons_zero, List.set_cons_succ])
    refine wpAnyH_take (i := 18) (oi := ⟨some 39, _, _, _, _, _⟩) (v := ?_) rfl (by kernel_rfl) (by kernel_rfl) (by kernel_rfl) (fun _ _ _ h => h) (Or.inl ⟨by rfl, ?_⟩) (by assumption) ?_
    rotate_left
    · (intro wz hSw; have hcz := HCE.out wz hSw.1; have hwz := hSw.2; (go_simp <;> with_reducible rfl))
    (try simp only [Act.put, List.setIfInBounds_toArray, List.set_cons_zero, List.set_cons_succ])
    refine wpAnyH_take (i := 21) (oi := ⟨some 42, _, _, _, _, _⟩) (v := ?_) rfl (by kernel_rfl) (by kernel_rfl) (by kernel_rfl) (fun _ _ _ h => h) (Or.inl ⟨by rfl, ?_⟩) (by assumption) ?_
    rotate_left
    · (intro wz hSw; have hcz := HCE.out wz hSw.1; have hwz := hSw.2; (go_simp <;> with_reducible rfl))
    (try simp only [Act.put, List.setIfInBounds_toArray, List.set_cons_zero, List.set_cons_succ])
    refine wpAnyH_take (i := 22) (oi := ⟨some 43, _, _, _, _, _⟩) (v := ?_) rfl (by kernel_rfl) (by kernel_rfl) (by kernel_rfl) (fun _ _ _ h => h) (Or.inl ⟨by rfl, ?_⟩) (by assumption) ?_
    rotate_left
    · (intro wz hSw; have hcz := HCE.out wz hSw.1; have hwz := hSw.2; (go_simp <;> with_reducible rfl))
    (try simp only [Act.put, List.setIfInBounds_toArray, List.set_cons_zero, List.set_cons_succ])
    refine wpAnyH_ready (rs := [25]) (by kernel_rfl) (by simp) ?_
    refine AllReadyH.cons (o := ⟨some 46, _, _, _, _, _⟩) rfl (fun K hK => ?_) AllReadyH.nil
    go_simp
    refine (HSP.out _ hi7).mono ?_
    rintro e w8 ⟨rfl, hi8, hbsp⟩
    have hgw2 := (hbsp.block gw (Array.getElem?_eq_some_iff.1 hgw).1).trans hgw
    have cw2 : w8.cell? ⟨gw, 4, none⟩ = some (.string ⟨#[99, 101, 105, 108, 105, 110, 103]⟩) := (by rw [cell_of_row _ _ _ _ _ _ hgw2]; rfl)
    refine hK.out _ _ ⟨hi8, cw2⟩ (fun hH => ?_)
    clear hK K
    (try simp only [Act.put, List.setIfInBounds_toArray, List.set_cons_zero, List.set_cons_succ])
    refine wpAnyH_take (i := 26) (oi := ⟨some 47, _, _, _, _, _⟩) (v := ?_) rfl (by kernel_rfl) (by kernel_rfl) (by kernel_rfl) (fun _ _ _ h => h) (Or.inl ⟨by rfl, ?_⟩) (by assumption) ?_
    rotate_left
    · (intro wz hSw; have hcz := HCE.out wz hSw.1; have hwz := hSw.2; (go_simp <;> with_reducible rfl))
    (try simp only [Act.put, List.setIfInBounds_toArray, List.set_cons_zero, List.set_cons_succ])
    refine wpAnyH_take (i := 27) (oi := ⟨some 48, _, _, _, _, _⟩) (v := ?_) rfl (by kernel_rfl) (by kernel_rfl) (by kernel_rfl) (fun _ _ _ h => h) (Or.inl ⟨by rfl, ?_⟩) (by assumption) ?_
    rotate_left
    · (intro wz hSw; have hcz := HCE.out wz hSw.1; have hwz := hSw.2; (go_simp <;> with_reducible rfl))
    (try simp only [Act.put, List.setIfInBounds_toArray, List.set_cons_zero, List.set_cons_succ])
    refine wpAnyH_take (i := 29) (oi := ⟨some 50, _, _, _, _, _⟩) (v := ?_) rfl (by kernel_rfl) (by kernel_rfl) (by kernel_rfl) (fun _ _ _ h => h) (Or.inl ⟨by rfl, ?_⟩) (by assumption) ?_
    rotate_left
    · (intro wz hSw; have hcz := HCE.out wz hSw.1; have hwz := hSw.2; (go_simp <;> with_reducible rfl))
    (try simp only [Act.put, List.setIfInBounds_toArray, List.set_cons_zero, List.set_cons_succ])
    refine wpAnyH_take (i := 30) (oi := ⟨some 51, _, _, _, _, _⟩) (v := ?_) rfl (by kernel_rfl) (by kernel_rfl) (by kernel_rfl) (fun _ _ _ h => h) (Or.inl ⟨by rfl, ?_⟩) (by assumption) ?_
    rotate_left
    · (intro wz hSw; have hcz := HCE.out wz hSw.1; have hwz := hSw.2; (go_simp <;> with_reducible rfl))
    (try simp only [Act.put, List.setIfInBounds_toArray, List.set_cons_zero, List.set_cons_succ])
    refine wpAnyH_take (i := 31) (oi := ⟨some 3, _, _, _, _, _⟩) (v := ?_) rfl (by kernel_rfl) (by kernel_rfl) (by kernel_rfl) (fun _ _ _ h => h) (Or.inl ⟨by rfl, ?_⟩) (by assumption) ?_
    rotate_left
    · (intro wz hSw; have hcz := HCE.out wz hSw.1; have hwz := hSw.2; (go_simp <;> with_reducible rfl))
    (try simp only [Act.put, List.setIfInBounds_toArray, List.set_cons_zero, List.set_cons_succ])
    refine wpAnyH_done (by kernel_rfl) ?_ _
    go_wp2_with fail
    go_ret
    exact ⟨by first | rfl | (simp only [ByteArray.append_assoc]; rfl), HFN.out _ (by assumption)⟩

set_option maxRecDepth 100000 in
set_option maxHeartbeats 8000000 in
theorem rtx_afloor (cd : ByteArray) (yr : Int) (am : Int) (nu : Int) (dy : Int) (c1 : isCodeB cd = true) (hs : yr = -1 ∨ 0 ≤ yr ∧ yr ≤ 99) (ha : 0 ≤ am ∧ am ≤ 1000000000000) (hd : 0 ≤ dy ∧ dy ≤ 35990) (hn : 1 ≤ nu ∧ nu ≤ 1000000) (w : World) (hL : Lay w) :
    Calls Tryz.prog 13 #[.agg #[.int .i64 10, .string cd, .string ⟨#[]⟩, .string ⟨#[]⟩, .int .i64 yr, .int .i64 am, .int .i64 0, .int .i64 nu, .int .i64 dy, .int .i64 0, .int .i64 3]] w fun e w' => e = .returned (.string (textA ⟨10, cd, ⟨#[]⟩, ⟨#[]⟩, yr, am, 0, nu, dy, 0, 3⟩)) ∧ Below w.heap.size w w' := by
  have HPL := Lib.hid (fun W => rplain_yes ⟨10, cd, ⟨#[]⟩, ⟨#[]⟩, yr, am, 0, nu, dy, 0, 3⟩ (pl_afloor cd yr am dy nu c1 hs ha hd hn) W)
  rw [rtm_afloor cd yr am nu dy c1 hs ha hd hn]
  simp only [Art.cells] at HPL
  obtain ⟨I, hI⟩ : ∃ I : World → Prop, I = fun W => Below (w.heap.size + 1) (w.alloc (.cells #[.int .i64 10, .string cd, .string ⟨#[]⟩, .string ⟨#[]⟩, .int .i64 yr, .int .i64 am, .int .i64 0, .int .i64 nu, .int .i64 dy, .int .i64 0, .int .i64 3] 24)) W := ⟨_, rfl⟩
  have hlater : ∀ A B, I A → Below A.heap.size A B → I B := by rw [hI]; exact fun A B h hb => h.trans (hb.mono (by have := h.size; simp at this; omega))
  have hdrew : ∀ A, I A → I A.drew := by rw [hI]; exact fun A h => h.drew
  have hfin : ∀ A, I A → Below w.heap.size w A := by rw [hI]; exact fun A h => (below_alloc w _).trans (h.mono (Nat.le_succ _))
  have hcells : ∀ A, I A → ∀ j, A.cell? ⟨w.heap.size, j, none⟩ = #[.int .i64 10, .string cd, .string ⟨#[]⟩, .string ⟨#[]⟩, .int .i64 yr, .int .i64 am, .int .i64 0, .int .i64 nu, .int .i64 dy, .int .i64 0, .int .i64 3][j]? := by rw [hI]; exact fun A h => boxg_below h
  have hnew : I (w.alloc (.cells #[.int .i64 10, .string cd, .string ⟨#[]⟩, .string ⟨#[]⟩, .int .i64 yr, .int .i64 am, .int .i64 0, .int .i64 nu, .int .i64 dy, .int .i64 0, .int .i64 3] 24)) := by rw [hI]; exact Below.refl _ _
  have hlay : ∀ A, I A → Lay A := fun A h => hL.below (hfin A h) (Nat.le_refl _)
  have z_cd : cd.size ≤ 11 := code_small c1
  have z_d_dy : (dayT dy).size ≤ 100000 := dayT_small dy
  have H0 := Lib.hid (fun W (hW : I W) => (rcText_dayT dy (by omega) (by omega) W (hlay W hW)).mono fun e w' h => (show _ ∧ I w' from ⟨h.1, hlater _ _ hW h.2⟩))
  have z_i_nu : (itoaT nu).size ≤ 21 := itoaT_size nu (by omega) (by omega)
  have H1 := Lib.hid (fun W (hW : I W) => (itoa_any nu W (hlay W hW) (by omega) (by omega)).mono fun e w' h => (show _ ∧ I w' from ⟨h.1, hlater _ _ hW h.2⟩))
  have z_s_yr : (numOr yr allT).size ≤ 21 := numOr_size yr _ (by decide) (by omega) (by omega)
  have H2 := Lib.hid (fun W (hW : I W) => (rarspan_any yr W (hlay W hW) (by omega) (by omega)).mono fun e w' h => (show _ ∧ I w' from ⟨h.1, hlater _ _ hW h.2⟩))
  have z_i_am : (itoaT am).size ≤ 21 := itoaT_size am (by omega) (by omega)
  have H3 := Lib.hid (fun W (hW : I W) => (itoa_any am W (hlay W hW) (by omega) (by omega)).mono fun e w' h => (show _ ∧ I w' from ⟨h.1, hlater _ _ hW h.2⟩))
  have HWD := Lib.hid (fun W (hW : I W) => (rarWords_any W).mono fun e w' h => (show ∃ g, e = .returned (.slice (some ⟨g, 0, none⟩) 11 11) ∧ I w' ∧ (∀ (j : Nat) x, kindW[j]? = some x → w'.cell? ⟨g, j, none⟩ = some (.string x)) ∧ w'.heap[g]? = some (.cells (cellsS kindW).toArray 9 (0, 0)) from ⟨W.heap.size, h.1, by rw [h.2]; exact hlater _ _ hW (below_alloc _ _), fun j x hx => by rw [h.2, cell_of_row _ _ _ _ _ _ (heap_alloc_new W _)]; simp [cellsS, hx], by rw [h.2]; exact heap_alloc_new W _⟩))
  have HPL2 := Lib.hid (fun W (hW : I W) => (HPL.out W).mono fun e w' h => (show _ ∧ I w' from ⟨h.1, hlater _ _ hW h.2⟩))
  have HSP := Lib.hid (fun W (hW : I W) => (rarspan_any yr W (hlay W hW) (by omega) (by omega)).mono fun e w' h => (show _ ∧ I w' ∧ Below W.heap.size W w' from ⟨h.1, hlater _ _ hW h.2, h.2⟩))
  generalize dayT dy = d_dy at *
  generalize itoaT nu = i_nu at *
  generalize numOr yr allT = s_yr at *
  generalize itoaT am = i_am at *
  have HCE := Lib.hid hcells
  have HDR := Lib.hid hdrew
  have HFN := Lib.hid hfin
  clear hI hlater hdrew hfin hcells HPL hL hlay
  have q0 : ¬ 9223372036854775807 < 1 + d_dy.size := by omega
  have q1 : ¬ 9223372036854775807 < 1 + d_dy.size + 1 := by omega
  have q2 : ¬ 9223372036854775807 < 1 + d_dy.size + 1 + i_nu.size := by omega
  have q3 : ¬ 9223372036854775807 < 1 + d_dy.size + 1 + i_nu.size + 1 := by omega
  have q4 : ¬ 9223372036854775807 < 1 + d_dy.size + 1 + i_nu.size + 1 + 5 := by omega
  have q5 : ¬ 9223372036854775807 < 1 + d_dy.size + 1 + i_nu.size + 1 + 5 + 1 := by omega
  have q6 : ¬ 9223372036854775807 < 1 + d_dy.size + 1 + i_nu.size + 1 + 5 + 1 + cd.size := by omega
  have q7 : ¬ 9223372036854775807 < 1 + d_dy.size + 1 + i_nu.size + 1 + 5 + 1 + cd.size + 1 := by omega
  have q8 : ¬ 9223372036854775807 < 1 + d_dy.size + 1 + i_nu.size + 1 + 5 + 1 + cd.size + 1 + s_yr.size := by omega
  have q9 : ¬ 9223372036854775807 < 1 + d_dy.size + 1 + i_nu.size + 1 + 5 + 1 + cd.size + 1 + s_yr.size + 1 := by omega
  have q10 : ¬ 9223372036854775807 < 1 + d_dy.size + 1 + i_nu.size + 1 + 5 + 1 + cd.size + 1 + s_yr.size + 1 + i_am.size := by omega
  have q11 : ¬ 9223372036854775807 < 5 + (1 + d_dy.size + 1 + i_nu.size + 1 + 5 + 1 + cd.size + 1 + s_yr.size + 1 + i_am.size) := by omega
  go_enter Tryz.func13, Tryz.ntmps13
  go_wp2_with fail
  refine (HPL2.out _ hnew).mono ?_
  rintro e w1 ⟨rfl, hi1⟩
  have HI1 := Lib.hid hi1
  have hu := HCE.out _ hi1
  clear hnew
  go_upto_region 3 with fail
  go_cut [3] (fun s wx => s = .string ⟨#[97, 109, 101, 110, 100]⟩ ∧ I wx)
  case first =>
    go_region_with (go_at_call 40; refine (HWD.out _ (by first | exact HI1.out | exact HDR.out _ HI1.out)).mono ?_; rintro e w2 ⟨gw, rfl, hi2, hcw, _⟩; have cw := hcw 10 _ rfl; have u2 := HCE.out _ hi2; clear hcw)
    all_goals (go_wp2_with fail)
    all_goals go_meet
    all_goals exact ⟨rfl, by first | assumption | exact HDR.out _ (by assumption)⟩
  case rest =>
    obtain ⟨rfl, hi3⟩ := hcut
    have HI3 := Lib.hid hi3
    have hu3 := HCE.out _ hi3
    clear HI1 hi1 hu
    have ham : 0 ≤ am := ha.1
    go_upto_region 8 with (go_at_call 41; (with_reducible refine (H3.out _ hi3).mono ?_); rintro e w4 ⟨rfl, hi4⟩; have hu4 := HCE.out _ hi4)
    have hw3 : IntKind.i64.wrap 5 = 5 := by decide
    refine wp_region_held_drew (S := I) (by kernel_rfl) (HDR.out _ (by assumption)) (fun hH => ?_)
    refine wpAnyH_take (i := 0) (oi := ⟨some 21, _, _, _, _, _⟩) (v := ?_) rfl (by kernel_rfl) (by kernel_rfl) (by kernel_rfl) (fun _ _ _ h => h) (Or.inl ⟨by rfl, ?_⟩) (by assumption) ?_
    rotate_left
    · (intro wz hSw; have hcz := HCE.out wz hSw; (go_simp <;> with_reducible rfl))
    (try simp only [Act.put, List.setIfInBounds_toArray, List.set_cons_zero, List.set_cons_succ])
    refine wpAnyH_take (i := 1) (oi := ⟨some 22, _, _, _, _, _⟩) (v := ?_) rfl (by kernel_rfl) (by kernel_rfl) (by kernel_rfl) (fun _ _ _ h => h) (Or.inl ⟨by rfl, ?_⟩) (by assumption) ?_
    rotate_left
    · (intro wz hSw; have hcz := HCE.out wz hSw; (go_simp <;> with_reducible rfl))
    (try simp only [Act.put, List.setIfInBounds_toArray, List.set_cons_zero, List.set_cons_succ])
    refine wpAnyH_take (i := 2) (oi := ⟨some 23, _, _, _, _, _⟩) (v := ?_) rfl (by kernel_rfl) (by kernel_rfl) (by kernel_rfl) (fun _ _ _ h => h) (Or.inl ⟨by rfl, ?_⟩) (by assumption) ?_
    rotate_left
    · (intro wz hSw; have hcz := HCE.out wz hSw; (go_simp <;> with_reducible rfl))
    (try simp only [Act.put, List.setIfInBounds_toArray, List.set_cons_zero, List.set_cons_succ])
    refine wpAnyH_take (i := 6) (oi := ⟨some 27, _, _, _, _, _⟩) (v := ?_) rfl (by kernel_rfl) (by kernel_rfl) (by kernel_rfl) (fun _ _ _ h => h) (Or.inl ⟨by rfl, ?_⟩) (by assumption) ?_
    rotate_left
    · (intro wz hSw; have hcz := HCE.out wz hSw; (go_simp <;> with_reducible rfl))
    (try simp only [Act.put, List.setIfInBounds_toArray, List.set_cons_zero, List.set_cons_succ])
    refine wpAnyH_take (i := 7) (oi := ⟨some 28, _, _, _, _, _⟩) (v := ?_) rfl (by kernel_rfl) (by kernel_rfl) (by kernel_rfl) (fun _ _ _ h => h) (Or.inl ⟨by rfl, ?_⟩) (by assumption) ?_
    rotate_left
    · (intro wz hSw; have hcz := HCE.out wz hSw; (go_simp <;> with_reducible rfl))
    (try simp only [Act.put, List.setIfInBounds_toArray, List.set_cons_zero, List.set_cons_succ])
    refine wpAnyH_take (i := 12) (oi := ⟨some 33, _, _, _, _, _⟩) (v := ?_) rfl (by kernel_rfl) (by kernel_rfl) (by kernel_rfl) (fun _ _ _ h => h) (Or.inl ⟨by rfl, ?_⟩) (by assumption) ?_
    rotate_left
    · (intro wz hSw; have hcz := HCE.out wz hSw; (go_simp <;> with_reducible rfl))
    (try simp only [Act.put, List.setIfInBounds_toArray, List.set_cons_zero, List.set_cons_succ])
    refine wpAnyH_take (i := 13) (oi := ⟨some 34, _, _, _, _, _⟩) (v := ?_) rfl (by kernel_rfl) (by kernel_rfl) (by kernel_rfl) (fun _ _ _ h => h) (Or.inl ⟨by rfl, ?_⟩) (by assumption) ?_
    rotate_left
    · (intro wz hSw; have hcz := HCE.out wz hSw; (go_simp <;> with_reducible rfl))
    (try simp only [Act.put, List.setIfInBounds_toArray, List.set_cons_zero, List.set_cons_succ])
    refine wpAnyH_take (i := 14) (oi := ⟨some 35, _, _, _, _, _⟩) (v := ?_) rfl (by kernel_rfl) (by kernel_rfl) (by kernel_rfl) (fun _ _ _ h => h) (Or.inl ⟨by rfl, ?_⟩) (by assumption) ?_
    rotate_left
    · (intro wz hSw; have hcz := HCE.out wz hSw; (go_simp <;> with_reducible rfl))
    (try simp only [Act.put, List.setIfInBounds_toArray, List.set_cons_zero, List.set_cons_succ])
    refine wpAnyH_take (i := 19) (oi := ⟨some 40, _, _, _, _, _⟩) (v := ?_) rfl (by kernel_rfl) (by kernel_rfl) (by kernel_rfl) (fun _ _ _ h => h) (Or.inl ⟨by rfl, ?_⟩) (by assumption) ?_
    rotate_left
    · (intro wz hSw; have hcz := HCE.out wz hSw; (go_simp <;> with_reducible rfl))
    (try simp only [Act.put, List.setIfInBounds_toArray, List.set_cons_zero, List.set_cons_succ])
    refine wpAnyH_take (i := 20) (oi := ⟨some 41, _, _, _, _, _⟩) (v := ?_) rfl (by kernel_rfl) (by kernel_rfl) (by kernel_rfl) (fun _ _ _ h => h) (Or.inl ⟨by rfl, ?_⟩) (by assumption) ?_
    rotate_left
    · (intro wz hSw; have hcz := HCE.out wz hSw; (go_simp <;> with_reducible rfl))
    (try simp only [Act.put, List.setIfInBounds_toArray, List.set_cons_zero, List.set_cons_succ])
    refine wpAnyH_take (i := 23) (oi := ⟨some 44, _, _, _, _, _⟩) (v := ?_) rfl (by kernel_rfl) (by kernel_rfl) (by kernel_rfl) (fun _ _ _ h => h) (Or.inl ⟨by rfl, ?_⟩) (by assumption) ?_
    rotate_left
    · (intro wz hSw; have hcz := HCE.out wz hSw; (go_simp <;> with_reducible rfl))
    (try simp only [Act.put, List.setIfInBounds_toArray, List.set_cons_zero, List.set_cons_succ])
    refine wpAnyH_take (i := 24) (oi := ⟨some 45, _, _, _, _, _⟩) (v := ?_) rfl (by kernel_rfl) (by kernel_rfl) (by kernel_rfl) (fun _ _ _ h => h) (Or.inl ⟨by rfl, ?_⟩) (by assumption) ?_
    rotate_left
    · (intro wz hSw; have hcz := HCE.out wz hSw; (go_simp <;> with_reducible rfl))
    (try simp only [Act.put, List.setIfInBounds_toArray, List.set_cons_zero, List.set_cons_succ])
    refine wpAnyH_take (i := 28) (oi := ⟨some 49, _, _, _, _, _⟩) (v := ?_) rfl (by kernel_rfl) (by kernel_rfl) (by kernel_rfl) (fun _ _ _ h => h) (Or.inl ⟨by rfl, ?_⟩) (by assumption) ?_
    rotate_left
    · (intro wz hSw; have hcz := HCE.out wz hSw; (go_simp <;> with_reducible rfl))
    (try simp only [Act.put, List.setIfInBounds_toArray, List.set_cons_zero, List.set_cons_succ])
    refine wpAnyH_ready (rs := [3]) (by kernel_rfl) (by simp) ?_
    refine AllReadyH.cons (o := ⟨some 24, _, _, _, _, _⟩) rfl (fun K hK => ?_) AllReadyH.nil
    go_simp
    refine (H0.out _ hH).mono ?_
    rintro e w5 ⟨rfl, hi5⟩
    refine hK.out _ _ hi5 (fun hH => ?_)
    clear hK K
    (try simp only [Act.put, List.setIfInBounds_toArray, List.set_cons_zero, List.set_cons_succ])
    refine wpAnyH_take (i := 4) (oi := ⟨some 25, _, _, _, _, _⟩) (v := ?_) rfl (by kernel_rfl) (by kernel_rfl) (by kernel_rfl) (fun _ _ _ h => h) (Or.inl ⟨by rfl, ?_⟩) (by assumption) ?_
    rotate_left
    · (intro wz hSw; have hcz := HCE.out wz hSw; (go_simp <;> with_reducible rfl))
    (try simp only [Act.put, List.setIfInBounds_toArray, List.set_cons_zero, List.set_cons_succ])
    refine wpAnyH_take (i := 5) (oi := ⟨some 26, _, _, _, _, _⟩) (v := ?_) rfl (by kernel_rfl) (by kernel_rfl) (by kernel_rfl) (fun _ _ _ h => h) (Or.inl ⟨by rfl, ?_⟩) (by assumption) ?_
    rotate_left
    · (intro wz hSw; have hcz := HCE.out wz hSw; (go_simp <;> with_reducible rfl))
    (try simp only [Act.put, List.setIfInBounds_toArray, List.set_cons_zero, List.set_cons_succ])
    refine wpAnyH_ready (rs := [8]) (by kernel_rfl) (by simp) ?_
    refine AllReadyH.cons (o := ⟨some 29, _, _, _, _, _⟩) rfl (fun K hK => ?_) AllReadyH.nil
    go_simp
    refine (H1.out _ hi5).mono ?_
    rintro e w6 ⟨rfl, hi6⟩
    refine hK.out _ _ hi6 (fun hH => ?_)
    clear hK K
    (try simp only [Act.put, List.setIfInBounds_toArray, List.set_cons_zero, List.set_cons_succ])
    refine wpAnyH_take (i := 9) (oi := ⟨some 30, _, _, _, _, _⟩) (v := ?_) rfl (by kernel_rfl) (by kernel_rfl) (by kernel_rfl) (fun _ _ _ h => h) (Or.inl ⟨by rfl, ?_⟩) (by assumption) ?_
    rotate_left
    · (intro wz hSw; have hcz := HCE.out wz hSw; (go_simp <;> with_reducible rfl))
    (try simp only [Act.put, List.setIfInBounds_toArray, List.set_cons_zero, List.set_cons_succ])
    refine wpAnyH_take (i := 10) (oi := ⟨some 31, _, _, _, _, _⟩) (v := ?_) rfl (by kernel_rfl) (by kernel_rfl) (by kernel_rfl) (fun _ _ _ h => h) (Or.inl ⟨by rfl, ?_⟩) (by assumption) ?_
    rotate_left
    · (intro wz hSw; have hcz := HCE.out wz hSw; (go_simp <;> with_reducible rfl))
    (try simp only [Act.put, List.setIfInBounds_toArray, List.set_cons_zero, List.set_cons_succ])
    refine wpAnyH_ready (rs := [11]) (by kernel_rfl) (by simp) ?_
    refine AllReadyH.cons (o := ⟨some 32, _, _, _, _, _⟩) rfl (fun K hK => ?_) AllReadyH.nil
    go_simp
    refine (HWD.out _ hi6).mono ?_
    rintro e w7 ⟨gw, rfl, hi7, hcw, hgw⟩
    refine hK.out _ _ hi7 (fun hH => ?_)
    clear hK K
    (try simp only [Act.put, List.setIfInBounds_toArray, List.set_cons_zero, List.set_cons_succ])
    refine wpAnyH_more (S' := fun W => I W ∧ W.cell? ⟨gw, 5, none⟩ = some (.string ⟨#[102, 108, 111, 111, 114]⟩)) (fun _ h => h.1) _ _ _ _ ?_
    have hH2 : I w7 ∧ w7.cell? ⟨gw, 5, none⟩ = some (.string ⟨#[102, 108, 111, 111, 114]⟩) := ⟨hi7, hcw 5 _ rfl⟩
    clear hH hcw
    refine wpAnyH_take (i := 15) (oi := ⟨some 36, _, _, _, _, _⟩) (v := ?_) rfl (by kernel_rfl) (by kernel_rfl) (by kernel_rfl) (fun _ _ _ h => h) (Or.inl ⟨by rfl, ?_⟩) (by assumption) ?_
    rotate_left
    · (intro wz hSw; have hcz := HCE.out wz hSw.1; have hwz := hSw.2; (go_simp <;> with_reducible rfl))
    (try simp only [Act.put, List.setIfInBounds_toArray, List.set_cons_zero, List.set_cons_succ])
    refine wpAnyH_take (i := 16) (oi := ⟨some 37, _, _, _, _, _⟩) (v := ?_) rfl (by kernel_rfl) (by kernel_rfl) (by kernel_rfl) (fun _ _ _ h => h) (Or.inl ⟨by rfl, ?_⟩) (by assumption) ?_
    rotate_left
    · (intro wz hSw; have hcz := HCE.out wz hSw.1; have hwz := hSw.2; (go_simp <;> with_reducible rfl))
    (try simp only [Act.put, List.setIfInBounds_toArray, List.set_cons_zero, List.set_cons_succ])
    refine wpAnyH_take (i := 17) (oi := ⟨some 38, _, _, _, _, _⟩) (v := ?_) rfl (by kernel_rfl) (by kernel_rfl) (by kernel_rfl) (fun _ _ _ h => h) (Or.inl ⟨by rfl, ?_⟩) (by assumption) ?_
    rotate_left
    · (intro wz hSw; have hcz := HCE.out wz hSw.1; have hwz := hSw.2; (go_simp <;> with_reducible rfl))
    (try simp only [Act.put, List.setIfInBounds_toArray, List.set_cons_zero, List.set_cons_succ])
    refine wpAnyH_take (i := 18) (oi := ⟨some 39, _, _, _, _, _⟩) (v := ?_) rfl (by kernel_rfl) (by kernel_rfl) (by kernel_rfl) (fun _ _ _ h => h) (Or.inl ⟨by rfl, ?_⟩) (by assumption) ?_
    rotate_left
    · (intro wz hSw; have hcz := HCE.out wz hSw.1; have hwz := hSw.2; (go_simp <;> with_reducible rfl))
    (try simp only [Act.put, List.setIfInBounds_toArray, List.set_cons_zero, List.set_cons_succ])
    refine wpAnyH_take (i := 21) (oi := ⟨some 42, _, _, _, _, _⟩) (v := ?_) rfl (by kernel_rfl) (by kernel_rfl) (by kernel_rfl) (fun _ _ _ h => h) (Or.inl ⟨by rfl, ?_⟩) (by assumption) ?_
    rotate_left
    · (intro wz hSw; have hcz := HCE.out wz hSw.1; have hwz := hSw.2; (go_simp <;> with_reducible rfl))
    (try simp only [Act.put, List.setIfInBounds_toArray, List.set_cons_zero, List.set_cons_succ])
    refine wpAnyH_take (i := 22) (oi := ⟨some 43, _, _, _, _, _⟩) (v := ?_) rfl (by kernel_rfl) (by kernel_rfl) (by kernel_rfl) (fun _ _ _ h => h) (Or.inl ⟨by rfl, ?_⟩) (by assumption) ?_
    rotate_left
    · (intro wz hSw; have hcz := HCE.out wz hSw.1; have hwz := hSw.2; (go_simp <;> with_reducible rfl))
    (try simp only [Act.put, List.setIfInBounds_toArray, List.set_cons_zero, List.set_cons_succ])
    refine wpAnyH_ready (rs := [25]) (by kernel_rfl) (by simp) ?_
    refine AllReadyH.cons (o := ⟨some 46, _, _, _, _, _⟩) rfl (fun K hK => ?_) AllReadyH.nil
    go_simp
    refine (HSP.out _ hi7).mono ?_
    rintro e w8 ⟨rfl, hi8, hbsp⟩
    have hgw2 := (hbsp.block gw (Array.getElem?_eq_some_iff.1 hgw).1).trans hgw
    have cw2 : w8.cell? ⟨gw, 5, none⟩ = some (.string ⟨#[102, 108, 111, 111, 114]⟩) := (by rw [cell_of_row _ _ _ _ _ _ hgw2]; rfl)
    refine hK.out _ _ ⟨hi8, cw2⟩ (fun hH => ?_)
    clear hK K
    (try simp only [Act.put, List.setIfInBounds_toArray, List.set_cons_zero, List.set_cons_succ])
    refine wpAnyH_take (i := 26) (oi := ⟨some 47, _, _, _, _, _⟩) (v := ?_) rfl (by kernel_rfl) (by kernel_rfl) (by kernel_rfl) (fun _ _ _ h => h) (Or.inl ⟨by rfl, ?_⟩) (by assumption) ?_
    rotate_left
    · (intro wz hSw; have hcz := HCE.out wz hSw.1; have hwz := hSw.2; (go_simp <;> with_reducible rfl))
    (try simp only [Act.put, List.setIfInBounds_toArray, List.set_cons_zero, List.set_cons_succ])
    refine wpAnyH_take (i := 27) (oi := ⟨some 48, _, _, _, _, _⟩) (v := ?_) rfl (by kernel_rfl) (by kernel_rfl) (by kernel_rfl) (fun _ _ _ h => h) (Or.inl ⟨by rfl, ?_⟩) (by assumption) ?_
    rotate_left
    · (intro wz hSw; have hcz := HCE.out wz hSw.1; have hwz := hSw.2; (go_simp <;> with_reducible rfl))
    (try simp only [Act.put, List.setIfInBounds_toArray, List.set_cons_zero, List.set_cons_succ])
    refine wpAnyH_take (i := 29) (oi := ⟨some 50, _, _, _, _, _⟩) (v := ?_) rfl (by kernel_rfl) (by kernel_rfl) (by kernel_rfl) (fun _ _ _ h => h) (Or.inl ⟨by rfl, ?_⟩) (by assumption) ?_
    rotate_left
    · (intro wz hSw; have hcz := HCE.out wz hSw.1; have hwz := hSw.2; (go_simp <;> with_reducible rfl))
    (try simp only [Act.put, List.setIfInBounds_toArray, List.set_cons_zero, List.set_cons_succ])
    refine wpAnyH_take (i := 30) (oi := ⟨some 51, _, _, _, _, _⟩) (v := ?_) rfl (by kernel_rfl) (by kernel_rfl) (by kernel_rfl) (fun _ _ _ h => h) (Or.inl ⟨by rfl, ?_⟩) (by assumption) ?_
    rotate_left
    · (intro wz hSw; have hcz := HCE.out wz hSw.1; have hwz := hSw.2; (go_simp <;> with_reducible rfl))
    (try simp only [Act.put, List.setIfInBounds_toArray, List.set_cons_zero, List.set_cons_succ])
    refine wpAnyH_take (i := 31) (oi := ⟨some 3, _, _, _, _, _⟩) (v := ?_) rfl (by kernel_rfl) (by kernel_rfl) (by kernel_rfl) (fun _ _ _ h => h) (Or.inl ⟨by rfl, ?_⟩) (by assumption) ?_
    rotate_left
    · (intro wz hSw; have hcz := HCE.out wz hSw.1; have hwz := hSw.2; (go_simp <;> with_reducible rfl))
    (try simp only [Act.put, List.setIfInBounds_toArray, List.set_cons_zero, List.set_cons_succ])
    refine wpAnyH_done (by kernel_rfl) ?_ _
    go_wp2_with fail
    go_ret
    exact ⟨by first | rfl | (simp only [ByteArray.append_assoc]; rfl), HFN.out _ (by assumption)⟩

end Go.Proofs.YtdgckdmgplpobaaGreatDoor
