/- The contract of the article's reference's Text, of plain articles: their texts. -/
import Derived.Test.YtdgckdmgplpobaaGreatDoorMG6
import Derived.Test.YtdgckdmgplpobaaGreatDoorMG8
import Derived.Test.YtdgckdmgplpobaaGreatDoorMG5
import Derived.Deep.RegionHeld3
import Derived.Deep.DeepCutAuto
set_option linter.unusedSimpArgs false
set_option linter.unusedVariables false
namespace Go.Proofs.YtdgckdmgplpobaaGreatDoor
open Go.RowKit Go.Lib Go.Proofs

set_option maxRecDepth 100000 in
set_option maxHeartbeats 8000000 in
theorem rtx_years (yr : Int) (nu : Int) (hy : 0 ≤ yr ∧ yr ≤ 99) (hc : 1 ≤ nu ∧ nu ≤ 4) (w : World) (hL : Lay w) :
    Calls Tryz.prog 13 #[.agg #[.int .i64 1, .string ⟨#[]⟩, .string ⟨#[]⟩, .string ⟨#[]⟩, .int .i64 yr, .int .i64 0, .int .i64 0, .int .i64 nu, .int .i64 0, .int .i64 0, .int .i64 0]] w fun e w' => e = .returned (.string (textA ⟨1, ⟨#[]⟩, ⟨#[]⟩, ⟨#[]⟩, yr, 0, 0, nu, 0, 0, 0⟩)) ∧ Below w.heap.size w w' := by
  have HPL := Lib.hid (fun W => rplain_yes ⟨1, ⟨#[]⟩, ⟨#[]⟩, ⟨#[]⟩, yr, 0, 0, nu, 0, 0, 0⟩ (pl_years yr nu hy hc) W)
  rw [rtm_years yr nu hy hc]
  simp only [Art.cells] at HPL
  obtain ⟨I, hI⟩ : ∃ I : World → Prop, I = fun W => Below (w.heap.size + 1) (w.alloc (.cells #[.int .i64 1, .string ⟨#[]⟩, .string ⟨#[]⟩, .string ⟨#[]⟩, .int .i64 yr, .int .i64 0, .int .i64 0, .int .i64 nu, .int .i64 0, .int .i64 0, .int .i64 0] 24)) W := ⟨_, rfl⟩
  have hlater : ∀ A B, I A → Below A.heap.size A B → I B := by rw [hI]; exact fun A B h hb => h.trans (hb.mono (by have := h.size; simp at this; omega))
  have hdrew : ∀ A, I A → I A.drew := by rw [hI]; exact fun A h => h.drew
  have hfin : ∀ A, I A → Below w.heap.size w A := by rw [hI]; exact fun A h => (below_alloc w _).trans (h.mono (Nat.le_succ _))
  have hcells : ∀ A, I A → ∀ j, A.cell? ⟨w.heap.size, j, none⟩ = #[.int .i64 1, .string ⟨#[]⟩, .string ⟨#[]⟩, .string ⟨#[]⟩, .int .i64 yr, .int .i64 0, .int .i64 0, .int .i64 nu, .int .i64 0, .int .i64 0, .int .i64 0][j]? := by rw [hI]; exact fun A h => boxg_below h
  have hnew : I (w.alloc (.cells #[.int .i64 1, .string ⟨#[]⟩, .string ⟨#[]⟩, .string ⟨#[]⟩, .int .i64 yr, .int .i64 0, .int .i64 0, .int .i64 nu, .int .i64 0, .int .i64 0, .int .i64 0] 24)) := by rw [hI]; exact Below.refl _ _
  have hlay : ∀ A, I A → Lay A := fun A h => hL.below (hfin A h) (Nat.le_refl _)
  have z_i_yr : (itoaT yr).size ≤ 21 := itoaT_size yr (by omega) (by omega)
  have H0 := Lib.hid (fun W (hW : I W) => (itoa_any yr W (hlay W hW) (by omega) (by omega)).mono fun e w' h => (show _ ∧ I w' from ⟨h.1, hlater _ _ hW h.2⟩))
  have z_i_nu : (itoaT nu).size ≤ 21 := itoaT_size nu (by omega) (by omega)
  have H1 := Lib.hid (fun W (hW : I W) => (itoa_any nu W (hlay W hW) (by omega) (by omega)).mono fun e w' h => (show _ ∧ I w' from ⟨h.1, hlater _ _ hW h.2⟩))
  have HWD := Lib.hid (fun W (hW : I W) => (rarWords_any W).mono fun e w' h => (show ∃ g, e = .returned (.slice (some ⟨g, 0, none⟩) 11 11) ∧ I w' ∧ (∀ (j : Nat) x, kindW[j]? = some x → w'.cell? ⟨g, j, none⟩ = some (.string x)) ∧ w'.heap[g]? = some (.cells (cellsS kindW).toArray 9 (0, 0)) from ⟨W.heap.size, h.1, by rw [h.2]; exact hlater _ _ hW (below_alloc _ _), fun j x hx => by rw [h.2, cell_of_row _ _ _ _ _ _ (heap_alloc_new W _)]; simp [cellsS, hx], by rw [h.2]; exact heap_alloc_new W _⟩))
  have HPL2 := Lib.hid (fun W (hW : I W) => (HPL.out W).mono fun e w' h => (show _ ∧ I w' from ⟨h.1, hlater _ _ hW h.2⟩))
  generalize itoaT yr = i_yr at *
  generalize itoaT nu = i_nu at *
  have HCE := Lib.hid hcells
  have HDR := Lib.hid hdrew
  have HFN := Lib.hid hfin
  clear hI hlater hdrew hfin hcells HPL hL hlay
  have q0 : ¬ 9223372036854775807 < 1 + i_yr.size := by omega
  have q1 : ¬ 9223372036854775807 < 1 + i_yr.size + 1 := by omega
  have q2 : ¬ 9223372036854775807 < 1 + i_yr.size + 1 + i_nu.size := by omega
  have q3 : ¬ 9223372036854775807 < 5 + (1 + i_yr.size + 1 + i_nu.size) := by omega
  go_enter Tryz.func13, Tryz.ntmps13
  go_wp2_with fail
  refine (HPL2.out _ hnew).mono ?_
  rintro e w1 ⟨rfl, hi1⟩
  have HI1 := Lib.hid hi1
  have hu := HCE.out _ hi1
  clear hnew
  go_upto_region 3 with fail
  go_cut [3] (fun s wx => s = .string ⟨#[121, 101, 97, 114, 115]⟩ ∧ I wx)
  case first =>
    go_region_with (go_at_call 40; refine (HWD.out _ (by first | exact HI1.out | exact HDR.out _ HI1.out)).mono ?_; rintro e w2 ⟨gw, rfl, hi2, hcw, _⟩; have cw := hcw 1 _ rfl; have u2 := HCE.out _ hi2; clear hcw)
    all_goals (go_wp2_with fail)
    all_goals go_meet
    all_goals exact ⟨rfl, by first | assumption | exact HDR.out _ (by assumption)⟩
  case rest =>
    obtain ⟨rfl, hi3⟩ := hcut
    have HI3 := Lib.hid hi3
    have hu3 := HCE.out _ hi3
    clear HI1 hi1 hu
    go_upto_region 10 with fail
    go_region_held3 (fun W => ∀ j, W.cell? ⟨w.heap.size, j, none⟩ = #[.int .i64 1, .string ⟨#[]⟩, .string ⟨#[]⟩, .string ⟨#[]⟩, .int .i64 yr, .int .i64 0, .int .i64 0, .int .i64 nu, .int .i64 0, .int .i64 0, .int .i64 0][j]?) (first | exact HCE.out _ (by assumption) | exact HCE.out _ (HDR.out _ (by assumption)))
      (first
        | (go_at_call 41; (with_reducible refine (H0.out _ (by first | assumption | exact HDR.out _ (by assumption))).mono ?_); rintro e w' ⟨rfl, hinv⟩)
        | (go_at_call 41; (with_reducible refine (H1.out _ (by first | assumption | exact HDR.out _ (by assumption))).mono ?_); rintro e w' ⟨rfl, hinv⟩))
    go_wp2_with fail
    go_ret
    exact ⟨by first | rfl | (simp only [ByteArray.append_assoc]; rfl), HFN.out _ (by assumption)⟩

set_option maxRecDepth 100000 in
set_option maxHeartbeats 8000000 in
theorem rtx_heading (cd : ByteArray) (nm : ByteArray) (c1 : isCodeB cd = true) (c3 : nameB nm = true) (w : World) (hL : Lay w) :
    Calls Tryz.prog 13 #[.agg #[.int .i64 2, .string cd, .string ⟨#[]⟩, .string nm, .int .i64 0, .int .i64 0, .int .i64 0, .int .i64 0, .int .i64 0, .int .i64 0, .int .i64 0]] w fun e w' => e = .returned (.string (textA ⟨2, cd, ⟨#[]⟩, nm, 0, 0, 0, 0, 0, 0, 0⟩)) ∧ Below w.heap.size w w' := by
  have HPL := Lib.hid (fun W => rplain_yes ⟨2, cd, ⟨#[]⟩, nm, 0, 0, 0, 0, 0, 0, 0⟩ (pl_heading cd nm c1 c3) W)
  rw [rtm_heading cd nm c1 c3]
  simp only [Art.cells] at HPL
  obtain ⟨I, hI⟩ : ∃ I : World → Prop, I = fun W => Below (w.heap.size + 1) (w.alloc (.cells #[.int .i64 2, .string cd, .string ⟨#[]⟩, .string nm, .int .i64 0, .int .i64 0, .int .i64 0, .int .i64 0, .int .i64 0, .int .i64 0, .int .i64 0] 24)) W := ⟨_, rfl⟩
  have hlater : ∀ A B, I A → Below A.heap.size A B → I B := by rw [hI]; exact fun A B h hb => h.trans (hb.mono (by have := h.size; simp at this; omega))
  have hdrew : ∀ A, I A → I A.drew := by rw [hI]; exact fun A h => h.drew
  have hfin : ∀ A, I A → Below w.heap.size w A := by rw [hI]; exact fun A h => (below_alloc w _).trans (h.mono (Nat.le_succ _))
  have hcells : ∀ A, I A → ∀ j, A.cell? ⟨w.heap.size, j, none⟩ = #[.int .i64 2, .string cd, .string ⟨#[]⟩, .string nm, .int .i64 0, .int .i64 0, .int .i64 0, .int .i64 0, .int .i64 0, .int .i64 0, .int .i64 0][j]? := by rw [hI]; exact fun A h => boxg_below h
  have hnew : I (w.alloc (.cells #[.int .i64 2, .string cd, .string ⟨#[]⟩, .string nm, .int .i64 0, .int .i64 0, .int .i64 0, .int .i64 0, .int .i64 0, .int .i64 0, .int .i64 0] 24)) := by rw [hI]; exact Below.refl _ _
  have hlay : ∀ A, I A → Lay A := fun A h => hL.below (hfin A h) (Nat.le_refl _)
  have z_cd : cd.size ≤ 11 := code_small c1
  have z_nm : nm.size ≤ 40 := name_small c3
  have HWD := Lib.hid (fun W (hW : I W) => (rarWords_any W).mono fun e w' h => (show ∃ g, e = .returned (.slice (some ⟨g, 0, none⟩) 11 11) ∧ I w' ∧ (∀ (j : Nat) x, kindW[j]? = some x → w'.cell? ⟨g, j, none⟩ = some (.string x)) ∧ w'.heap[g]? = some (.cells (cellsS kindW).toArray 9 (0, 0)) from ⟨W.heap.size, h.1, by rw [h.2]; exact hlater _ _ hW (below_alloc _ _), fun j x hx => by rw [h.2, cell_of_row _ _ _ _ _ _ (heap_alloc_new W _)]; simp [cellsS, hx], by rw [h.2]; exact heap_alloc_new W _⟩))
  have HPL2 := Lib.hid (fun W (hW : I W) => (HPL.out W).mono fun e w' h => (show _ ∧ I w' from ⟨h.1, hlater _ _ hW h.2⟩))
  have HCE := Lib.hid hcells
  have HDR := Lib.hid hdrew
  have HFN := Lib.hid hfin
  clear hI hlater hdrew hfin hcells HPL hL hlay
  have q0 : ¬ 9223372036854775807 < 1 + cd.size := by omega
  have q1 : ¬ 9223372036854775807 < 1 + cd.size + 1 := by omega
  have q2 : ¬ 9223372036854775807 < 1 + cd.size + 1 + nm.size := by omega
  have q3 : ¬ 9223372036854775807 < 7 + (1 + cd.size + 1 + nm.size) := by omega
  go_enter Tryz.func13, Tryz.ntmps13
  go_wp2_with fail
  refine (HPL2.out _ hnew).mono ?_
  rintro e w1 ⟨rfl, hi1⟩
  have HI1 := Lib.hid hi1
  have hu := HCE.out _ hi1
  clear hnew
  go_upto_region 3 with fail
  go_cut [3] (fun s wx => s = .string ⟨#[104, 101, 97, 100, 105, 110, 103]⟩ ∧ I wx)
  case first =>
    go_region_with (go_at_call 40; refine (HWD.out _ (by first | exact HI1.out | exact HDR.out _ HI1.out)).mono ?_; rintro e w2 ⟨gw, rfl, hi2, hcw, _⟩; have cw := hcw 2 _ rfl; have u2 := HCE.out _ hi2; clear hcw)
    all_goals (go_wp2_with fail)
    all_goals go_meet
    all_goals exact ⟨rfl, by first | assumption | exact HDR.out _ (by assumption)⟩
  case rest =>
    obtain ⟨rfl, hi3⟩ := hcut
    have HI3 := Lib.hid hi3
    have hu3 := HCE.out _ hi3
    clear HI1 hi1 hu
    go_wp2_with fail
    go_ret
    exact ⟨rfl, HFN.out _ (by assumption)⟩

set_option maxRecDepth 100000 in
set_option maxHeartbeats 8000000 in
theorem rtx_line (cd : ByteArray) (yr : Int) (am : Int) (c1 : isCodeB cd = true) (hy : 0 ≤ yr ∧ yr ≤ 99) (ha : 0 ≤ am ∧ am ≤ 1000000000000) (w : World) (hL : Lay w) :
    Calls Tryz.prog 13 #[.agg #[.int .i64 3, .string cd, .string ⟨#[]⟩, .string ⟨#[]⟩, .int .i64 yr, .int .i64 am, .int .i64 0, .int .i64 0, .int .i64 0, .int .i64 0, .int .i64 0]] w fun e w' => e = .returned (.string (textA ⟨3, cd, ⟨#[]⟩, ⟨#[]⟩, yr, am, 0, 0, 0, 0, 0⟩)) ∧ Below w.heap.size w w' := by
  have HPL := Lib.hid (fun W => rplain_yes ⟨3, cd, ⟨#[]⟩, ⟨#[]⟩, yr, am, 0, 0, 0, 0, 0⟩ (pl_line cd yr am c1 hy ha) W)
  rw [rtm_line cd yr am c1 hy ha]
  simp only [Art.cells] at HPL
  obtain ⟨I, hI⟩ : ∃ I : World → Prop, I = fun W => Below (w.heap.size + 1) (w.alloc (.cells #[.int .i64 3, .string cd, .string ⟨#[]⟩, .string ⟨#[]⟩, .int .i64 yr, .int .i64 am, .int .i64 0, .int .i64 0, .int .i64 0, .int .i64 0, .int .i64 0] 24)) W := ⟨_, rfl⟩
  have hlater : ∀ A B, I A → Below A.heap.size A B → I B := by rw [hI]; exact fun A B h hb => h.trans (hb.mono (by have := h.size; simp at this; omega))
  have hdrew : ∀ A, I A → I A.drew := by rw [hI]; exact fun A h => h.drew
  have hfin : ∀ A, I A → Below w.heap.size w A := by rw [hI]; exact fun A h => (below_alloc w _).trans (h.mono (Nat.le_succ _))
  have hcells : ∀ A, I A → ∀ j, A.cell? ⟨w.heap.size, j, none⟩ = #[.int .i64 3, .string cd, .string ⟨#[]⟩, .string ⟨#[]⟩, .int .i64 yr, .int .i64 am, .int .i64 0, .int .i64 0, .int .i64 0, .int .i64 0, .int .i64 0][j]? := by rw [hI]; exact fun A h => boxg_below h
  have hnew : I (w.alloc (.cells #[.int .i64 3, .string cd, .string ⟨#[]⟩, .string ⟨#[]⟩, .int .i64 yr, .int .i64 am, .int .i64 0, .int .i64 0, .int .i64 0, .int .i64 0, .int .i64 0] 24)) := by rw [hI]; exact Below.refl _ _
  have hlay : ∀ A, I A → Lay A := fun A h => hL.below (hfin A h) (Nat.le_refl _)
  have z_cd : cd.size ≤ 11 := code_small c1
  have z_s_yr : (numOr yr allT).size ≤ 21 := numOr_size yr _ (by decide) (by omega) (by omega)
  have H0 := Lib.hid (fun W (hW : I W) => (rarspan_any yr W (hlay W hW) (by omega) (by omega)).mono fun e w' h => (show _ ∧ I w' from ⟨h.1, hlater _ _ hW h.2⟩))
  have z_i_am : (itoaT am).size ≤ 21 := itoaT_size am (by omega) (by omega)
  have H1 := Lib.hid (fun W (hW : I W) => (itoa_any am W (hlay W hW) (by omega) (by omega)).mono fun e w' h => (show _ ∧ I w' from ⟨h.1, hlater _ _ hW h.2⟩))
  have HWD := Lib.hid (fun W (hW : I W) => (rarWords_any W).mono fun e w' h => (show ∃ g, e = .returned (.slice (some ⟨g, 0, none⟩) 11 11) ∧ I w' ∧ (∀ (j : Nat) x, kindW[j]? = some x → w'.cell? ⟨g, j, none⟩ = some (.string x)) ∧ w'.heap[g]? = some (.cells (cellsS kindW).toArray 9 (0, 0)) from ⟨W.heap.size, h.1, by rw [h.2]; exact hlater _ _ hW (below_alloc _ _), fun j x hx => by rw [h.2, cell_of_row _ _ _ _ _ _ (heap_alloc_new W _)]; simp [cellsS, hx], by rw [h.2]; exact heap_alloc_new W _⟩))
  have HPL2 := Lib.hid (fun W (hW : I W) => (HPL.out W).mono fun e w' h => (show _ ∧ I w' from ⟨h.1, hlater _ _ hW h.2⟩))
  generalize numOr yr allT = s_yr at *
  generalize itoaT am = i_am at *
  have HCE := Lib.hid hcells
  have HDR := Lib.hid hdrew
  have HFN := Lib.hid hfin
  clear hI hlater hdrew hfin hcells HPL hL hlay
  have q0 : ¬ 9223372036854775807 < 1 + cd.size := by omega
  have q1 : ¬ 9223372036854775807 < 1 + cd.size + 1 := by omega
  have q2 : ¬ 9223372036854775807 < 1 + cd.size + 1 + s_yr.size := by omega
  have q3 : ¬ 9223372036854775807 < 1 + cd.size + 1 + s_yr.size + 1 := by omega
  have q4 : ¬ 9223372036854775807 < 1 + cd.size + 1 + s_yr.size + 1 + i_am.size := by omega
  have q5 : ¬ 9223372036854775807 < 4 + (1 + cd.size + 1 + s_yr.size + 1 + i_am.size) := by omega
  go_enter Tryz.func13, Tryz.ntmps13
  go_wp2_with fail
  refine (HPL2.out _ hnew).mono ?_
  rintro e w1 ⟨rfl, hi1⟩
  have HI1 := Lib.hid hi1
  have hu := HCE.out _ hi1
  clear hnew
  go_upto_region 3 with fail
  go_cut [3] (fun s wx => s = .string ⟨#[108, 105, 110, 101]⟩ ∧ I wx)
  case first =>
    go_region_with (go_at_call 40; refine (HWD.out _ (by first | exact HI1.out | exact HDR.out _ HI1.out)).mono ?_; rintro e w2 ⟨gw, rfl, hi2, hcw, _⟩; have cw := hcw 3 _ rfl; have u2 := HCE.out _ hi2; clear hcw)
    all_goals (go_wp2_with fail)
    all_goals go_meet
    all_goals exact ⟨rfl, by first | assumption | exact HDR.out _ (by assumption)⟩
  case rest =>
    obtain ⟨rfl, hi3⟩ := hcut
    have HI3 := Lib.hid hi3
    have hu3 := HCE.out _ hi3
    clear HI1 hi1 hu
    go_upto_region 16 with fail
    go_region_held3 (fun W => ∀ j, W.cell? ⟨w.heap.size, j, none⟩ = #[.int .i64 3, .string cd, .string ⟨#[]⟩, .string ⟨#[]⟩, .int .i64 yr, .int .i64 am, .int .i64 0, .int .i64 0, .int .i64 0, .int .i64 0, .int .i64 0][j]?) (first | exact HCE.out _ (by assumption) | exact HCE.out _ (HDR.out _ (by assumption)))
      (first
        | (go_at_call 42; (with_reducible refine (H0.out _ (by first | assumption | exact HDR.out _ (by assumption))).mono ?_); rintro e w' ⟨rfl, hinv⟩)
        | (go_at_call 41; (with_reducible refine (H1.out _ (by first | assumption | exact HDR.out _ (by assumption))).mono ?_); rintro e w' ⟨rfl, hinv⟩))
    go_wp2_with fail
    go_ret
    exact ⟨by first | rfl | (simp only [ByteArray.append_assoc]; rfl), HFN.out _ (by assumption)⟩

set_option maxRecDepth 100000 in
set_option maxHeartbeats 8000000 in
theorem rtx_ceiling (cd : ByteArray) (yr : Int) (am : Int) (c1 : isCodeB cd = true) (hs : yr = -1 ∨ 0 ≤ yr ∧ yr ≤ 99) (ha : 0 ≤ am ∧ am ≤ 1000000000000) (w : World) (hL : Lay w) :
    Calls Tryz.prog 13 #[.agg #[.int .i64 4, .string cd, .string ⟨#[]⟩, .string ⟨#[]⟩, .int .i64 yr, .int .i64 am, .int .i64 0, .int .i64 0, .int .i64 0, .int .i64 0, .int .i64 0]] w fun e w' => e = .returned (.string (textA ⟨4, cd, ⟨#[]⟩, ⟨#[]⟩, yr, am, 0, 0, 0, 0, 0⟩)) ∧ Below w.heap.size w w' := by
  have HPL := Lib.hid (fun W => rplain_yes ⟨4, cd, ⟨#[]⟩, ⟨#[]⟩, yr, am, 0, 0, 0, 0, 0⟩ (pl_ceiling cd yr am c1 hs ha) W)
  rw [rtm_ceiling cd yr am c1 hs ha]
  simp only [Art.cells] at HPL
  obtain ⟨I, hI⟩ : ∃ I : World → Prop, I = fun W => Below (w.heap.size + 1) (w.alloc (.cells #[.int .i64 4, .string cd, .string ⟨#[]⟩, .string ⟨#[]⟩, .int .i64 yr, .int .i64 am, .int .i64 0, .int .i64 0, .int .i64 0, .int .i64 0, .int .i64 0] 24)) W := ⟨_, rfl⟩
  have hlater : ∀ A B, I A → Below A.heap.size A B → I B := by rw [hI]; exact fun A B h hb => h.trans (hb.mono (by have := h.size; simp at this; omega))
  have hdrew : ∀ A, I A → I A.drew := by rw [hI]; exact fun A h => h.drew
  have hfin : ∀ A, I A → Below w.heap.size w A := by rw [hI]; exact fun A h => (below_alloc w _).trans (h.mono (Nat.le_succ _))
  have hcells : ∀ A, I A → ∀ j, A.cell? ⟨w.heap.size, j, none⟩ = #[.int .i64 4, .string cd, .string ⟨#[]⟩, .string ⟨#[]⟩, .int .i64 yr, .int .i64 am, .int .i64 0, .int .i64 0, .int .i64 0, .int .i64 0, .int .i64 0][j]? := by rw [hI]; exact fun A h => boxg_below h
  have hnew : I (w.alloc (.cells #[.int .i64 4, .string cd, .string ⟨#[]⟩, .string ⟨#[]⟩, .int .i64 yr, .int .i64 am, .int .i64 0, .int .i64 0, .int .i64 0, .int .i64 0, .int .i64 0] 24)) := by rw [hI]; exact Below.refl _ _
  have hlay : ∀ A, I A → Lay A := fun A h => hL.below (hfin A h) (Nat.le_refl _)
  have z_cd : cd.size ≤ 11 := code_small c1
  have z_s_yr : (numOr yr allT).size ≤ 21 := numOr_size yr _ (by decide) (by omega) (by omega)
  have H0 := Lib.hid (fun W (hW : I W) => (rarspan_any yr W (hlay W hW) (by omega) (by omega)).mono fun e w' h => (show _ ∧ I w' from ⟨h.1, hlater _ _ hW h.2⟩))
  have z_i_am : (itoaT am).size ≤ 21 := itoaT_size am (by omega) (by omega)
  have H1 := Lib.hid (fun W (hW : I W) => (itoa_any am W (hlay W hW) (by omega) (by omega)).mono fun e w' h => (show _ ∧ I w' from ⟨h.1, hlater _ _ hW h.2⟩))
  have HWD := Lib.hid (fun W (hW : I W) => (rarWords_any W).mono fun e w' h => (show ∃ g, e = .returned (.slice (some ⟨g, 0, none⟩) 11 11) ∧ I w' ∧ (∀ (j : Nat) x, kindW[j]? = some x → w'.cell? ⟨g, j, none⟩ = some (.string x)) ∧ w'.heap[g]? = some (.cells (cellsS kindW).toArray 9 (0, 0)) from ⟨W.heap.size, h.1, by rw [h.2]; exact hlater _ _ hW (below_alloc _ _), fun j x hx => by rw [h.2, cell_of_row _ _ _ _ _ _ (heap_alloc_new W _)]; simp [cellsS, hx], by rw [h.2]; exact heap_alloc_new W _⟩))
  have HPL2 := Lib.hid (fun W (hW : I W) => (HPL.out W).mono fun e w' h => (show _ ∧ I w' from ⟨h.1, hlater _ _ hW h.2⟩))
  generalize numOr yr allT = s_yr at *
  generalize itoaT am = i_am at *
  have HCE := Lib.hid hcells
  have HDR := Lib.hid hdrew
  have HFN := Lib.hid hfin
  clear hI hlater hdrew hfin hcells HPL hL hlay
  have q0 : ¬ 9223372036854775807 < 1 + cd.size := by omega
  have q1 : ¬ 9223372036854775807 < 1 + cd.size + 1 := by omega
  have q2 : ¬ 9223372036854775807 < 1 + cd.size + 1 + s_yr.size := by omega
  have q3 : ¬ 9223372036854775807 < 1 + cd.size + 1 + s_yr.size + 1 := by omega
  have q4 : ¬ 9223372036854775807 < 1 + cd.size + 1 + s_yr.size + 1 + i_am.size := by omega
  have q5 : ¬ 9223372036854775807 < 7 + (1 + cd.size + 1 + s_yr.size + 1 + i_am.size) := by omega
  go_enter Tryz.func13, Tryz.ntmps13
  go_wp2_with fail
  refine (HPL2.out _ hnew).mono ?_
  rintro e w1 ⟨rfl, hi1⟩
  have HI1 := Lib.hid hi1
  have hu := HCE.out _ hi1
  clear hnew
  go_upto_region 3 with fail
  go_cut [3] (fun s wx => s = .string ⟨#[99, 101, 105, 108, 105, 110, 103]⟩ ∧ I wx)
  case first =>
    go_region_with (go_at_call 40; refine (HWD.out _ (by first | exact HI1.out | exact HDR.out _ HI1.out)).mono ?_; rintro e w2 ⟨gw, rfl, hi2, hcw, _⟩; have cw := hcw 4 _ rfl; have u2 := HCE.out _ hi2; clear hcw)
    all_goals (go_wp2_with fail)
    all_goals go_meet
    all_goals exact ⟨rfl, by first | assumption | exact HDR.out _ (by assumption)⟩
  case rest =>
    obtain ⟨rfl, hi3⟩ := hcut
    have HI3 := Lib.hid hi3
    have hu3 := HCE.out _ hi3
    clear HI1 hi1 hu
    go_upto_region 16 with fail
    go_region_held3 (fun W => ∀ j, W.cell? ⟨w.heap.size, j, none⟩ = #[.int .i64 4, .string cd, .string ⟨#[]⟩, .string ⟨#[]⟩, .int .i64 yr, .int .i64 am, .int .i64 0, .int .i64 0, .int .i64 0, .int .i64 0, .int .i64 0][j]?) (first | exact HCE.out _ (by assumption) | exact HCE.out _ (HDR.out _ (by assumption)))
      (first
        | (go_at_call 42; (with_reducible refine (H0.out _ (by first | assumption | exact HDR.out _ (by assumption))).mono ?_); rintro e w' ⟨rfl, hinv⟩)
        | (go_at_call 41; (with_reducible refine (H1.out _ (by first | assumption | exact HDR.out _ (by assumption))).mono ?_); rintro e w' ⟨rfl, hinv⟩))
    go_wp2_with fail
    go_ret
    exact ⟨by first | rfl | (simp only [ByteArray.append_assoc]; rfl), HFN.out _ (by assumption)⟩

set_option maxRecDepth 100000 in
set_option maxHeartbeats 8000000 in
theorem rtx_floor (cd : ByteArray) (yr : Int) (am : Int) (c1 : isCodeB cd = true) (hs : yr = -1 ∨ 0 ≤ yr ∧ yr ≤ 99) (ha : 0 ≤ am ∧ am ≤ 1000000000000) (w : World) (hL : Lay w) :
    Calls Tryz.prog 13 #[.agg #[.int .i64 5, .string cd, .string ⟨#[]⟩, .string ⟨#[]⟩, .int .i64 yr, .int .i64 am, .int .i64 0, .int .i64 0, .int .i64 0, .int .i64 0, .int .i64 0]] w fun e w' => e = .returned (.string (textA ⟨5, cd, ⟨#[]⟩, ⟨#[]⟩, yr, am, 0, 0, 0, 0, 0⟩)) ∧ Below w.heap.size w w' := by
  have HPL := Lib.hid (fun W => rplain_yes ⟨5, cd, ⟨#[]⟩, ⟨#[]⟩, yr, am, 0, 0, 0, 0, 0⟩ (pl_floor cd yr am c1 hs ha) W)
  rw [rtm_floor cd yr am c1 hs ha]
  simp only [Art.cells] at HPL
  obtain ⟨I, hI⟩ : ∃ I : World → Prop, I = fun W => Below (w.heap.size + 1) (w.alloc (.cells #[.int .i64 5, .string cd, .string ⟨#[]⟩, .string ⟨#[]⟩, .int .i64 yr, .int .i64 am, .int .i64 0, .int .i64 0, .int .i64 0, .int .i64 0, .int .i64 0] 24)) W := ⟨_, rfl⟩
  have hlater : ∀ A B, I A → Below A.heap.size A B → I B := by rw [hI]; exact fun A B h hb => h.trans (hb.mono (by have := h.size; simp at this; omega))
  have hdrew : ∀ A, I A → I A.drew := by rw [hI]; exact fun A h => h.drew
  have hfin : ∀ A, I A → Below w.heap.size w A := by rw [hI]; exact fun A h => (below_alloc w _).trans (h.mono (Nat.le_succ _))
  have hcells : ∀ A, I A → ∀ j, A.cell? ⟨w.heap.size, j, none⟩ = #[.int .i64 5, .string cd, .string ⟨#[]⟩, .string ⟨#[]⟩, .int .i64 yr, .int .i64 am, .int .i64 0, .int .i64 0, .int .i64 0, .int .i64 0, .int .i64 0][j]? := by rw [hI]; exact fun A h => boxg_below h
  have hnew : I (w.alloc (.cells #[.int .i64 5, .string cd, .string ⟨#[]⟩, .string ⟨#[]⟩, .int .i64 yr, .int .i64 am, .int .i64 0, .int .i64 0, .int .i64 0, .int .i64 0, .int .i64 0] 24)) := by rw [hI]; exact Below.refl _ _
  have hlay : ∀ A, I A → Lay A := fun A h => hL.below (hfin A h) (Nat.le_refl _)
  have z_cd : cd.size ≤ 11 := code_small c1
  have z_s_yr : (numOr yr allT).size ≤ 21 := numOr_size yr _ (by decide) (by omega) (by omega)
  have H0 := Lib.hid (fun W (hW : I W) => (rarspan_any yr W (hlay W hW) (by omega) (by omega)).mono fun e w' h => (show _ ∧ I w' from ⟨h.1, hlater _ _ hW h.2⟩))
  have z_i_am : (itoaT am).size ≤ 21 := itoaT_size am (by omega) (by omega)
  have H1 := Lib.hid (fun W (hW : I W) => (itoa_any am W (hlay W hW) (by omega) (by omega)).mono fun e w' h => (show _ ∧ I w' from ⟨h.1, hlater _ _ hW h.2⟩))
  have HWD := Lib.hid (fun W (hW : I W) => (rarWords_any W).mono fun e w' h => (show ∃ g, e = .returned (.slice (some ⟨g, 0, none⟩) 11 11) ∧ I w' ∧ (∀ (j : Nat) x, kindW[j]? = some x → w'.cell? ⟨g, j, none⟩ = some (.string x)) ∧ w'.heap[g]? = some (.cells (cellsS kindW).toArray 9 (0, 0)) from ⟨W.heap.size, h.1, by rw [h.2]; exact hlater _ _ hW (below_alloc _ _), fun j x hx => by rw [h.2, cell_of_row _ _ _ _ _ _ (heap_alloc_new W _)]; simp [cellsS, hx], by rw [h.2]; exact heap_alloc_new W _⟩))
  have HPL2 := Lib.hid (fun W (hW : I W) => (HPL.out W).mono fun e w' h => (show _ ∧ I w' from ⟨h.1, hlater _ _ hW h.2⟩))
  generalize numOr yr allT = s_yr at *
  generalize itoaT am = i_am at *
  have HCE := Lib.hid hcells
  have HDR := Lib.hid hdrew
  have HFN := Lib.hid hfin
  clear hI hlater hdrew hfin hcells HPL hL hlay
  have q0 : ¬ 9223372036854775807 < 1 + cd.size := by omega
  have q1 : ¬ 9223372036854775807 < 1 + cd.size + 1 := by omega
  have q2 : ¬ 9223372036854775807 < 1 + cd.size + 1 + s_yr.size := by omega
  have q3 : ¬ 9223372036854775807 < 1 + cd.size + 1 + s_yr.size + 1 := by omega
  have q4 : ¬ 9223372036854775807 < 1 + cd.size + 1 + s_yr.size + 1 + i_am.size := by omega
  have q5 : ¬ 9223372036854775807 < 5 + (1 + cd.size + 1 + s_yr.size + 1 + i_am.size) := by omega
  go_enter Tryz.func13, Tryz.ntmps13
  go_wp2_with fail
  refine (HPL2.out _ hnew).mono ?_
  rintro e w1 ⟨rfl, hi1⟩
  have HI1 := Lib.hid hi1
  have hu := HCE.out _ hi1
  clear hnew
  go_upto_region 3 with fail
  go_cut [3] (fun s wx => s = .string ⟨#[102, 108, 111, 111, 114]⟩ ∧ I wx)
  case first =>
    go_region_with (go_at_call 40; refine (HWD.out _ (by first | exact HI1.out | exact HDR.out _ HI1.out)).mono ?_; rintro e w2 ⟨gw, rfl, hi2, hcw, _⟩; have cw := hcw 5 _ rfl; have u2 := HCE.out _ hi2; clear hcw)
    all_goals (go_wp2_with fail)
    all_goals go_meet
    all_goals exact ⟨rfl, by first | assumption | exact HDR.out _ (by assumption)⟩
  case rest =>
    obtain ⟨rfl, hi3⟩ := hcut
    have HI3 := Lib.hid hi3
    have hu3 := HCE.out _ hi3
    clear HI1 hi1 hu
    go_upto_region 16 with fail
    go_region_held3 (fun W => ∀ j, W.cell? ⟨w.heap.size, j, none⟩ = #[.int .i64 5, .string cd, .string ⟨#[]⟩, .string ⟨#[]⟩, .int .i64 yr, .int .i64 am, .int .i64 0, .int .i64 0, .int .i64 0, .int .i64 0, .int .i64 0][j]?) (first | exact HCE.out _ (by assumption) | exact HCE.out _ (HDR.out _ (by assumption)))
      (first
        | (go_at_call 42; (with_reducible refine (H0.out _ (by first | assumption | exact HDR.out _ (by assumption))).mono ?_); rintro e w' ⟨rfl, hinv⟩)
        | (go_at_call 41; (with_reducible refine (H1.out _ (by first | assumption | exact HDR.out _ (by assumption))).mono ?_); rintro e w' ⟨rfl, hinv⟩))
    go_wp2_with fail
    go_ret
    exact ⟨by first | rfl | (simp only [ByteArray.append_assoc]; rfl), HFN.out _ (by assumption)⟩

end Go.Proofs.YtdgckdmgplpobaaGreatDoor
