/- The contract of the article's reference's Plain, of plain articles: they are plain. -/
import Derived.Test.YtdedihdkkaoapaaGreatDoorRused
import Derived.Test.YtdedihdkkaoapaaGreatDoorG4
import Derived.Deep.RegionHeld3
namespace Go.Proofs.YtdedihdkkaoapaaGreatDoor
open Go.RowKit Go.Lib Go.Proofs

theorem raryear_yes {n : Int} (w : World) (h : 0 ≤ n ∧ n ≤ 99) : Calls Tryz.prog 31 #[.int .i64 n] w fun e w' => e = .returned (.bool true) ∧ w = w' := by
  have := raryear_any n w; rw [inB_true.2 h] at this; exact this
theorem rarnumber_yes {n : Int} (w : World) (h : 1 ≤ n ∧ n ≤ 1000000) : Calls Tryz.prog 37 #[.int .i64 n] w fun e w' => e = .returned (.bool true) ∧ w = w' := by
  have := rarnumber_any n w; rw [inB_true.2 h] at this; exact this
theorem rarpercent_yes {n : Int} (w : World) (h : 0 ≤ n ∧ n ≤ 100) : Calls Tryz.prog 35 #[.int .i64 n] w fun e w' => e = .returned (.bool true) ∧ w = w' := by
  have := rarpercent_any n w; rw [inB_true.2 h] at this; exact this
theorem rarday_yes {n : Int} (w : World) (h : 0 ≤ n ∧ n ≤ 35990) : Calls Tryz.prog 36 #[.int .i64 n] w fun e w' => e = .returned (.bool true) ∧ w = w' := by
  have := rarday_any n w; rw [inB_true.2 h] at this; exact this
theorem rmValid_yes {n : Int} (w : World) (h : 0 ≤ n ∧ n ≤ 1000000000000) : Calls Tryz.prog 34 #[.int .i64 n] w fun e w' => e = .returned (.bool true) ∧ w = w' := by
  have := rmValid_any n w; rw [inB_true.2 h] at this; exact this
theorem rarcode_yes {s : ByteArray} (w : World) (h : isCodeB s = true) : Calls Tryz.prog 32 #[.string s] w fun e w' => e = .returned (.bool true) ∧ Below w.heap.size w w' := by
  have := rarcode_any s w (by have := code_small h; omega); rw [h] at this; exact this
theorem rclValid_new (s : ByteArray) (w : World) (h : nameB s = true) : Calls Tryz.prog 33 #[.slice (some ⟨w.heap.size, 0, none⟩) 1 1] (w.alloc (.cells #[.string ⟨#[49]⟩, .string s] 54)) fun e w' => e = .returned (.int .i64 0) ∧ Below (w.alloc (.cells #[.string ⟨#[49]⟩, .string s] 54)).heap.size (w.alloc (.cells #[.string ⟨#[49]⟩, .string s] 54)) w' := by
  have := rclValid_one s w.heap.size 1 (Nat.le_refl _) (w.alloc (.cells #[.string ⟨#[49]⟩, .string s] 54)) (by have := name_small h; omega) ⟨by rw [cell_of_row _ _ _ _ _ _ (heap_alloc_new _ _)]; rfl, by rw [cell_of_row _ _ _ _ _ _ (heap_alloc_new _ _)]; rfl, by simp, Below.refl _ _⟩
  rw [if_pos h] at this
  exact this
theorem box_below {w W : World} {A : Array Value} (h : Below (w.heap.size + 1) (w.alloc (.cells A 24)) W) : ∀ j, W.cell? ⟨w.heap.size, j, none⟩ = A[j]? := fun j =>
  art_cell (W := W) (b := w.heap.size) ((h.block w.heap.size (by omega)).trans (heap_alloc_new w _)) j

set_option maxRecDepth 100000 in
set_option maxHeartbeats 4000000 in
theorem rpl_years (yr : Int) (nu : Int) (hy : 0 ≤ yr ∧ yr ≤ 99) (hc : 1 ≤ nu ∧ nu ≤ 4) (w : World) :
    Calls Tryz.prog 12 #[.agg #[.int .i64 1, .string ⟨#[]⟩, .string ⟨#[]⟩, .string ⟨#[]⟩, .int .i64 yr, .int .i64 0, .int .i64 0, .int .i64 nu, .int .i64 0, .int .i64 0, .int .i64 0]] w fun e w' => e = .returned (.bool true) ∧ Below w.heap.size w w' := by
  have hq : ∀ W, (binOp .neq 24 (.agg #[.int .i64 1, .string ⟨#[]⟩, .string ⟨#[]⟩, .string ⟨#[]⟩, .int .i64 yr, .int .i64 0, .int .i64 0, .int .i64 nu, .int .i64 0, .int .i64 0, .int .i64 0]) (.agg #[.int .i64 1, .string ⟨#[]⟩, .string ⟨#[]⟩, .string ⟨#[]⟩, .int .i64 yr, .int .i64 0, .int .i64 0, .int .i64 nu, .int .i64 0, .int .i64 0, .int .i64 0])).run Tryz.prog W = .ok (.bool false) W := fun W => art_same W ⟨1, ⟨#[]⟩, ⟨#[]⟩, ⟨#[]⟩, yr, 0, 0, nu, 0, 0, 0⟩
  have HU := Lib.hid (fun W => rused_1 ⟨#[]⟩ ⟨#[]⟩ ⟨#[]⟩ yr 0 0 nu 0 0 0 W)
  have hyb : (yr == -1) = false := by rw [beq_eq_false_iff_ne]; omega
  go_enter Tryz.func12, Tryz.ntmps12
  go_upto_region 1 with fail
  have hb0 : Below (w.heap.size + 1) (w.alloc (.cells #[.int .i64 1, .string ⟨#[]⟩, .string ⟨#[]⟩, .string ⟨#[]⟩, .int .i64 yr, .int .i64 0, .int .i64 0, .int .i64 nu, .int .i64 0, .int .i64 0, .int .i64 0] 24)) (w.alloc (.cells #[.int .i64 1, .string ⟨#[]⟩, .string ⟨#[]⟩, .string ⟨#[]⟩, .int .i64 yr, .int .i64 0, .int .i64 0, .int .i64 nu, .int .i64 0, .int .i64 0, .int .i64 0] 24)) := Below.refl _ _
  go_region_held3 (fun W => ∀ j, W.cell? ⟨w.heap.size, j, none⟩ = #[.int .i64 1, .string ⟨#[]⟩, .string ⟨#[]⟩, .string ⟨#[]⟩, .int .i64 yr, .int .i64 0, .int .i64 0, .int .i64 nu, .int .i64 0, .int .i64 0, .int .i64 0][j]?) (first | exact box_below (by assumption) | exact box_below (Below.drew (by assumption)))
    (first | (go_at_call 30; (with_reducible refine (HU.out _).mono ?_); rintro e w1 ⟨rfl, hb1'⟩; (have hb1 : Below (w.heap.size + 1) (w.alloc (.cells #[.int .i64 1, .string ⟨#[]⟩, .string ⟨#[]⟩, .string ⟨#[]⟩, .int .i64 yr, .int .i64 0, .int .i64 0, .int .i64 nu, .int .i64 0, .int .i64 0, .int .i64 0] 24)) w1 := (by first | exact hb0.trans (hb1'.mono (by simp)) | exact hb0.drew.trans (hb1'.mono (by simp)))); clear hb1'))
  have HB : Hid (Below (w.heap.size + 1) (w.alloc (.cells #[.int .i64 1, .string ⟨#[]⟩, .string ⟨#[]⟩, .string ⟨#[]⟩, .int .i64 yr, .int .i64 0, .int .i64 0, .int .i64 nu, .int .i64 0, .int .i64 0, .int .i64 0] 24)) w1) := Lib.hid (by assumption)
  have u := box_below HB.out
  clear hb0 HU hq
  go_wp2_with (first
      | (go_at_call 31; with_reducible refine (raryear_yes _ (by omega)).mono ?_; rintro e wq ⟨rfl, rfl⟩)
      | (go_at_call 37; with_reducible refine (rarnumber_yes _ (by omega)).mono ?_; rintro e wq ⟨rfl, rfl⟩)
      | (go_at_call 35; with_reducible refine (rarpercent_yes _ (by omega)).mono ?_; rintro e wq ⟨rfl, rfl⟩)
      | (go_at_call 36; with_reducible refine (rarday_yes _ (by omega)).mono ?_; rintro e wq ⟨rfl, rfl⟩)
      | (go_at_call 34; with_reducible refine (rmValid_yes _ (by omega)).mono ?_; rintro e wq ⟨rfl, rfl⟩)
      | (go_at_call 32; with_reducible refine (rarcode_yes _ (by assumption)).mono ?_; rintro e wq ⟨rfl, hq⟩; (have hsz := HB.out.size); (rw [World.size_alloc] at hsz); replace HB := Lib.hid (HB.out.trans (hq.mono hsz)); clear hsz; have u := box_below HB.out; clear hq))
  go_ret
  exact ⟨rfl, (below_alloc w _).trans (HB.out.mono (Nat.le_succ _))⟩

set_option maxRecDepth 100000 in
set_option maxHeartbeats 4000000 in
theorem rpl_heading (cd : ByteArray) (nm : ByteArray) (c1 : isCodeB cd = true) (c3 : nameB nm = true) (w : World) :
    Calls Tryz.prog 12 #[.agg #[.int .i64 2, .string cd, .string ⟨#[]⟩, .string nm, .int .i64 0, .int .i64 0, .int .i64 0, .int .i64 0, .int .i64 0, .int .i64 0, .int .i64 0]] w fun e w' => e = .returned (.bool true) ∧ Below w.heap.size w w' := by
  have hq : ∀ W, (binOp .neq 24 (.agg #[.int .i64 2, .string cd, .string ⟨#[]⟩, .string nm, .int .i64 0, .int .i64 0, .int .i64 0, .int .i64 0, .int .i64 0, .int .i64 0, .int .i64 0]) (.agg #[.int .i64 2, .string cd, .string ⟨#[]⟩, .string nm, .int .i64 0, .int .i64 0, .int .i64 0, .int .i64 0, .int .i64 0, .int .i64 0, .int .i64 0])).run Tryz.prog W = .ok (.bool false) W := fun W => art_same W ⟨2, cd, ⟨#[]⟩, nm, 0, 0, 0, 0, 0, 0, 0⟩
  have HU := Lib.hid (fun W => rused_2 cd ⟨#[]⟩ nm 0 0 0 0 0 0 0 W)

  go_enter Tryz.func12, Tryz.ntmps12
  go_upto_region 1 with fail
  have hb0 : Below (w.heap.size + 1) (w.alloc (.cells #[.int .i64 2, .string cd, .string ⟨#[]⟩, .string nm, .int .i64 0, .int .i64 0, .int .i64 0, .int .i64 0, .int .i64 0, .int .i64 0, .int .i64 0] 24)) (w.alloc (.cells #[.int .i64 2, .string cd, .string ⟨#[]⟩, .string nm, .int .i64 0, .int .i64 0, .int .i64 0, .int .i64 0, .int .i64 0, .int .i64 0, .int .i64 0] 24)) := Below.refl _ _
  go_region_held3 (fun W => ∀ j, W.cell? ⟨w.heap.size, j, none⟩ = #[.int .i64 2, .string cd, .string ⟨#[]⟩, .string nm, .int .i64 0, .int .i64 0, .int .i64 0, .int .i64 0, .int .i64 0, .int .i64 0, .int .i64 0][j]?) (first | exact box_below (by assumption) | exact box_below (Below.drew (by assumption)))
    (first | (go_at_call 30; (with_reducible refine (HU.out _).mono ?_); rintro e w1 ⟨rfl, hb1'⟩; (have hb1 : Below (w.heap.size + 1) (w.alloc (.cells #[.int .i64 2, .string cd, .string ⟨#[]⟩, .string nm, .int .i64 0, .int .i64 0, .int .i64 0, .int .i64 0, .int .i64 0, .int .i64 0, .int .i64 0] 24)) w1 := (by first | exact hb0.trans (hb1'.mono (by simp)) | exact hb0.drew.trans (hb1'.mono (by simp)))); clear hb1'))
  have HB : Hid (Below (w.heap.size + 1) (w.alloc (.cells #[.int .i64 2, .string cd, .string ⟨#[]⟩, .string nm, .int .i64 0, .int .i64 0, .int .i64 0, .int .i64 0, .int .i64 0, .int .i64 0, .int .i64 0] 24)) w1) := Lib.hid (by assumption)
  have u := box_below HB.out
  clear hb0 HU hq
  go_wp2_with (first
      | (go_at_call 31; with_reducible refine (raryear_yes _ (by omega)).mono ?_; rintro e wq ⟨rfl, rfl⟩)
      | (go_at_call 37; with_reducible refine (rarnumber_yes _ (by omega)).mono ?_; rintro e wq ⟨rfl, rfl⟩)
      | (go_at_call 35; with_reducible refine (rarpercent_yes _ (by omega)).mono ?_; rintro e wq ⟨rfl, rfl⟩)
      | (go_at_call 36; with_reducible refine (rarday_yes _ (by omega)).mono ?_; rintro e wq ⟨rfl, rfl⟩)
      | (go_at_call 34; with_reducible refine (rmValid_yes _ (by omega)).mono ?_; rintro e wq ⟨rfl, rfl⟩)
      | (go_at_call 32; with_reducible refine (rarcode_yes _ (by assumption)).mono ?_; rintro e wq ⟨rfl, hq⟩; (have hsz := HB.out.size); (rw [World.size_alloc] at hsz); replace HB := Lib.hid (HB.out.trans (hq.mono hsz)); clear hsz; have u := box_below HB.out; clear hq)
      | (go_at_call 33; refine (rclValid_new nm _ c3).mono ?_; rintro e wq ⟨rfl, hq⟩; (have hsz := HB.out.size); (rw [World.size_alloc] at hsz); replace HB := Lib.hid ((HB.out.alloc hsz _).trans (hq.mono (by rw [World.size_alloc]; omega))); clear hsz hq))
  go_ret
  exact ⟨rfl, (below_alloc w _).trans (HB.out.mono (Nat.le_succ _))⟩

set_option maxRecDepth 100000 in
set_option maxHeartbeats 4000000 in
theorem rpl_line (cd : ByteArray) (yr : Int) (am : Int) (c1 : isCodeB cd = true) (hy : 0 ≤ yr ∧ yr ≤ 99) (ha : 0 ≤ am ∧ am ≤ 1000000000000) (w : World) :
    Calls Tryz.prog 12 #[.agg #[.int .i64 3, .string cd, .string ⟨#[]⟩, .string ⟨#[]⟩, .int .i64 yr, .int .i64 am, .int .i64 0, .int .i64 0, .int .i64 0, .int .i64 0, .int .i64 0]] w fun e w' => e = .returned (.bool true) ∧ Below w.heap.size w w' := by
  have hq : ∀ W, (binOp .neq 24 (.agg #[.int .i64 3, .string cd, .string ⟨#[]⟩, .string ⟨#[]⟩, .int .i64 yr, .int .i64 am, .int .i64 0, .int .i64 0, .int .i64 0, .int .i64 0, .int .i64 0]) (.agg #[.int .i64 3, .string cd, .string ⟨#[]⟩, .string ⟨#[]⟩, .int .i64 yr, .int .i64 am, .int .i64 0, .int .i64 0, .int .i64 0, .int .i64 0, .int .i64 0])).run Tryz.prog W = .ok (.bool false) W := fun W => art_same W ⟨3, cd, ⟨#[]⟩, ⟨#[]⟩, yr, am, 0, 0, 0, 0, 0⟩
  have HU := Lib.hid (fun W => rused_3 cd ⟨#[]⟩ ⟨#[]⟩ yr am 0 0 0 0 0 W)
  have hyb : (yr == -1) = false := by rw [beq_eq_false_iff_ne]; omega
  go_enter Tryz.func12, Tryz.ntmps12
  go_upto_region 1 with fail
  have hb0 : Below (w.heap.size + 1) (w.alloc (.cells #[.int .i64 3, .string cd, .string ⟨#[]⟩, .string ⟨#[]⟩, .int .i64 yr, .int .i64 am, .int .i64 0, .int .i64 0, .int .i64 0, .int .i64 0, .int .i64 0] 24)) (w.alloc (.cells #[.int .i64 3, .string cd, .string ⟨#[]⟩, .string ⟨#[]⟩, .int .i64 yr, .int .i64 am, .int .i64 0, .int .i64 0, .int .i64 0, .int .i64 0, .int .i64 0] 24)) := Below.refl _ _
  go_region_held3 (fun W => ∀ j, W.cell? ⟨w.heap.size, j, none⟩ = #[.int .i64 3, .string cd, .string ⟨#[]⟩, .string ⟨#[]⟩, .int .i64 yr, .int .i64 am, .int .i64 0, .int .i64 0, .int .i64 0, .int .i64 0, .int .i64 0][j]?) (first | exact box_below (by assumption) | exact box_below (Below.drew (by assumption)))
    (first | (go_at_call 30; (with_reducible refine (HU.out _).mono ?_); rintro e w1 ⟨rfl, hb1'⟩; (have hb1 : Below (w.heap.size + 1) (w.alloc (.cells #[.int .i64 3, .string cd, .string ⟨#[]⟩, .string ⟨#[]⟩, .int .i64 yr, .int .i64 am, .int .i64 0, .int .i64 0, .int .i64 0, .int .i64 0, .int .i64 0] 24)) w1 := (by first | exact hb0.trans (hb1'.mono (by simp)) | exact hb0.drew.trans (hb1'.mono (by simp)))); clear hb1'))
  have HB : Hid (Below (w.heap.size + 1) (w.alloc (.cells #[.int .i64 3, .string cd, .string ⟨#[]⟩, .string ⟨#[]⟩, .int .i64 yr, .int .i64 am, .int .i64 0, .int .i64 0, .int .i64 0, .int .i64 0, .int .i64 0] 24)) w1) := Lib.hid (by assumption)
  have u := box_below HB.out
  clear hb0 HU hq
  go_wp2_with (first
      | (go_at_call 31; with_reducible refine (raryear_yes _ (by omega)).mono ?_; rintro e wq ⟨rfl, rfl⟩)
      | (go_at_call 37; with_reducible refine (rarnumber_yes _ (by omega)).mono ?_; rintro e wq ⟨rfl, rfl⟩)
      | (go_at_call 35; with_reducible refine (rarpercent_yes _ (by omega)).mono ?_; rintro e wq ⟨rfl, rfl⟩)
      | (go_at_call 36; with_reducible refine (rarday_yes _ (by omega)).mono ?_; rintro e wq ⟨rfl, rfl⟩)
      | (go_at_call 34; with_reducible refine (rmValid_yes _ (by omega)).mono ?_; rintro e wq ⟨rfl, rfl⟩)
      | (go_at_call 32; with_reducible refine (rarcode_yes _ (by assumption)).mono ?_; rintro e wq ⟨rfl, hq⟩; (have hsz := HB.out.size); (rw [World.size_alloc] at hsz); replace HB := Lib.hid (HB.out.trans (hq.mono hsz)); clear hsz; have u := box_below HB.out; clear hq))
  go_ret
  exact ⟨rfl, (below_alloc w _).trans (HB.out.mono (Nat.le_succ _))⟩

set_option maxRecDepth 100000 in
set_option maxHeartbeats 4000000 in
theorem rpl_ceiling (cd : ByteArray) (yr : Int) (am : Int) (c1 : isCodeB cd = true) (hs : yr = -1 ∨ 0 ≤ yr ∧ yr ≤ 99) (ha : 0 ≤ am ∧ am ≤ 1000000000000) (w : World) :
    Calls Tryz.prog 12 #[.agg #[.int .i64 4, .string cd, .string ⟨#[]⟩, .string ⟨#[]⟩, .int .i64 yr, .int .i64 am, .int .i64 0, .int .i64 0, .int .i64 0, .int .i64 0, .int .i64 0]] w fun e w' => e = .returned (.bool true) ∧ Below w.heap.size w w' := by
  have hq : ∀ W, (binOp .neq 24 (.agg #[.int .i64 4, .string cd, .string ⟨#[]⟩, .string ⟨#[]⟩, .int .i64 yr, .int .i64 am, .int .i64 0, .int .i64 0, .int .i64 0, .int .i64 0, .int .i64 0]) (.agg #[.int .i64 4, .string cd, .string ⟨#[]⟩, .string ⟨#[]⟩, .int .i64 yr, .int .i64 am, .int .i64 0, .int .i64 0, .int .i64 0, .int .i64 0, .int .i64 0])).run Tryz.prog W = .ok (.bool false) W := fun W => art_same W ⟨4, cd, ⟨#[]⟩, ⟨#[]⟩, yr, am, 0, 0, 0, 0, 0⟩
  have HU := Lib.hid (fun W => rused_4 cd ⟨#[]⟩ ⟨#[]⟩ yr am 0 0 0 0 0 W)

  go_enter Tryz.func12, Tryz.ntmps12
  go_upto_region 1 with fail
  have hb0 : Below (w.heap.size + 1) (w.alloc (.cells #[.int .i64 4, .string cd, .string ⟨#[]⟩, .string ⟨#[]⟩, .int .i64 yr, .int .i64 am, .int .i64 0, .int .i64 0, .int .i64 0, .int .i64 0, .int .i64 0] 24)) (w.alloc (.cells #[.int .i64 4, .string cd, .string ⟨#[]⟩, .string ⟨#[]⟩, .int .i64 yr, .int .i64 am, .int .i64 0, .int .i64 0, .int .i64 0, .int .i64 0, .int .i64 0] 24)) := Below.refl _ _
  go_region_held3 (fun W => ∀ j, W.cell? ⟨w.heap.size, j, none⟩ = #[.int .i64 4, .string cd, .string ⟨#[]⟩, .string ⟨#[]⟩, .int .i64 yr, .int .i64 am, .int .i64 0, .int .i64 0, .int .i64 0, .int .i64 0, .int .i64 0][j]?) (first | exact box_below (by assumption) | exact box_below (Below.drew (by assumption)))
    (first | (go_at_call 30; (with_reducible refine (HU.out _).mono ?_); rintro e w1 ⟨rfl, hb1'⟩; (have hb1 : Below (w.heap.size + 1) (w.alloc (.cells #[.int .i64 4, .string cd, .string ⟨#[]⟩, .string ⟨#[]⟩, .int .i64 yr, .int .i64 am, .int .i64 0, .int .i64 0, .int .i64 0, .int .i64 0, .int .i64 0] 24)) w1 := (by first | exact hb0.trans (hb1'.mono (by simp)) | exact hb0.drew.trans (hb1'.mono (by simp)))); clear hb1'))
  have HB : Hid (Below (w.heap.size + 1) (w.alloc (.cells #[.int .i64 4, .string cd, .string ⟨#[]⟩, .string ⟨#[]⟩, .int .i64 yr, .int .i64 am, .int .i64 0, .int .i64 0, .int .i64 0, .int .i64 0, .int .i64 0] 24)) w1) := Lib.hid (by assumption)
  have u := box_below HB.out
  clear hb0 HU hq
  rcases hs with rfl | hs
  · go_wp2_with (first
        | (go_at_call 31; with_reducible refine (raryear_yes _ (by omega)).mono ?_; rintro e wq ⟨rfl, rfl⟩)
        | (go_at_call 37; with_reducible refine (rarnumber_yes _ (by omega)).mono ?_; rintro e wq ⟨rfl, rfl⟩)
        | (go_at_call 35; with_reducible refine (rarpercent_yes _ (by omega)).mono ?_; rintro e wq ⟨rfl, rfl⟩)
        | (go_at_call 36; with_reducible refine (rarday_yes _ (by omega)).mono ?_; rintro e wq ⟨rfl, rfl⟩)
        | (go_at_call 34; with_reducible refine (rmValid_yes _ (by omega)).mono ?_; rintro e wq ⟨rfl, rfl⟩)
        | (go_at_call 32; with_reducible refine (rarcode_yes _ (by assumption)).mono ?_; rintro e wq ⟨rfl, hq⟩; (have hsz := HB.out.size); (rw [World.size_alloc] at hsz); replace HB := Lib.hid (HB.out.trans (hq.mono hsz)); clear hsz; have u := box_below HB.out; clear hq))
    go_ret
    exact ⟨rfl, (below_alloc w _).trans (HB.out.mono (Nat.le_succ _))⟩
  · have hsb : (yr == -1) = false := by rw [beq_eq_false_iff_ne]; omega
    go_wp2_with (first
        | (go_at_call 31; with_reducible refine (raryear_yes _ (by omega)).mono ?_; rintro e wq ⟨rfl, rfl⟩)
        | (go_at_call 37; with_reducible refine (rarnumber_yes _ (by omega)).mono ?_; rintro e wq ⟨rfl, rfl⟩)
        | (go_at_call 35; with_reducible refine (rarpercent_yes _ (by omega)).mono ?_; rintro e wq ⟨rfl, rfl⟩)
        | (go_at_call 36; with_reducible refine (rarday_yes _ (by omega)).mono ?_; rintro e wq ⟨rfl, rfl⟩)
        | (go_at_call 34; with_reducible refine (rmValid_yes _ (by omega)).mono ?_; rintro e wq ⟨rfl, rfl⟩)
        | (go_at_call 32; with_reducible refine (rarcode_yes _ (by assumption)).mono ?_; rintro e wq ⟨rfl, hq⟩; (have hsz := HB.out.size); (rw [World.size_alloc] at hsz); replace HB := Lib.hid (HB.out.trans (hq.mono hsz)); clear hsz; have u := box_below HB.out; clear hq))
    go_ret
    exact ⟨rfl, (below_alloc w _).trans (HB.out.mono (Nat.le_succ _))⟩

set_option maxRecDepth 100000 in
set_option maxHeartbeats 4000000 in
theorem rpl_floor (cd : ByteArray) (yr : Int) (am : Int) (c1 : isCodeB cd = true) (hs : yr = -1 ∨ 0 ≤ yr ∧ yr ≤ 99) (ha : 0 ≤ am ∧ am ≤ 1000000000000) (w : World) :
    Calls Tryz.prog 12 #[.agg #[.int .i64 5, .string cd, .string ⟨#[]⟩, .string ⟨#[]⟩, .int .i64 yr, .int .i64 am, .int .i64 0, .int .i64 0, .int .i64 0, .int .i64 0, .int .i64 0]] w fun e w' => e = .returned (.bool true) ∧ Below w.heap.size w w' := by
  have hq : ∀ W, (binOp .neq 24 (.agg #[.int .i64 5, .string cd, .string ⟨#[]⟩, .string ⟨#[]⟩, .int .i64 yr, .int .i64 am, .int .i64 0, .int .i64 0, .int .i64 0, .int .i64 0, .int .i64 0]) (.agg #[.int .i64 5, .string cd, .string ⟨#[]⟩, .string ⟨#[]⟩, .int .i64 yr, .int .i64 am, .int .i64 0, .int .i64 0, .int .i64 0, .int .i64 0, .int .i64 0])).run Tryz.prog W = .ok (.bool false) W := fun W => art_same W ⟨5, cd, ⟨#[]⟩, ⟨#[]⟩, yr, am, 0, 0, 0, 0, 0⟩
  have HU := Lib.hid (fun W => rused_5 cd ⟨#[]⟩ ⟨#[]⟩ yr am 0 0 0 0 0 W)

  go_enter Tryz.func12, Tryz.ntmps12
  go_upto_region 1 with fail
  have hb0 : Below (w.heap.size + 1) (w.alloc (.cells #[.int .i64 5, .string cd, .string ⟨#[]⟩, .string ⟨#[]⟩, .int .i64 yr, .int .i64 am, .int .i64 0, .int .i64 0, .int .i64 0, .int .i64 0, .int .i64 0] 24)) (w.alloc (.cells #[.int .i64 5, .string cd, .string ⟨#[]⟩, .string ⟨#[]⟩, .int .i64 yr, .int .i64 am, .int .i64 0, .int .i64 0, .int .i64 0, .int .i64 0, .int .i64 0] 24)) := Below.refl _ _
  go_region_held3 (fun W => ∀ j, W.cell? ⟨w.heap.size, j, none⟩ = #[.int .i64 5, .string cd, .string ⟨#[]⟩, .string ⟨#[]⟩, .int .i64 yr, .int .i64 am, .int .i64 0, .int .i64 0, .int .i64 0, .int .i64 0, .int .i64 0][j]?) (first | exact box_below (by assumption) | exact box_below (Below.drew (by assumption)))
    (first | (go_at_call 30; (with_reducible refine (HU.out _).mono ?_); rintro e w1 ⟨rfl, hb1'⟩; (have hb1 : Below (w.heap.size + 1) (w.alloc (.cells #[.int .i64 5, .string cd, .string ⟨#[]⟩, .string ⟨#[]⟩, .int .i64 yr, .int .i64 am, .int .i64 0, .int .i64 0, .int .i64 0, .int .i64 0, .int .i64 0] 24)) w1 := (by first | exact hb0.trans (hb1'.mono (by simp)) | exact hb0.drew.trans (hb1'.mono (by simp)))); clear hb1'))
  have HB : Hid (Below (w.heap.size + 1) (w.alloc (.cells #[.int .i64 5, .string cd, .string ⟨#[]⟩, .string ⟨#[]⟩, .int .i64 yr, .int .i64 am, .int .i64 0, .int .i64 0, .int .i64 0, .int .i64 0, .int .i64 0] 24)) w1) := Lib.hid (by assumption)
  have u := box_below HB.out
  clear hb0 HU hq
  rcases hs with rfl | hs
  · go_wp2_with (first
        | (go_at_call 31; with_reducible refine (raryear_yes _ (by omega)).mono ?_; rintro e wq ⟨rfl, rfl⟩)
        | (go_at_call 37; with_reducible refine (rarnumber_yes _ (by omega)).mono ?_; rintro e wq ⟨rfl, rfl⟩)
        | (go_at_call 35; with_reducible refine (rarpercent_yes _ (by omega)).mono ?_; rintro e wq ⟨rfl, rfl⟩)
        | (go_at_call 36; with_reducible refine (rarday_yes _ (by omega)).mono ?_; rintro e wq ⟨rfl, rfl⟩)
        | (go_at_call 34; with_reducible refine (rmValid_yes _ (by omega)).mono ?_; rintro e wq ⟨rfl, rfl⟩)
        | (go_at_call 32; with_reducible refine (rarcode_yes _ (by assumption)).mono ?_; rintro e wq ⟨rfl, hq⟩; (have hsz := HB.out.size); (rw [World.size_alloc] at hsz); replace HB := Lib.hid (HB.out.trans (hq.mono hsz)); clear hsz; have u := box_below HB.out; clear hq))
    go_ret
    exact ⟨rfl, (below_alloc w _).trans (HB.out.mono (Nat.le_succ _))⟩
  · have hsb : (yr == -1) = false := by rw [beq_eq_false_iff_ne]; omega
    go_wp2_with (first
        | (go_at_call 31; with_reducible refine (raryear_yes _ (by omega)).mono ?_; rintro e wq ⟨rfl, rfl⟩)
        | (go_at_call 37; with_reducible refine (rarnumber_yes _ (by omega)).mono ?_; rintro e wq ⟨rfl, rfl⟩)
        | (go_at_call 35; with_reducible refine (rarpercent_yes _ (by omega)).mono ?_; rintro e wq ⟨rfl, rfl⟩)
        | (go_at_call 36; with_reducible refine (rarday_yes _ (by omega)).mono ?_; rintro e wq ⟨rfl, rfl⟩)
        | (go_at_call 34; with_reducible refine (rmValid_yes _ (by omega)).mono ?_; rintro e wq ⟨rfl, rfl⟩)
        | (go_at_call 32; with_reducible refine (rarcode_yes _ (by assumption)).mono ?_; rintro e wq ⟨rfl, hq⟩; (have hsz := HB.out.size); (rw [World.size_alloc] at hsz); replace HB := Lib.hid (HB.out.trans (hq.mono hsz)); clear hsz; have u := box_below HB.out; clear hq))
    go_ret
    exact ⟨rfl, (below_alloc w _).trans (HB.out.mono (Nat.le_succ _))⟩

set_option maxRecDepth 100000 in
set_option maxHeartbeats 4000000 in
theorem rpl_earmark (cd : ByteArray) (ot : ByteArray) (pc : Int) (c1 : isCodeB cd = true) (c2 : isCodeB ot = true) (hp : 0 ≤ pc ∧ pc ≤ 100) (w : World) :
    Calls Tryz.prog 12 #[.agg #[.int .i64 6, .string cd, .string ot, .string ⟨#[]⟩, .int .i64 0, .int .i64 0, .int .i64 pc, .int .i64 0, .int .i64 0, .int .i64 0, .int .i64 0]] w fun e w' => e = .returned (.bool true) ∧ Below w.heap.size w w' := by
  have hq : ∀ W, (binOp .neq 24 (.agg #[.int .i64 6, .string cd, .string ot, .string ⟨#[]⟩, .int .i64 0, .int .i64 0, .int .i64 pc, .int .i64 0, .int .i64 0, .int .i64 0, .int .i64 0]) (.agg #[.int .i64 6, .string cd, .string ot, .string ⟨#[]⟩, .int .i64 0, .int .i64 0, .int .i64 pc, .int .i64 0, .int .i64 0, .int .i64 0, .int .i64 0])).run Tryz.prog W = .ok (.bool false) W := fun W => art_same W ⟨6, cd, ot, ⟨#[]⟩, 0, 0, pc, 0, 0, 0, 0⟩
  have HU := Lib.hid (fun W => rused_6 cd ot ⟨#[]⟩ 0 0 pc 0 0 0 0 W)

  go_enter Tryz.func12, Tryz.ntmps12
  go_upto_region 1 with fail
  have hb0 : Below (w.heap.size + 1) (w.alloc (.cells #[.int .i64 6, .string cd, .string ot, .string ⟨#[]⟩, .int .i64 0, .int .i64 0, .int .i64 pc, .int .i64 0, .int .i64 0, .int .i64 0, .int .i64 0] 24)) (w.alloc (.cells #[.int .i64 6, .string cd, .string ot, .string ⟨#[]⟩, .int .i64 0, .int .i64 0, .int .i64 pc, .int .i64 0, .int .i64 0, .int .i64 0, .int .i64 0] 24)) := Below.refl _ _
  go_region_held3 (fun W => ∀ j, W.cell? ⟨w.heap.size, j, none⟩ = #[.int .i64 6, .string cd, .string ot, .string ⟨#[]⟩, .int .i64 0, .int .i64 0, .int .i64 pc, .int .i64 0, .int .i64 0, .int .i64 0, .int .i64 0][j]?) (first | exact box_below (by assumption) | exact box_below (Below.drew (by assumption)))
    (first | (go_at_call 30; (with_reducible refine (HU.out _).mono ?_); rintro e w1 ⟨rfl, hb1'⟩; (have hb1 : Below (w.heap.size + 1) (w.alloc (.cells #[.int .i64 6, .string cd, .string ot, .string ⟨#[]⟩, .int .i64 0, .int .i64 0, .int .i64 pc, .int .i64 0, .int .i64 0, .int .i64 0, .int .i64 0] 24)) w1 := (by first | exact hb0.trans (hb1'.mono (by simp)) | exact hb0.drew.trans (hb1'.mono (by simp)))); clear hb1'))
  have HB : Hid (Below (w.heap.size + 1) (w.alloc (.cells #[.int .i64 6, .string cd, .string ot, .string ⟨#[]⟩, .int .i64 0, .int .i64 0, .int .i64 pc, .int .i64 0, .int .i64 0, .int .i64 0, .int .i64 0] 24)) w1) := Lib.hid (by assumption)
  have u := box_below HB.out
  clear hb0 HU hq
  go_wp2_with (first
      | (go_at_call 31; with_reducible refine (raryear_yes _ (by omega)).mono ?_; rintro e wq ⟨rfl, rfl⟩)
      | (go_at_call 37; with_reducible refine (rarnumber_yes _ (by omega)).mono ?_; rintro e wq ⟨rfl, rfl⟩)
      | (go_at_call 35; with_reducible refine (rarpercent_yes _ (by omega)).mono ?_; rintro e wq ⟨rfl, rfl⟩)
      | (go_at_call 36; with_reducible refine (rarday_yes _ (by omega)).mono ?_; rintro e wq ⟨rfl, rfl⟩)
      | (go_at_call 34; with_reducible refine (rmValid_yes _ (by omega)).mono ?_; rintro e wq ⟨rfl, rfl⟩)
      | (go_at_call 32; with_reducible refine (rarcode_yes _ (by assumption)).mono ?_; rintro e wq ⟨rfl, hq⟩; (have hsz := HB.out.size); (rw [World.size_alloc] at hsz); replace HB := Lib.hid (HB.out.trans (hq.mono hsz)); clear hsz; have u := box_below HB.out; clear hq))
  go_ret
  exact ⟨rfl, (below_alloc w _).trans (HB.out.mono (Nat.le_succ _))⟩

set_option maxRecDepth 100000 in
set_option maxHeartbeats 4000000 in
theorem rpl_wait (cd : ByteArray) (yr : Int) (am : Int) (dy : Int) (c1 : isCodeB cd = true) (hy : 0 ≤ yr ∧ yr ≤ 99) (ha : 0 ≤ am ∧ am ≤ 1000000000000) (hd : 0 ≤ dy ∧ dy ≤ 35990) (w : World) :
    Calls Tryz.prog 12 #[.agg #[.int .i64 7, .string cd, .string ⟨#[]⟩, .string ⟨#[]⟩, .int .i64 yr, .int .i64 am, .int .i64 0, .int .i64 0, .int .i64 dy, .int .i64 0, .int .i64 0]] w fun e w' => e = .returned (.bool true) ∧ Below w.heap.size w w' := by
  have hq : ∀ W, (binOp .neq 24 (.agg #[.int .i64 7, .string cd, .string ⟨#[]⟩, .string ⟨#[]⟩, .int .i64 yr, .int .i64 am, .int .i64 0, .int .i64 0, .int .i64 dy, .int .i64 0, .int .i64 0]) (.agg #[.int .i64 7, .string cd, .string ⟨#[]⟩, .string ⟨#[]⟩, .int .i64 yr, .int .i64 am, .int .i64 0, .int .i64 0, .int .i64 dy, .int .i64 0, .int .i64 0])).run Tryz.prog W = .ok (.bool false) W := fun W => art_same W ⟨7, cd, ⟨#[]⟩, ⟨#[]⟩, yr, am, 0, 0, dy, 0, 0⟩
  have HU := Lib.hid (fun W => rused_7 cd ⟨#[]⟩ ⟨#[]⟩ yr am 0 0 dy 0 0 W)
  have hyb : (yr == -1) = false := by rw [beq_eq_false_iff_ne]; omega
  go_enter Tryz.func12, Tryz.ntmps12
  go_upto_region 1 with fail
  have hb0 : Below (w.heap.size + 1) (w.alloc (.cells #[.int .i64 7, .string cd, .string ⟨#[]⟩, .string ⟨#[]⟩, .int .i64 yr, .int .i64 am, .int .i64 0, .int .i64 0, .int .i64 dy, .int .i64 0, .int .i64 0] 24)) (w.alloc (.cells #[.int .i64 7, .string cd, .string ⟨#[]⟩, .string ⟨#[]⟩, .int .i64 yr, .int .i64 am, .int .i64 0, .int .i64 0, .int .i64 dy, .int .i64 0, .int .i64 0] 24)) := Below.refl _ _
  go_region_held3 (fun W => ∀ j, W.cell? ⟨w.heap.size, j, none⟩ = #[.int .i64 7, .string cd, .string ⟨#[]⟩, .string ⟨#[]⟩, .int .i64 yr, .int .i64 am, .int .i64 0, .int .i64 0, .int .i64 dy, .int .i64 0, .int .i64 0][j]?) (first | exact box_below (by assumption) | exact box_below (Below.drew (by assumption)))
    (first | (go_at_call 30; (with_reducible refine (HU.out _).mono ?_); rintro e w1 ⟨rfl, hb1'⟩; (have hb1 : Below (w.heap.size + 1) (w.alloc (.cells #[.int .i64 7, .string cd, .string ⟨#[]⟩, .string ⟨#[]⟩, .int .i64 yr, .int .i64 am, .int .i64 0, .int .i64 0, .int .i64 dy, .int .i64 0, .int .i64 0] 24)) w1 := (by first | exact hb0.trans (hb1'.mono (by simp)) | exact hb0.drew.trans (hb1'.mono (by simp)))); clear hb1'))
  have HB : Hid (Below (w.heap.size + 1) (w.alloc (.cells #[.int .i64 7, .string cd, .string ⟨#[]⟩, .string ⟨#[]⟩, .int .i64 yr, .int .i64 am, .int .i64 0, .int .i64 0, .int .i64 dy, .int .i64 0, .int .i64 0] 24)) w1) := Lib.hid (by assumption)
  have u := box_below HB.out
  clear hb0 HU hq
  go_wp2_with (first
      | (go_at_call 31; with_reducible refine (raryear_yes _ (by omega)).mono ?_; rintro e wq ⟨rfl, rfl⟩)
      | (go_at_call 37; with_reducible refine (rarnumber_yes _ (by omega)).mono ?_; rintro e wq ⟨rfl, rfl⟩)
      | (go_at_call 35; with_reducible refine (rarpercent_yes _ (by omega)).mono ?_; rintro e wq ⟨rfl, rfl⟩)
      | (go_at_call 36; with_reducible refine (rarday_yes _ (by omega)).mono ?_; rintro e wq ⟨rfl, rfl⟩)
      | (go_at_call 34; with_reducible refine (rmValid_yes _ (by omega)).mono ?_; rintro e wq ⟨rfl, rfl⟩)
      | (go_at_call 32; with_reducible refine (rarcode_yes _ (by assumption)).mono ?_; rintro e wq ⟨rfl, hq⟩; (have hsz := HB.out.size); (rw [World.size_alloc] at hsz); replace HB := Lib.hid (HB.out.trans (hq.mono hsz)); clear hsz; have u := box_below HB.out; clear hq))
  go_ret
  exact ⟨rfl, (below_alloc w _).trans (HB.out.mono (Nat.le_succ _))⟩

set_option maxRecDepth 100000 in
set_option maxHeartbeats 4000000 in
theorem rpl_reach (cd : ByteArray) (ot : ByteArray) (yr : Int) (am : Int) (ls : Int) (c1 : isCodeB cd = true) (c2 : isCodeB ot = true) (hy : 0 ≤ yr ∧ yr ≤ 99) (ha : 0 ≤ am ∧ am ≤ 1000000000000) (hl : 0 ≤ ls ∧ ls ≤ 1000000000000) (w : World) :
    Calls Tryz.prog 12 #[.agg #[.int .i64 8, .string cd, .string ot, .string ⟨#[]⟩, .int .i64 yr, .int .i64 am, .int .i64 0, .int .i64 0, .int .i64 0, .int .i64 ls, .int .i64 0]] w fun e w' => e = .returned (.bool true) ∧ Below w.heap.size w w' := by
  have hq : ∀ W, (binOp .neq 24 (.agg #[.int .i64 8, .string cd, .string ot, .string ⟨#[]⟩, .int .i64 yr, .int .i64 am, .int .i64 0, .int .i64 0, .int .i64 0, .int .i64 ls, .int .i64 0]) (.agg #[.int .i64 8, .string cd, .string ot, .string ⟨#[]⟩, .int .i64 yr, .int .i64 am, .int .i64 0, .int .i64 0, .int .i64 0, .int .i64 ls, .int .i64 0])).run Tryz.prog W = .ok (.bool false) W := fun W => art_same W ⟨8, cd, ot, ⟨#[]⟩, yr, am, 0, 0, 0, ls, 0⟩
  have HU := Lib.hid (fun W => rused_8 cd ot ⟨#[]⟩ yr am 0 0 0 ls 0 W)
  have hyb : (yr == -1) = false := by rw [beq_eq_false_iff_ne]; omega
  go_enter Tryz.func12, Tryz.ntmps12
  go_upto_region 1 with fail
  have hb0 : Below (w.heap.size + 1) (w.alloc (.cells #[.int .i64 8, .string cd, .string ot, .string ⟨#[]⟩, .int .i64 yr, .int .i64 am, .int .i64 0, .int .i64 0, .int .i64 0, .int .i64 ls, .int .i64 0] 24)) (w.alloc (.cells #[.int .i64 8, .string cd, .string ot, .string ⟨#[]⟩, .int .i64 yr, .int .i64 am, .int .i64 0, .int .i64 0, .int .i64 0, .int .i64 ls, .int .i64 0] 24)) := Below.refl _ _
  go_region_held3 (fun W => ∀ j, W.cell? ⟨w.heap.size, j, none⟩ = #[.int .i64 8, .string cd, .string ot, .string ⟨#[]⟩, .int .i64 yr, .int .i64 am, .int .i64 0, .int .i64 0, .int .i64 0, .int .i64 ls, .int .i64 0][j]?) (first | exact box_below (by assumption) | exact box_below (Below.drew (by assumption)))
    (first | (go_at_call 30; (with_reducible refine (HU.out _).mono ?_); rintro e w1 ⟨rfl, hb1'⟩; (have hb1 : Below (w.heap.size + 1) (w.alloc (.cells #[.int .i64 8, .string cd, .string ot, .string ⟨#[]⟩, .int .i64 yr, .int .i64 am, .int .i64 0, .int .i64 0, .int .i64 0, .int .i64 ls, .int .i64 0] 24)) w1 := (by first | exact hb0.trans (hb1'.mono (by simp)) | exact hb0.drew.trans (hb1'.mono (by simp)))); clear hb1'))
  have HB : Hid (Below (w.heap.size + 1) (w.alloc (.cells #[.int .i64 8, .string cd, .string ot, .string ⟨#[]⟩, .int .i64 yr, .int .i64 am, .int .i64 0, .int .i64 0, .int .i64 0, .int .i64 ls, .int .i64 0] 24)) w1) := Lib.hid (by assumption)
  have u := box_below HB.out
  clear hb0 HU hq
  go_wp2_with (first
      | (go_at_call 31; with_reducible refine (raryear_yes _ (by omega)).mono ?_; rintro e wq ⟨rfl, rfl⟩)
      | (go_at_call 37; with_reducible refine (rarnumber_yes _ (by omega)).mono ?_; rintro e wq ⟨rfl, rfl⟩)
      | (go_at_call 35; with_reducible refine (rarpercent_yes _ (by omega)).mono ?_; rintro e wq ⟨rfl, rfl⟩)
      | (go_at_call 36; with_reducible refine (rarday_yes _ (by omega)).mono ?_; rintro e wq ⟨rfl, rfl⟩)
      | (go_at_call 34; with_reducible refine (rmValid_yes _ (by omega)).mono ?_; rintro e wq ⟨rfl, rfl⟩)
      | (go_at_call 32; with_reducible refine (rarcode_yes _ (by assumption)).mono ?_; rintro e wq ⟨rfl, hq⟩; (have hsz := HB.out.size); (rw [World.size_alloc] at hsz); replace HB := Lib.hid (HB.out.trans (hq.mono hsz)); clear hsz; have u := box_below HB.out; clear hq))
  go_ret
  exact ⟨rfl, (below_alloc w _).trans (HB.out.mono (Nat.le_succ _))⟩

set_option maxRecDepth 100000 in
set_option maxHeartbeats 4000000 in
theorem rpl_rule (cd : ByteArray) (ot : ByteArray) (pc : Int) (nu : Int) (c1 : isCodeB cd = true) (c2 : isCodeB ot = true) (hn : 1 ≤ nu ∧ nu ≤ 1000000) (hp : 0 ≤ pc ∧ pc ≤ 100) (w : World) :
    Calls Tryz.prog 12 #[.agg #[.int .i64 9, .string cd, .string ot, .string ⟨#[]⟩, .int .i64 0, .int .i64 0, .int .i64 pc, .int .i64 nu, .int .i64 0, .int .i64 0, .int .i64 0]] w fun e w' => e = .returned (.bool true) ∧ Below w.heap.size w w' := by
  have hq : ∀ W, (binOp .neq 24 (.agg #[.int .i64 9, .string cd, .string ot, .string ⟨#[]⟩, .int .i64 0, .int .i64 0, .int .i64 pc, .int .i64 nu, .int .i64 0, .int .i64 0, .int .i64 0]) (.agg #[.int .i64 9, .string cd, .string ot, .string ⟨#[]⟩, .int .i64 0, .int .i64 0, .int .i64 pc, .int .i64 nu, .int .i64 0, .int .i64 0, .int .i64 0])).run Tryz.prog W = .ok (.bool false) W := fun W => art_same W ⟨9, cd, ot, ⟨#[]⟩, 0, 0, pc, nu, 0, 0, 0⟩
  have HU := Lib.hid (fun W => rused_9 cd ot ⟨#[]⟩ 0 0 pc nu 0 0 0 W)

  go_enter Tryz.func12, Tryz.ntmps12
  go_upto_region 1 with fail
  have hb0 : Below (w.heap.size + 1) (w.alloc (.cells #[.int .i64 9, .string cd, .string ot, .string ⟨#[]⟩, .int .i64 0, .int .i64 0, .int .i64 pc, .int .i64 nu, .int .i64 0, .int .i64 0, .int .i64 0] 24)) (w.alloc (.cells #[.int .i64 9, .string cd, .string ot, .string ⟨#[]⟩, .int .i64 0, .int .i64 0, .int .i64 pc, .int .i64 nu, .int .i64 0, .int .i64 0, .int .i64 0] 24)) := Below.refl _ _
  go_region_held3 (fun W => ∀ j, W.cell? ⟨w.heap.size, j, none⟩ = #[.int .i64 9, .string cd, .string ot, .string ⟨#[]⟩, .int .i64 0, .int .i64 0, .int .i64 pc, .int .i64 nu, .int .i64 0, .int .i64 0, .int .i64 0][j]?) (first | exact box_below (by assumption) | exact box_below (Below.drew (by assumption)))
    (first | (go_at_call 30; (with_reducible refine (HU.out _).mono ?_); rintro e w1 ⟨rfl, hb1'⟩; (have hb1 : Below (w.heap.size + 1) (w.alloc (.cells #[.int .i64 9, .string cd, .string ot, .string ⟨#[]⟩, .int .i64 0, .int .i64 0, .int .i64 pc, .int .i64 nu, .int .i64 0, .int .i64 0, .int .i64 0] 24)) w1 := (by first | exact hb0.trans (hb1'.mono (by simp)) | exact hb0.drew.trans (hb1'.mono (by simp)))); clear hb1'))
  have HB : Hid (Below (w.heap.size + 1) (w.alloc (.cells #[.int .i64 9, .string cd, .string ot, .string ⟨#[]⟩, .int .i64 0, .int .i64 0, .int .i64 pc, .int .i64 nu, .int .i64 0, .int .i64 0, .int .i64 0] 24)) w1) := Lib.hid (by assumption)
  have u := box_below HB.out
  clear hb0 HU hq
  go_wp2_with (first
      | (go_at_call 31; with_reducible refine (raryear_yes _ (by omega)).mono ?_; rintro e wq ⟨rfl, rfl⟩)
      | (go_at_call 37; with_reducible refine (rarnumber_yes _ (by omega)).mono ?_; rintro e wq ⟨rfl, rfl⟩)
      | (go_at_call 35; with_reducible refine (rarpercent_yes _ (by omega)).mono ?_; rintro e wq ⟨rfl, rfl⟩)
      | (go_at_call 36; with_reducible refine (rarday_yes _ (by omega)).mono ?_; rintro e wq ⟨rfl, rfl⟩)
      | (go_at_call 34; with_reducible refine (rmValid_yes _ (by omega)).mono ?_; rintro e wq ⟨rfl, rfl⟩)
      | (go_at_call 32; with_reducible refine (rarcode_yes _ (by assumption)).mono ?_; rintro e wq ⟨rfl, hq⟩; (have hsz := HB.out.size); (rw [World.size_alloc] at hsz); replace HB := Lib.hid (HB.out.trans (hq.mono hsz)); clear hsz; have u := box_below HB.out; clear hq))
  go_ret
  exact ⟨rfl, (below_alloc w _).trans (HB.out.mono (Nat.le_succ _))⟩

set_option maxRecDepth 100000 in
set_option maxHeartbeats 4000000 in
theorem rpl_aline (cd : ByteArray) (yr : Int) (am : Int) (nu : Int) (dy : Int) (c1 : isCodeB cd = true) (hy : 0 ≤ yr ∧ yr ≤ 99) (ha : 0 ≤ am ∧ am ≤ 1000000000000) (hd : 0 ≤ dy ∧ dy ≤ 35990) (hn : 1 ≤ nu ∧ nu ≤ 1000000) (w : World) :
    Calls Tryz.prog 12 #[.agg #[.int .i64 10, .string cd, .string ⟨#[]⟩, .string ⟨#[]⟩, .int .i64 yr, .int .i64 am, .int .i64 0, .int .i64 nu, .int .i64 dy, .int .i64 0, .int .i64 1]] w fun e w' => e = .returned (.bool true) ∧ Below w.heap.size w w' := by
  have hq : ∀ W, (binOp .neq 24 (.agg #[.int .i64 10, .string cd, .string ⟨#[]⟩, .string ⟨#[]⟩, .int .i64 yr, .int .i64 am, .int .i64 0, .int .i64 nu, .int .i64 dy, .int .i64 0, .int .i64 1]) (.agg #[.int .i64 10, .string cd, .string ⟨#[]⟩, .string ⟨#[]⟩, .int .i64 yr, .int .i64 am, .int .i64 0, .int .i64 nu, .int .i64 dy, .int .i64 0, .int .i64 1])).run Tryz.prog W = .ok (.bool false) W := fun W => art_same W ⟨10, cd, ⟨#[]⟩, ⟨#[]⟩, yr, am, 0, nu, dy, 0, 1⟩
  have HU := Lib.hid (fun W => rused_10 cd ⟨#[]⟩ ⟨#[]⟩ yr am 0 nu dy 0 1 W)
  have hyb : (yr == -1) = false := by rw [beq_eq_false_iff_ne]; omega
  go_enter Tryz.func12, Tryz.ntmps12
  go_upto_region 1 with fail
  have hb0 : Below (w.heap.size + 1) (w.alloc (.cells #[.int .i64 10, .string cd, .string ⟨#[]⟩, .string ⟨#[]⟩, .int .i64 yr, .int .i64 am, .int .i64 0, .int .i64 nu, .int .i64 dy, .int .i64 0, .int .i64 1] 24)) (w.alloc (.cells #[.int .i64 10, .string cd, .string ⟨#[]⟩, .string ⟨#[]⟩, .int .i64 yr, .int .i64 am, .int .i64 0, .int .i64 nu, .int .i64 dy, .int .i64 0, .int .i64 1] 24)) := Below.refl _ _
  go_region_held3 (fun W => ∀ j, W.cell? ⟨w.heap.size, j, none⟩ = #[.int .i64 10, .string cd, .string ⟨#[]⟩, .string ⟨#[]⟩, .int .i64 yr, .int .i64 am, .int .i64 0, .int .i64 nu, .int .i64 dy, .int .i64 0, .int .i64 1][j]?) (first | exact box_below (by assumption) | exact box_below (Below.drew (by assumption)))
    (first | (go_at_call 30; (with_reducible refine (HU.out _).mono ?_); rintro e w1 ⟨rfl, hb1'⟩; (have hb1 : Below (w.heap.size + 1) (w.alloc (.cells #[.int .i64 10, .string cd, .string ⟨#[]⟩, .string ⟨#[]⟩, .int .i64 yr, .int .i64 am, .int .i64 0, .int .i64 nu, .int .i64 dy, .int .i64 0, .int .i64 1] 24)) w1 := (by first | exact hb0.trans (hb1'.mono (by simp)) | exact hb0.drew.trans (hb1'.mono (by simp)))); clear hb1'))
  have HB : Hid (Below (w.heap.size + 1) (w.alloc (.cells #[.int .i64 10, .string cd, .string ⟨#[]⟩, .string ⟨#[]⟩, .int .i64 yr, .int .i64 am, .int .i64 0, .int .i64 nu, .int .i64 dy, .int .i64 0, .int .i64 1] 24)) w1) := Lib.hid (by assumption)
  have u := box_below HB.out
  clear hb0 HU hq
  go_wp2_with (first
      | (go_at_call 31; with_reducible refine (raryear_yes _ (by omega)).mono ?_; rintro e wq ⟨rfl, rfl⟩)
      | (go_at_call 37; with_reducible refine (rarnumber_yes _ (by omega)).mono ?_; rintro e wq ⟨rfl, rfl⟩)
      | (go_at_call 35; with_reducible refine (rarpercent_yes _ (by omega)).mono ?_; rintro e wq ⟨rfl, rfl⟩)
      | (go_at_call 36; with_reducible refine (rarday_yes _ (by omega)).mono ?_; rintro e wq ⟨rfl, rfl⟩)
      | (go_at_call 34; with_reducible refine (rmValid_yes _ (by omega)).mono ?_; rintro e wq ⟨rfl, rfl⟩)
      | (go_at_call 32; with_reducible refine (rarcode_yes _ (by assumption)).mono ?_; rintro e wq ⟨rfl, hq⟩; (have hsz := HB.out.size); (rw [World.size_alloc] at hsz); replace HB := Lib.hid (HB.out.trans (hq.mono hsz)); clear hsz; have u := box_below HB.out; clear hq))
  go_ret
  exact ⟨rfl, (below_alloc w _).trans (HB.out.mono (Nat.le_succ _))⟩

set_option maxRecDepth 100000 in
set_option maxHeartbeats 4000000 in
theorem rpl_aceiling (cd : ByteArray) (yr : Int) (am : Int) (nu : Int) (dy : Int) (c1 : isCodeB cd = true) (hs : yr = -1 ∨ 0 ≤ yr ∧ yr ≤ 99) (ha : am = -1 ∨ 0 ≤ am ∧ am ≤ 1000000000000) (hd : 0 ≤ dy ∧ dy ≤ 35990) (hn : 1 ≤ nu ∧ nu ≤ 1000000) (w : World) :
    Calls Tryz.prog 12 #[.agg #[.int .i64 10, .string cd, .string ⟨#[]⟩, .string ⟨#[]⟩, .int .i64 yr, .int .i64 am, .int .i64 0, .int .i64 nu, .int .i64 dy, .int .i64 0, .int .i64 2]] w fun e w' => e = .returned (.bool true) ∧ Below w.heap.size w w' := by
  have hq : ∀ W, (binOp .neq 24 (.agg #[.int .i64 10, .string cd, .string ⟨#[]⟩, .string ⟨#[]⟩, .int .i64 yr, .int .i64 am, .int .i64 0, .int .i64 nu, .int .i64 dy, .int .i64 0, .int .i64 2]) (.agg #[.int .i64 10, .string cd, .string ⟨#[]⟩, .string ⟨#[]⟩, .int .i64 yr, .int .i64 am, .int .i64 0, .int .i64 nu, .int .i64 dy, .int .i64 0, .int .i64 2])).run Tryz.prog W = .ok (.bool false) W := fun W => art_same W ⟨10, cd, ⟨#[]⟩, ⟨#[]⟩, yr, am, 0, nu, dy, 0, 2⟩
  have HU := Lib.hid (fun W => rused_10 cd ⟨#[]⟩ ⟨#[]⟩ yr am 0 nu dy 0 2 W)

  go_enter Tryz.func12, Tryz.ntmps12
  go_upto_region 1 with fail
  have hb0 : Below (w.heap.size + 1) (w.alloc (.cells #[.int .i64 10, .string cd, .string ⟨#[]⟩, .string ⟨#[]⟩, .int .i64 yr, .int .i64 am, .int .i64 0, .int .i64 nu, .int .i64 dy, .int .i64 0, .int .i64 2] 24)) (w.alloc (.cells #[.int .i64 10, .string cd, .string ⟨#[]⟩, .string ⟨#[]⟩, .int .i64 yr, .int .i64 am, .int .i64 0, .int .i64 nu, .int .i64 dy, .int .i64 0, .int .i64 2] 24)) := Below.refl _ _
  go_region_held3 (fun W => ∀ j, W.cell? ⟨w.heap.size, j, none⟩ = #[.int .i64 10, .string cd, .string ⟨#[]⟩, .string ⟨#[]⟩, .int .i64 yr, .int .i64 am, .int .i64 0, .int .i64 nu, .int .i64 dy, .int .i64 0, .int .i64 2][j]?) (first | exact box_below (by assumption) | exact box_below (Below.drew (by assumption)))
    (first | (go_at_call 30; (with_reducible refine (HU.out _).mono ?_); rintro e w1 ⟨rfl, hb1'⟩; (have hb1 : Below (w.heap.size + 1) (w.alloc (.cells #[.int .i64 10, .string cd, .string ⟨#[]⟩, .string ⟨#[]⟩, .int .i64 yr, .int .i64 am, .int .i64 0, .int .i64 nu, .int .i64 dy, .int .i64 0, .int .i64 2] 24)) w1 := (by first | exact hb0.trans (hb1'.mono (by simp)) | exact hb0.drew.trans (hb1'.mono (by simp)))); clear hb1'))
  have HB : Hid (Below (w.heap.size + 1) (w.alloc (.cells #[.int .i64 10, .string cd, .string ⟨#[]⟩, .string ⟨#[]⟩, .int .i64 yr, .int .i64 am, .int .i64 0, .int .i64 nu, .int .i64 dy, .int .i64 0, .int .i64 2] 24)) w1) := Lib.hid (by assumption)
  have u := box_below HB.out
  clear hb0 HU hq
  rcases hs with rfl | hs
  · rcases ha with rfl | ha
    · go_wp2_with (first
          | (go_at_call 31; with_reducible refine (raryear_yes _ (by omega)).mono ?_; rintro e wq ⟨rfl, rfl⟩)
          | (go_at_call 37; with_reducible refine (rarnumber_yes _ (by omega)).mono ?_; rintro e wq ⟨rfl, rfl⟩)
          | (go_at_call 35; with_reducible refine (rarpercent_yes _ (by omega)).mono ?_; rintro e wq ⟨rfl, rfl⟩)
          | (go_at_call 36; with_reducible refine (rarday_yes _ (by omega)).mono ?_; rintro e wq ⟨rfl, rfl⟩)
          | (go_at_call 34; with_reducible refine (rmValid_yes _ (by omega)).mono ?_; rintro e wq ⟨rfl, rfl⟩)
          | (go_at_call 32; with_reducible refine (rarcode_yes _ (by assumption)).mono ?_; rintro e wq ⟨rfl, hq⟩; (have hsz := HB.out.size); (rw [World.size_alloc] at hsz); replace HB := Lib.hid (HB.out.trans (hq.mono hsz)); clear hsz; have u := box_below HB.out; clear hq))
      go_ret
      exact ⟨rfl, (below_alloc w _).trans (HB.out.mono (Nat.le_succ _))⟩
    · have hab : (am == -1) = false := by rw [beq_eq_false_iff_ne]; omega
      go_wp2_with (first
          | (go_at_call 31; with_reducible refine (raryear_yes _ (by omega)).mono ?_; rintro e wq ⟨rfl, rfl⟩)
          | (go_at_call 37; with_reducible refine (rarnumber_yes _ (by omega)).mono ?_; rintro e wq ⟨rfl, rfl⟩)
          | (go_at_call 35; with_reducible refine (rarpercent_yes _ (by omega)).mono ?_; rintro e wq ⟨rfl, rfl⟩)
          | (go_at_call 36; with_reducible refine (rarday_yes _ (by omega)).mono ?_; rintro e wq ⟨rfl, rfl⟩)
          | (go_at_call 34; with_reducible refine (rmValid_yes _ (by omega)).mono ?_; rintro e wq ⟨rfl, rfl⟩)
          | (go_at_call 32; with_reducible refine (rarcode_yes _ (by assumption)).mono ?_; rintro e wq ⟨rfl, hq⟩; (have hsz := HB.out.size); (rw [World.size_alloc] at hsz); replace HB := Lib.hid (HB.out.trans (hq.mono hsz)); clear hsz; have u := box_below HB.out; clear hq))
      go_ret
      exact ⟨rfl, (below_alloc w _).trans (HB.out.mono (Nat.le_succ _))⟩
  · have hsb : (yr == -1) = false := by rw [beq_eq_false_iff_ne]; omega
    rcases ha with rfl | ha
    · go_wp2_with (first
          | (go_at_call 31; with_reducible refine (raryear_yes _ (by omega)).mono ?_; rintro e wq ⟨rfl, rfl⟩)
          | (go_at_call 37; with_reducible refine (rarnumber_yes _ (by omega)).mono ?_; rintro e wq ⟨rfl, rfl⟩)
          | (go_at_call 35; with_reducible refine (rarpercent_yes _ (by omega)).mono ?_; rintro e wq ⟨rfl, rfl⟩)
          | (go_at_call 36; with_reducible refine (rarday_yes _ (by omega)).mono ?_; rintro e wq ⟨rfl, rfl⟩)
          | (go_at_call 34; with_reducible refine (rmValid_yes _ (by omega)).mono ?_; rintro e wq ⟨rfl, rfl⟩)
          | (go_at_call 32; with_reducible refine (rarcode_yes _ (by assumption)).mono ?_; rintro e wq ⟨rfl, hq⟩; (have hsz := HB.out.size); (rw [World.size_alloc] at hsz); replace HB := Lib.hid (HB.out.trans (hq.mono hsz)); clear hsz; have u := box_below HB.out; clear hq))
      go_ret
      exact ⟨rfl, (below_alloc w _).trans (HB.out.mono (Nat.le_succ _))⟩
    · have hab : (am == -1) = false := by rw [beq_eq_false_iff_ne]; omega
      go_wp2_with (first
          | (go_at_call 31; with_reducible refine (raryear_yes _ (by omega)).mono ?_; rintro e wq ⟨rfl, rfl⟩)
          | (go_at_call 37; with_reducible refine (rarnumber_yes _ (by omega)).mono ?_; rintro e wq ⟨rfl, rfl⟩)
          | (go_at_call 35; with_reducible refine (rarpercent_yes _ (by omega)).mono ?_; rintro e wq ⟨rfl, rfl⟩)
          | (go_at_call 36; with_reducible refine (rarday_yes _ (by omega)).mono ?_; rintro e wq ⟨rfl, rfl⟩)
          | (go_at_call 34; with_reducible refine (rmValid_yes _ (by omega)).mono ?_; rintro e wq ⟨rfl, rfl⟩)
          | (go_at_call 32; with_reducible refine (rarcode_yes _ (by assumption)).mono ?_; rintro e wq ⟨rfl, hq⟩; (have hsz := HB.out.size); (rw [World.size_alloc] at hsz); replace HB := Lib.hid (HB.out.trans (hq.mono hsz)); clear hsz; have u := box_below HB.out; clear hq))
      go_ret
      exact ⟨rfl, (below_alloc w _).trans (HB.out.mono (Nat.le_succ _))⟩

set_option maxRecDepth 100000 in
set_option maxHeartbeats 4000000 in
theorem rpl_afloor (cd : ByteArray) (yr : Int) (am : Int) (nu : Int) (dy : Int) (c1 : isCodeB cd = true) (hs : yr = -1 ∨ 0 ≤ yr ∧ yr ≤ 99) (ha : 0 ≤ am ∧ am ≤ 1000000000000) (hd : 0 ≤ dy ∧ dy ≤ 35990) (hn : 1 ≤ nu ∧ nu ≤ 1000000) (w : World) :
    Calls Tryz.prog 12 #[.agg #[.int .i64 10, .string cd, .string ⟨#[]⟩, .string ⟨#[]⟩, .int .i64 yr, .int .i64 am, .int .i64 0, .int .i64 nu, .int .i64 dy, .int .i64 0, .int .i64 3]] w fun e w' => e = .returned (.bool true) ∧ Below w.heap.size w w' := by
  have hq : ∀ W, (binOp .neq 24 (.agg #[.int .i64 10, .string cd, .string ⟨#[]⟩, .string ⟨#[]⟩, .int .i64 yr, .int .i64 am, .int .i64 0, .int .i64 nu, .int .i64 dy, .int .i64 0, .int .i64 3]) (.agg #[.int .i64 10, .string cd, .string ⟨#[]⟩, .string ⟨#[]⟩, .int .i64 yr, .int .i64 am, .int .i64 0, .int .i64 nu, .int .i64 dy, .int .i64 0, .int .i64 3])).run Tryz.prog W = .ok (.bool false) W := fun W => art_same W ⟨10, cd, ⟨#[]⟩, ⟨#[]⟩, yr, am, 0, nu, dy, 0, 3⟩
  have HU := Lib.hid (fun W => rused_10 cd ⟨#[]⟩ ⟨#[]⟩ yr am 0 nu dy 0 3 W)

  go_enter Tryz.func12, Tryz.ntmps12
  go_upto_region 1 with fail
  have hb0 : Below (w.heap.size + 1) (w.alloc (.cells #[.int .i64 10, .string cd, .string ⟨#[]⟩, .string ⟨#[]⟩, .int .i64 yr, .int .i64 am, .int .i64 0, .int .i64 nu, .int .i64 dy, .int .i64 0, .int .i64 3] 24)) (w.alloc (.cells #[.int .i64 10, .string cd, .string ⟨#[]⟩, .string ⟨#[]⟩, .int .i64 yr, .int .i64 am, .int .i64 0, .int .i64 nu, .int .i64 dy, .int .i64 0, .int .i64 3] 24)) := Below.refl _ _
  go_region_held3 (fun W => ∀ j, W.cell? ⟨w.heap.size, j, none⟩ = #[.int .i64 10, .string cd, .string ⟨#[]⟩, .string ⟨#[]⟩, .int .i64 yr, .int .i64 am, .int .i64 0, .int .i64 nu, .int .i64 dy, .int .i64 0, .int .i64 3][j]?) (first | exact box_below (by assumption) | exact box_below (Below.drew (by assumption)))
    (first | (go_at_call 30; (with_reducible refine (HU.out _).mono ?_); rintro e w1 ⟨rfl, hb1'⟩; (have hb1 : Below (w.heap.size + 1) (w.alloc (.cells #[.int .i64 10, .string cd, .string ⟨#[]⟩, .string ⟨#[]⟩, .int .i64 yr, .int .i64 am, .int .i64 0, .int .i64 nu, .int .i64 dy, .int .i64 0, .int .i64 3] 24)) w1 := (by first | exact hb0.trans (hb1'.mono (by simp)) | exact hb0.drew.trans (hb1'.mono (by simp)))); clear hb1'))
  have HB : Hid (Below (w.heap.size + 1) (w.alloc (.cells #[.int .i64 10, .string cd, .string ⟨#[]⟩, .string ⟨#[]⟩, .int .i64 yr, .int .i64 am, .int .i64 0, .int .i64 nu, .int .i64 dy, .int .i64 0, .int .i64 3] 24)) w1) := Lib.hid (by assumption)
  have u := box_below HB.out
  clear hb0 HU hq
  rcases hs with rfl | hs
  · go_wp2_with (first
        | (go_at_call 31; with_reducible refine (raryear_yes _ (by omega)).mono ?_; rintro e wq ⟨rfl, rfl⟩)
        | (go_at_call 37; with_reducible refine (rarnumber_yes _ (by omega)).mono ?_; rintro e wq ⟨rfl, rfl⟩)
        | (go_at_call 35; with_reducible refine (rarpercent_yes _ (by omega)).mono ?_; rintro e wq ⟨rfl, rfl⟩)
        | (go_at_call 36; with_reducible refine (rarday_yes _ (by omega)).mono ?_; rintro e wq ⟨rfl, rfl⟩)
        | (go_at_call 34; with_reducible refine (rmValid_yes _ (by omega)).mono ?_; rintro e wq ⟨rfl, rfl⟩)
        | (go_at_call 32; with_reducible refine (rarcode_yes _ (by assumption)).mono ?_; rintro e wq ⟨rfl, hq⟩; (have hsz := HB.out.size); (rw [World.size_alloc] at hsz); replace HB := Lib.hid (HB.out.trans (hq.mono hsz)); clear hsz; have u := box_below HB.out; clear hq))
    go_ret
    exact ⟨rfl, (below_alloc w _).trans (HB.out.mono (Nat.le_succ _))⟩
  · have hsb : (yr == -1) = false := by rw [beq_eq_false_iff_ne]; omega
    go_wp2_with (first
        | (go_at_call 31; with_reducible refine (raryear_yes _ (by omega)).mono ?_; rintro e wq ⟨rfl, rfl⟩)
        | (go_at_call 37; with_reducible refine (rarnumber_yes _ (by omega)).mono ?_; rintro e wq ⟨rfl, rfl⟩)
        | (go_at_call 35; with_reducible refine (rarpercent_yes _ (by omega)).mono ?_; rintro e wq ⟨rfl, rfl⟩)
        | (go_at_call 36; with_reducible refine (rarday_yes _ (by omega)).mono ?_; rintro e wq ⟨rfl, rfl⟩)
        | (go_at_call 34; with_reducible refine (rmValid_yes _ (by omega)).mono ?_; rintro e wq ⟨rfl, rfl⟩)
        | (go_at_call 32; with_reducible refine (rarcode_yes _ (by assumption)).mono ?_; rintro e wq ⟨rfl, hq⟩; (have hsz := HB.out.size); (rw [World.size_alloc] at hsz); replace HB := Lib.hid (HB.out.trans (hq.mono hsz)); clear hsz; have u := box_below HB.out; clear hq))
    go_ret
    exact ⟨rfl, (below_alloc w _).trans (HB.out.mono (Nat.le_succ _))⟩

end Go.Proofs.YtdedihdkkaoapaaGreatDoor
