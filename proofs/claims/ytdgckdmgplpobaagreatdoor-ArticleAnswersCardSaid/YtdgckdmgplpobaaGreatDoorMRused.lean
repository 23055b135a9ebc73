/- The contract of used of the article's reference: an article with the fields that its kind uses alone. -/
import Derived.Test.YtdgckdmgplpobaaGreatDoorMG6
import Derived.Deep.RegionHeld3
set_option linter.unusedSimpArgs false
set_option linter.unusedVariables false
namespace Go.Proofs.YtdgckdmgplpobaaGreatDoor
open Go.RowKit Go.Lib Go.Proofs

theorem box_cells (w : World) (A : Array Value) (o1 o2 : Obj) : (∀ j, (((w.alloc (.cells A 24)).alloc o1).alloc o2).cell? ⟨w.heap.size, j, none⟩ = A[j]?) ∧ (∀ j, (((w.alloc (.cells A 24)).alloc o1).alloc o2).drew.cell? ⟨w.heap.size, j, none⟩ = A[j]?) := by
  have h : (((w.alloc (.cells A 24)).alloc o1).alloc o2).heap[w.heap.size]? = some (.cells A 24 (0, 0)) := (Below.heap_alloc _ _ _ (by simp; omega)).trans ((Below.heap_alloc _ _ _ (by simp)).trans (heap_alloc_new w _))
  exact ⟨fun j => art_cell h j, fun j => art_cell (W := (((w.alloc (.cells A 24)).alloc o1).alloc o2).drew) h j⟩

set_option maxRecDepth 100000 in
set_option maxHeartbeats 4000000 in
theorem rused_1 (cd ot nm : ByteArray) (yr am pc nu dy ls wh : Int) (w : World) :
    Calls Tryz.prog 29 #[.agg #[.int .i64 1, .string cd, .string ot, .string nm, .int .i64 yr, .int .i64 am, .int .i64 pc, .int .i64 nu, .int .i64 dy, .int .i64 ls, .int .i64 wh]] w fun e w' => e = .returned (.agg #[.int .i64 1, .string ⟨#[]⟩, .string ⟨#[]⟩, .string ⟨#[]⟩, .int .i64 yr, .int .i64 0, .int .i64 0, .int .i64 nu, .int .i64 0, .int .i64 0, .int .i64 0]) ∧ Below w.heap.size w w' := by
  go_enter Tryz.func29, Tryz.ntmps29
  go_upto_region 4 with fail
  go_region_held3 (fun W => ∀ j, W.cell? ⟨w.heap.size, j, none⟩ = #[.int .i64 1, .string cd, .string ot, .string nm, .int .i64 yr, .int .i64 am, .int .i64 pc, .int .i64 nu, .int .i64 dy, .int .i64 ls, .int .i64 wh][j]?) (first | exact (box_cells w _ _ _).1 | exact (box_cells w _ _ _).2) (fail)
  all_goals (go_wp2_with fail)
  all_goals (refine bodyPost_ret (v := .agg #[.int .i64 1, .string ⟨#[]⟩, .string ⟨#[]⟩, .string ⟨#[]⟩, .int .i64 yr, .int .i64 0, .int .i64 0, .int .i64 nu, .int .i64 0, .int .i64 0, .int .i64 0]) (by simp [results, Tryz.results29, go_sem]) rfl ⟨rfl, ?_⟩)
  all_goals (first | exact ((((Below.refl _ w).alloc (Nat.le_refl _) _).alloc (by simp) _).alloc (by simp; omega) _).drew)

set_option maxRecDepth 100000 in
set_option maxHeartbeats 4000000 in
theorem rused_2 (cd ot nm : ByteArray) (yr am pc nu dy ls wh : Int) (w : World) :
    Calls Tryz.prog 29 #[.agg #[.int .i64 2, .string cd, .string ot, .string nm, .int .i64 yr, .int .i64 am, .int .i64 pc, .int .i64 nu, .int .i64 dy, .int .i64 ls, .int .i64 wh]] w fun e w' => e = .returned (.agg #[.int .i64 2, .string cd, .string ⟨#[]⟩, .string nm, .int .i64 0, .int .i64 0, .int .i64 0, .int .i64 0, .int .i64 0, .int .i64 0, .int .i64 0]) ∧ Below w.heap.size w w' := by
  go_enter Tryz.func29, Tryz.ntmps29
  go_upto_region 6 with fail
  go_region_held3 (fun W => ∀ j, W.cell? ⟨w.heap.size, j, none⟩ = #[.int .i64 2, .string cd, .string ot, .string nm, .int .i64 yr, .int .i64 am, .int .i64 pc, .int .i64 nu, .int .i64 dy, .int .i64 ls, .int .i64 wh][j]?) (first | exact (box_cells w _ _ _).1 | exact (box_cells w _ _ _).2) (fail)
  all_goals (go_wp2_with fail)
  all_goals (refine bodyPost_ret (v := .agg #[.int .i64 2, .string cd, .string ⟨#[]⟩, .string nm, .int .i64 0, .int .i64 0, .int .i64 0, .int .i64 0, .int .i64 0, .int .i64 0, .int .i64 0]) (by simp [results, Tryz.results29, go_sem]) rfl ⟨rfl, ?_⟩)
  all_goals (first | exact ((((Below.refl _ w).alloc (Nat.le_refl _) _).alloc (by simp) _).alloc (by simp; omega) _).drew)

set_option maxRecDepth 100000 in
set_option maxHeartbeats 4000000 in
theorem rused_3 (cd ot nm : ByteArray) (yr am pc nu dy ls wh : Int) (w : World) :
    Calls Tryz.prog 29 #[.agg #[.int .i64 3, .string cd, .string ot, .string nm, .int .i64 yr, .int .i64 am, .int .i64 pc, .int .i64 nu, .int .i64 dy, .int .i64 ls, .int .i64 wh]] w fun e w' => e = .returned (.agg #[.int .i64 3, .string cd, .string ⟨#[]⟩, .string ⟨#[]⟩, .int .i64 yr, .int .i64 am, .int .i64 0, .int .i64 0, .int .i64 0, .int .i64 0, .int .i64 0]) ∧ Below w.heap.size w w' := by
  go_enter Tryz.func29, Tryz.ntmps29
  go_upto_region 10 with fail
  go_region_held3 (fun W => ∀ j, W.cell? ⟨w.heap.size, j, none⟩ = #[.int .i64 3, .string cd, .string ot, .string nm, .int .i64 yr, .int .i64 am, .int .i64 pc, .int .i64 nu, .int .i64 dy, .int .i64 ls, .int .i64 wh][j]?) (first | exact (box_cells w _ _ _).1 | exact (box_cells w _ _ _).2) (fail)
  all_goals (go_wp2_with fail)
  all_goals (refine bodyPost_ret (v := .agg #[.int .i64 3, .string cd, .string ⟨#[]⟩, .string ⟨#[]⟩, .int .i64 yr, .int .i64 am, .int .i64 0, .int .i64 0, .int .i64 0, .int .i64 0, .int .i64 0]) (by simp [results, Tryz.results29, go_sem]) rfl ⟨rfl, ?_⟩)
  all_goals (first | exact ((((Below.refl _ w).alloc (Nat.le_refl _) _).alloc (by simp) _).alloc (by simp; omega) _).drew)

set_option maxRecDepth 100000 in
set_option maxHeartbeats 4000000 in
theorem rused_4 (cd ot nm : ByteArray) (yr am pc nu dy ls wh : Int) (w : World) :
    Calls Tryz.prog 29 #[.agg #[.int .i64 4, .string cd, .string ot, .string nm, .int .i64 yr, .int .i64 am, .int .i64 pc, .int .i64 nu, .int .i64 dy, .int .i64 ls, .int .i64 wh]] w fun e w' => e = .returned (.agg #[.int .i64 4, .string cd, .string ⟨#[]⟩, .string ⟨#[]⟩, .int .i64 yr, .int .i64 am, .int .i64 0, .int .i64 0, .int .i64 0, .int .i64 0, .int .i64 0]) ∧ Below w.heap.size w w' := by
  go_enter Tryz.func29, Tryz.ntmps29
  go_upto_region 10 with fail
  go_region_held3 (fun W => ∀ j, W.cell? ⟨w.heap.size, j, none⟩ = #[.int .i64 4, .string cd, .string ot, .string nm, .int .i64 yr, .int .i64 am, .int .i64 pc, .int .i64 nu, .int .i64 dy, .int .i64 ls, .int .i64 wh][j]?) (first | exact (box_cells w _ _ _).1 | exact (box_cells w _ _ _).2) (fail)
  all_goals (go_wp2_with fail)
  all_goals (refine bodyPost_ret (v := .agg #[.int .i64 4, .string cd, .string ⟨#[]⟩, .string ⟨#[]⟩, .int .i64 yr, .int .i64 am, .int .i64 0, .int .i64 0, .int .i64 0, .int .i64 0, .int .i64 0]) (by simp [results, Tryz.results29, go_sem]) rfl ⟨rfl, ?_⟩)
  all_goals (first | exact ((((Below.refl _ w).alloc (Nat.le_refl _) _).alloc (by simp) _).alloc (by simp; omega) _).drew)

set_option maxRecDepth 100000 in
set_option maxHeartbeats 4000000 in
theorem rused_5 (cd ot nm : ByteArray) (yr am pc nu dy ls wh : Int) (w : World) :
    Calls Tryz.prog 29 #[.agg #[.int .i64 5, .string cd, .string ot, .string nm, .int .i64 yr, .int .i64 am, .int .i64 pc, .int .i64 nu, .int .i64 dy, .int .i64 ls, .int .i64 wh]] w fun e w' => e = .returned (.agg #[.int .i64 5, .string cd, .string ⟨#[]⟩, .string ⟨#[]⟩, .int .i64 yr, .int .i64 am, .int .i64 0, .int .i64 0, .int .i64 0, .int .i64 0, .int .i64 0]) ∧ Below w.heap.size w w' := by
  go_enter Tryz.func29, Tryz.ntmps29
  go_upto_region 10 with fail
  go_region_held3 (fun W => ∀ j, W.cell? ⟨w.heap.size, j, none⟩ = #[.int .i64 5, .string cd, .string ot, .string nm, .int .i64 yr, .int .i64 am, .int .i64 pc, .int .i64 nu, .int .i64 dy, .int .i64 ls, .int .i64 wh][j]?) (first | exact (box_cells w _ _ _).1 | exact (box_cells w _ _ _).2) (fail)
  all_goals (go_wp2_with fail)
  all_goals (refine bodyPost_ret (v := .agg #[.int .i64 5, .string cd, .string ⟨#[]⟩, .string ⟨#[]⟩, .int .i64 yr, .int .i64 am, .int .i64 0, .int .i64 0, .int .i64 0, .int .i64 0, .int .i64 0]) (by simp [results, Tryz.results29, go_sem]) rfl ⟨rfl, ?_⟩)
  all_goals (first | exact ((((Below.refl _ w).alloc (Nat.le_refl _) _).alloc (by simp) _).alloc (by simp; omega) _).drew)

set_option maxRecDepth 100000 in
set_option maxHeartbeats 4000000 in
theorem rused_6 (cd ot nm : ByteArray) (yr am pc nu dy ls wh : Int) (w : World) :
    Calls Tryz.prog 29 #[.agg #[.int .i64 6, .string cd, .string ot, .string nm, .int .i64 yr, .int .i64 am, .int .i64 pc, .int .i64 nu, .int .i64 dy, .int .i64 ls, .int .i64 wh]] w fun e w' => e = .returned (.agg #[.int .i64 6, .string cd, .string ot, .string ⟨#[]⟩, .int .i64 0, .int .i64 0, .int .i64 pc, .int .i64 0, .int .i64 0, .int .i64 0, .int .i64 0]) ∧ Below w.heap.size w w' := by
  go_enter Tryz.func29, Tryz.ntmps29
  go_upto_region 12 with fail
  go_region_held3 (fun W => ∀ j, W.cell? ⟨w.heap.size, j, none⟩ = #[.int .i64 6, .string cd, .string ot, .string nm, .int .i64 yr, .int .i64 am, .int .i64 pc, .int .i64 nu, .int .i64 dy, .int .i64 ls, .int .i64 wh][j]?) (first | exact (box_cells w _ _ _).1 | exact (box_cells w _ _ _).2) (fail)
  all_goals (go_wp2_with fail)
  all_goals (refine bodyPost_ret (v := .agg #[.int .i64 6, .string cd, .string ot, .string ⟨#[]⟩, .int .i64 0, .int .i64 0, .int .i64 pc, .int .i64 0, .int .i64 0, .int .i64 0, .int .i64 0]) (by simp [results, Tryz.results29, go_sem]) rfl ⟨rfl, ?_⟩)
  all_goals (first | exact ((((Below.refl _ w).alloc (Nat.le_refl _) _).alloc (by simp) _).alloc (by simp; omega) _).drew)

set_option maxRecDepth 100000 in
set_option maxHeartbeats 4000000 in
theorem rused_7 (cd ot nm : ByteArray) (yr am pc nu dy ls wh : Int) (w : World) :
    Calls Tryz.prog 29 #[.agg #[.int .i64 7, .string cd, .string ot, .string nm, .int .i64 yr, .int .i64 am, .int .i64 pc, .int .i64 nu, .int .i64 dy, .int .i64 ls, .int .i64 wh]] w fun e w' => e = .returned (.agg #[.int .i64 7, .string cd, .string ⟨#[]⟩, .string ⟨#[]⟩, .int .i64 yr, .int .i64 am, .int .i64 0, .int .i64 0, .int .i64 dy, .int .i64 0, .int .i64 0]) ∧ Below w.heap.size w w' := by
  go_enter Tryz.func29, Tryz.ntmps29
  go_upto_region 14 with fail
  go_region_held3 (fun W => ∀ j, W.cell? ⟨w.heap.size, j, none⟩ = #[.int .i64 7, .string cd, .string ot, .string nm, .int .i64 yr, .int .i64 am, .int .i64 pc, .int .i64 nu, .int .i64 dy, .int .i64 ls, .int .i64 wh][j]?) (first | exact (box_cells w _ _ _).1 | exact (box_cells w _ _ _).2) (fail)
  all_goals (go_wp2_with fail)
  all_goals (refine bodyPost_ret (v := .agg #[.int .i64 7, .string cd, .string ⟨#[]⟩, .string ⟨#[]⟩, .int .i64 yr, .int .i64 am, .int .i64 0, .int .i64 0, .int .i64 dy, .int .i64 0, .int .i64 0]) (by simp [results, Tryz.results29, go_sem]) rfl ⟨rfl, ?_⟩)
  all_goals (first | exact ((((Below.refl _ w).alloc (Nat.le_refl _) _).alloc (by simp) _).alloc (by simp; omega) _).drew)

set_option maxRecDepth 100000 in
set_option maxHeartbeats 4000000 in
theorem rused_8 (cd ot nm : ByteArray) (yr am pc nu dy ls wh : Int) (w : World) :
    Calls Tryz.prog 29 #[.agg #[.int .i64 8, .string cd, .string ot, .string nm, .int .i64 yr, .int .i64 am, .int .i64 pc, .int .i64 nu, .int .i64 dy, .int .i64 ls, .int .i64 wh]] w fun e w' => e = .returned (.agg #[.int .i64 8, .string cd, .string ot, .string ⟨#[]⟩, .int .i64 yr, .int .i64 am, .int .i64 0, .int .i64 0, .int .i64 0, .int .i64 ls, .int .i64 0]) ∧ Below w.heap.size w w' := by
  go_enter Tryz.func29, Tryz.ntmps29
  go_upto_region 16 with fail
  go_region_held3 (fun W => ∀ j, W.cell? ⟨w.heap.size, j, none⟩ = #[.int .i64 8, .string cd, .string ot, .string nm, .int .i64 yr, .int .i64 am, .int .i64 pc, .int .i64 nu, .int .i64 dy, .int .i64 ls, .int .i64 wh][j]?) (first | exact (box_cells w _ _ _).1 | exact (box_cells w _ _ _).2) (fail)
  all_goals (go_wp2_with fail)
  all_goals (refine bodyPost_ret (v := .agg #[.int .i64 8, .string cd, .string ot, .string ⟨#[]⟩, .int .i64 yr, .int .i64 am, .int .i64 0, .int .i64 0, .int .i64 0, .int .i64 ls, .int .i64 0]) (by simp [results, Tryz.results29, go_sem]) rfl ⟨rfl, ?_⟩)
  all_goals (first | exact ((((Below.refl _ w).alloc (Nat.le_refl _) _).alloc (by simp) _).alloc (by simp; omega) _).drew)

set_option maxRecDepth 100000 in
set_option maxHeartbeats 4000000 in
theorem rused_9 (cd ot nm : ByteArray) (yr am pc nu dy ls wh : Int) (w : World) :
    Calls Tryz.prog 29 #[.agg #[.int .i64 9, .string cd, .string ot, .string nm, .int .i64 yr, .int .i64 am, .int .i64 pc, .int .i64 nu, .int .i64 dy, .int .i64 ls, .int .i64 wh]] w fun e w' => e = .returned (.agg #[.int .i64 9, .string cd, .string ot, .string ⟨#[]⟩, .int .i64 0, .int .i64 0, .int .i64 pc, .int .i64 nu, .int .i64 0, .int .i64 0, .int .i64 0]) ∧ Below w.heap.size w w' := by
  go_enter Tryz.func29, Tryz.ntmps29
  go_upto_region 18 with fail
  go_region_held3 (fun W => ∀ j, W.cell? ⟨w.heap.size, j, none⟩ = #[.int .i64 9, .string cd, .string ot, .string nm, .int .i64 yr, .int .i64 am, .int .i64 pc, .int .i64 nu, .int .i64 dy, .int .i64 ls, .int .i64 wh][j]?) (first | exact (box_cells w _ _ _).1 | exact (box_cells w _ _ _).2) (fail)
  all_goals (go_wp2_with fail)
  all_goals (refine bodyPost_ret (v := .agg #[.int .i64 9, .string cd, .string ot, .string ⟨#[]⟩, .int .i64 0, .int .i64 0, .int .i64 pc, .int .i64 nu, .int .i64 0, .int .i64 0, .int .i64 0]) (by simp [results, Tryz.results29, go_sem]) rfl ⟨rfl, ?_⟩)
  all_goals (first | exact ((((Below.refl _ w).alloc (Nat.le_refl _) _).alloc (by simp) _).alloc (by simp; omega) _).drew)

set_option maxRecDepth 100000 in
set_option maxHeartbeats 4000000 in
theorem rused_10 (cd ot nm : ByteArray) (yr am pc nu dy ls wh : Int) (w : World) :
    Calls Tryz.prog 29 #[.agg #[.int .i64 10, .string cd, .string ot, .string nm, .int .i64 yr, .int .i64 am, .int .i64 pc, .int .i64 nu, .int .i64 dy, .int .i64 ls, .int .i64 wh]] w fun e w' => e = .returned (.agg #[.int .i64 10, .string cd, .string ⟨#[]⟩, .string ⟨#[]⟩, .int .i64 yr, .int .i64 am, .int .i64 0, .int .i64 nu, .int .i64 dy, .int .i64 0, .int .i64 wh]) ∧ Below w.heap.size w w' := by
  go_enter Tryz.func29, Tryz.ntmps29
  go_upto_region 20 with fail
  go_region_held3 (fun W => ∀ j, W.cell? ⟨w.heap.size, j, none⟩ = #[.int .i64 10, .string cd, .string ot, .string nm, .int .i64 yr, .int .i64 am, .int .i64 pc, .int .i64 nu, .int .i64 dy, .int .i64 ls, .int .i64 wh][j]?) (first | exact (box_cells w _ _ _).1 | exact (box_cells w _ _ _).2) (fail)
  all_goals (go_wp2_with fail)
  all_goals (refine bodyPost_ret (v := .agg #[.int .i64 10, .string cd, .string ⟨#[]⟩, .string ⟨#[]⟩, .int .i64 yr, .int .i64 am, .int .i64 0, .int .i64 nu, .int .i64 dy, .int .i64 0, .int .i64 wh]) (by simp [results, Tryz.results29, go_sem]) rfl ⟨rfl, ?_⟩)
  all_goals (first | exact ((((Below.refl _ w).alloc (Nat.le_refl _) _).alloc (by simp) _).alloc (by simp; omega) _).drew)

end Go.Proofs.YtdgckdmgplpobaaGreatDoor
