/- cmp.Or of two ints; the order of the flows of the debt. -/
import Derived.Test.YtblidmkkbcobgaaMFlowM
import Derived.Test.YtblidmkkbcobgaaMG3
import Derived.Test.YtblidmkkbcobgaaMG1
import Derived.Shelf.RegionOpenPlain
import Derived.Deep.RegionHeld3
import Derived.Deep.DeepCutAuto
set_option linter.unusedSimpArgs false
set_option linter.unusedVariables false
set_option linter.unusedSimpArgs false
set_option linter.unusedVariables false
namespace Go.Proofs.Ytblidmkkbcobgaa
open Go.RowKit Go.Lib Go.Proofs


/-- The first one that is not zero. -/
def orF (a b : Int) : Int := if a ≠ 0 then a else b

set_option maxHeartbeats 2000000 in
theorem cmpOr_two (a b : Int) (g cap : Nat) (w : World) (h0 : w.cell? ⟨g, 0, none⟩ = some (.int .i64 a)) (h1 : w.cell? ⟨g, 1, none⟩ = some (.int .i64 b)) :
    Calls Try.prog 76 #[.slice (some ⟨g, 0, none⟩) 2 cap] w fun e w' => e = .returned (.int .i64 (orF a b)) ∧ Below w.heap.size w w' := by
  obtain ⟨q, hq⟩ : ∃ q, q = orF a b := ⟨_, rfl⟩
  have HQ := Lib.hid hq
  rw [← hq]
  clear hq
  go_enter Try.func76, Try.ntmps76
  go_wp2
  go_loopw [8] (fun iv wr => ∃ (k : Nat), iv = .int .i64 (k : Int) ∧ k ≤ 2 ∧ Hid ((0 < k → a = 0) ∧ (1 < k → b = 0)) ∧ wr = w) (fun iv _ => 2 - (RowKit.intOf iv).toNat)
  case atStart => exact ⟨0, rfl, by omega, Lib.hid ⟨by omega, by omega⟩, rfl⟩
  case round =>
    obtain ⟨k, rfl, hk, HZ, rfl⟩ := hrel
    by_cases hlt : k < 2
    · obtain ⟨x, hx, hxq⟩ : ∃ x, wr.cell? ⟨g, k, none⟩ = some (.int .i64 x) ∧ Hid ((x ≠ 0 → x = q) ∧ (x = 0 → (0 < k + 1 → a = 0) ∧ (1 < k + 1 → b = 0))) := by
        have hz := HZ.out
        have hqq := HQ.out
        unfold orF at hqq
        rcases (show k = 0 ∨ k = 1 by omega) with rfl | rfl
        · refine ⟨a, h0, Lib.hid ⟨fun h => ?_, fun h => ⟨fun _ => h, by omega⟩⟩⟩
          rw [if_pos h] at hqq; exact hqq.symm
        · have ha := hz.1 (by omega)
          refine ⟨b, h1, Lib.hid ⟨fun h => ?_, fun h => ⟨fun _ => ha, fun _ => h⟩⟩⟩
          rw [if_neg (by omega)] at hqq; exact hqq.symm
      have hki : (k : Int) < 2 := by omega
      have hk0 : (0 : Int) ≤ (k : Int) := by omega
      clear h0 h1
      by_cases hz : x = 0
      · subst hz
        go_wp2
        go_roundw
        case rel => exact ⟨k + 1, by first | rfl | go_num, by omega, Lib.hid (hxq.out.2 rfl), by first | trivial | rfl⟩
        case measure => simp [RowKit.intOf]; omega
      · have hxe := hxq.out.1 hz
        subst hxe
        go_wp2
        go_ret
        exact ⟨rfl, Below.refl _ _⟩
    · obtain rfl : k = 2 := by omega
      have hz := HZ.out
      have hqq := HQ.out
      unfold orF at hqq
      rw [if_neg (by have := hz.1 (by omega); omega), hz.2 (by omega)] at hqq
      subst hqq
      clear h0 h1
      go_wp2
      go_ret
      exact ⟨rfl, Below.refl _ _⟩

/-- The order of the debt's flows: by day, by number. -/
def flowCmp (x y : Flw) : Int := orF (cmpI x.day y.day) (cmpI x.ref y.ref)

set_option maxHeartbeats 4000000 in
theorem cpUntilC_any (x y : Flw) (w : World) : Calls Try.prog 75 #[.agg (flowC x).toArray, .agg (flowC y).toArray] w fun e w' => e = .returned (.int .i64 (flowCmp x y)) ∧ Below w.heap.size w w' := by
  obtain ⟨a, b, c, d⟩ := x
  obtain ⟨p, q, r, s⟩ := y
  simp only [flowC]
  have HC := Lib.hid (fun x y W => cmpInt_any x y W)
  have HB := Lib.hid (below2 w (.cells #[.int .i64 a, .int .i64 b, .int .i64 c, .int .i64 d] 70) (.cells #[.int .i64 p, .int .i64 q, .int .i64 r, .int .i64 s] 70))
  unfold flowCmp
  simp only
  obtain ⟨u1, hu1⟩ : ∃ u, u = cmpI a p := ⟨_, rfl⟩
  obtain ⟨u3, hu3⟩ : ∃ u, u = cmpI d s := ⟨_, rfl⟩
  rw [← hu1, ← hu3]
  have H1 := Lib.hid (fun W => HC.out a p W)
  have H3 := Lib.hid (fun W => HC.out d s W)
  rw [← hu1] at H1
  rw [← hu3] at H3
  clear hu1 hu3 HC
  have HOR := Lib.hid (fun (W : World) => cmpOr_two u1 u3 W.heap.size 2 (W.alloc (.cells #[.int .i64 u1, .int .i64 u3] 3)).drew (obj_cell (heap_alloc_new _ _) 0) (obj_cell (heap_alloc_new _ _) 1))
  obtain ⟨W0, hW0⟩ : ∃ W0, W0 = (w.alloc (.cells #[.int .i64 a, .int .i64 b, .int .i64 c, .int .i64 d] 70)).alloc (.cells #[.int .i64 p, .int .i64 q, .int .i64 r, .int .i64 s] 70) := ⟨_, rfl⟩
  have A1 : W0.heap[w.heap.size]? = some (.cells #[.int .i64 a, .int .i64 b, .int .i64 c, .int .i64 d] 70 (0, 0)) := by rw [hW0]; exact alloc1_at w _ _
  have A2 : W0.heap[w.heap.size + 1]? = some (.cells #[.int .i64 p, .int .i64 q, .int .i64 r, .int .i64 s] 70 (0, 0)) := by rw [hW0]; exact alloc2_at w _ _
  have hc0 : W0.cell? ⟨w.heap.size, 0, none⟩ = some (.int .i64 a) ∧ W0.cell? ⟨w.heap.size, 3, none⟩ = some (.int .i64 d) ∧ W0.cell? ⟨w.heap.size + 1, 0, none⟩ = some (.int .i64 p) ∧ W0.cell? ⟨w.heap.size + 1, 3, none⟩ = some (.int .i64 s) := ⟨obj_cell A1 0, obj_cell A1 3, obj_cell A2 0, obj_cell A2 3⟩
  have HCA : Hid (∀ W, Below W0.heap.size W0 W → W.cell? ⟨w.heap.size, 0, none⟩ = some (.int .i64 a) ∧ W.cell? ⟨w.heap.size, 3, none⟩ = some (.int .i64 d) ∧ W.cell? ⟨w.heap.size + 1, 0, none⟩ = some (.int .i64 p) ∧ W.cell? ⟨w.heap.size + 1, 3, none⟩ = some (.int .i64 s)) := Lib.hid fun W hW => by
    have B1 := (hW.block _ (obj_lt A1)).trans A1
    have B2 := (hW.block _ (obj_lt A2)).trans A2
    exact ⟨obj_cell B1 0, obj_cell B1 3, obj_cell B2 0, obj_cell B2 3⟩
  have HBA : Hid (Below W0.heap.size W0 (W0.alloc (.cells #[.int .i64 u1, .int .i64 u3] 3)).drew) := Lib.hid ((below_alloc W0 _).drew)
  have HW0 := Lib.hid hW0
  have HB0 : Hid (Below w.heap.size w W0) := Lib.hid (by rw [hW0]; exact HB.out)
  clear HB A1 A2
  go_enter Try.func75, Try.ntmps75
  go_upto_region 1 with fail
  rw [← hW0]
  clear hW0
  go_region_held3 (fun W => W.cell? ⟨w.heap.size, 0, none⟩ = some (.int .i64 a) ∧ W.cell? ⟨w.heap.size, 3, none⟩ = some (.int .i64 d) ∧ W.cell? ⟨w.heap.size + 1, 0, none⟩ = some (.int .i64 p) ∧ W.cell? ⟨w.heap.size + 1, 3, none⟩ = some (.int .i64 s)) (first | exact hc0 | exact HCA.out _ HBA.out | exact HCA.out _ HB9.out) (first
    | (go_at_call 77; (first | with_reducible refine Calls.mono (H1.out _) ?_ | with_reducible refine Calls.mono (H3.out _) ?_); rintro e w' ⟨rfl, rfl⟩)
    | (go_at_call 76; with_reducible refine Calls.mono (HOR.out _) ?_; rintro e w9 ⟨rfl, b9⟩; have HB9 : Hid (Below W0.heap.size W0 w9) := Lib.hid (HBA.out.trans (b9.mono HBA.out.size)); clear b9))
  go_wp2
  go_ret
  exact ⟨rfl, HB0.out.trans (HB9.out.mono HB0.out.size)⟩

end Go.Proofs.Ytblidmkkbcobgaa
