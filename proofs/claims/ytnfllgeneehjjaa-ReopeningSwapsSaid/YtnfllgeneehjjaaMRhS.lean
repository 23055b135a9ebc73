/- cmp.Or of two ints; the order of holdings. -/
import Derived.Test.YtnfllgeneehjjaaMG4
import Derived.Test.YtnfllgeneehjjaaMG2
import Derived.Test.YtnfllgeneehjjaaMG1
import Derived.Deep.RegionHeld3
import Derived.Deep.DeepCutAuto
set_option linter.unusedSimpArgs false
set_option linter.unusedVariables false
set_option linter.unusedSimpArgs false
set_option linter.unusedVariables false
namespace Go.Proofs.Ytnfllgeneehjjaa
open Go.RowKit Go.Lib Go.Proofs

/-- The first one that is not zero. -/
def or2 (a b : Int) : Int := if a ≠ 0 then a else b

set_option maxHeartbeats 2000000 in
theorem cmpOr2_any (a b : Int) (g cap : Nat) (w : World) (h0 : w.cell? ⟨g, 0, none⟩ = some (.int .i64 a)) (h1 : w.cell? ⟨g, 1, none⟩ = some (.int .i64 b)) :
    Calls Try.prog 116 #[.slice (some ⟨g, 0, none⟩) 2 cap] w fun e w' => e = .returned (.int .i64 (or2 a b)) ∧ Below w.heap.size w w' := by
  obtain ⟨q, hq⟩ : ∃ q, q = or2 a b := ⟨_, rfl⟩
  have HQ := Lib.hid hq
  rw [← hq]
  clear hq
  go_enter Try.func116, Try.ntmps116
  go_wp2
  go_loopw [8] (fun iv wr => ∃ (k : Nat), iv = .int .i64 (k : Int) ∧ k ≤ 2 ∧ Hid ((0 < k → a = 0) ∧ (1 < k → b = 0)) ∧ wr = w) (fun iv _ => 2 - (RowKit.intOf iv).toNat)
  case atStart => exact ⟨0, rfl, by omega, Lib.hid ⟨by omega, by omega⟩, rfl⟩
  case round =>
    obtain ⟨k, rfl, hk, HZ, rfl⟩ := hrel
    by_cases hlt : k < 2
    · obtain ⟨x, hx, hxq⟩ : ∃ x, wr.cell? ⟨g, k, none⟩ = some (.int .i64 x) ∧ Hid ((x ≠ 0 → x = q) ∧ (x = 0 → (0 < k + 1 → a = 0) ∧ (1 < k + 1 → b = 0))) := by
        have hz := HZ.out
        have hqq := HQ.out
        unfold or2 at hqq
        rcases (show k = 0 ∨ k = 1 by omega) with rfl | rfl
        · refine ⟨a, h0, Lib.hid ⟨fun h => ?_, fun h => ⟨fun _ => h, by omega⟩⟩⟩
          rw [if_pos h] at hqq; exact hqq.symm
        · have ha := hz.1 (by omega)
          refine ⟨b, h1, Lib.hid ⟨fun h => ?_, fun h => ⟨fun _ => ha, fun _ => h⟩⟩⟩
          rw [if_neg (by omega)] at hqq; exact hqq.symm
      have hki : (k : Int) < 2 := by omega
      have hk0 : (0 : Int) ≤ (k : Int) := by omega
      clear h0 h1
      by_cases hz : x = 0
      · subst hz
        go_wp2
        go_roundw
        case rel => exact ⟨k + 1, by first | rfl | go_num, by omega, Lib.hid (hxq.out.2 rfl), by first | trivial | rfl⟩
        case measure => simp [RowKit.intOf]; omega
      · have hxe := hxq.out.1 hz
        subst hxe
        go_wp2
        go_ret
        exact ⟨rfl, Below.refl _ _⟩
    · obtain rfl : k = 2 := by omega
      have hz := HZ.out
      have hqq := HQ.out
      unfold or2 at hqq
      rw [if_neg (by have := hz.1 (by omega); omega), hz.2 (by omega)] at hqq
      subst hqq
      clear h0 h1
      go_wp2
      go_ret
      exact ⟨rfl, Below.refl _ _⟩

/-- The order of holdings: by security, by holder. -/
def hldCmp (x y : Hld) : Int := or2 (cmpI x.sec y.sec) (cmpI x.who y.who)
theorem hldCmp_lt {x y : Hld} : hldCmp x y < 0 ↔ hlt x y := by
  unfold hldCmp or2 cmpI hlt
  repeat' split
  all_goals first | omega | (constructor <;> omega)
theorem hldCmp_eq {x y : Hld} : hldCmp x y = 0 ↔ (x.sec = y.sec ∧ x.who = y.who) := by
  unfold hldCmp or2 cmpI
  repeat' split
  all_goals first | omega | (constructor <;> omega)

set_option maxHeartbeats 4000000 in
theorem rxcompare_any (x y : Hld) (w : World) : Calls Try.prog 107 #[.agg (hldC x).toArray, .agg (hldC y).toArray] w fun e w' => e = .returned (.int .i64 (hldCmp x y)) ∧ Below w.heap.size w w' := by
  obtain ⟨a, b, c⟩ := x
  obtain ⟨p, q, r⟩ := y
  simp only [hldC]
  have HC := Lib.hid (fun x y W => cmpInt_any x y W)
  have HB := Lib.hid (below2 w (.cells #[.int .i64 a, .int .i64 b, .int .i64 c] 51) (.cells #[.int .i64 p, .int .i64 q, .int .i64 r] 51))
  unfold hldCmp
  simp only
  obtain ⟨u1, hu1⟩ : ∃ u, u = cmpI a p := ⟨_, rfl⟩
  obtain ⟨u2, hu2⟩ : ∃ u, u = cmpI b q := ⟨_, rfl⟩
  rw [← hu1, ← hu2]
  have H1 := Lib.hid (fun W => HC.out a p W)
  have H2 := Lib.hid (fun W => HC.out b q W)
  rw [← hu1] at H1
  rw [← hu2] at H2
  clear hu1 hu2 HC
  have HOR := Lib.hid (fun (W : World) => cmpOr2_any u1 u2 W.heap.size 2 (W.alloc (.cells #[.int .i64 u1, .int .i64 u2] 3)).drew (obj_cell (heap_alloc_new _ _) 0) (obj_cell (heap_alloc_new _ _) 1))
  obtain ⟨W0, hW0⟩ : ∃ W0, W0 = (w.alloc (.cells #[.int .i64 a, .int .i64 b, .int .i64 c] 51)).alloc (.cells #[.int .i64 p, .int .i64 q, .int .i64 r] 51) := ⟨_, rfl⟩
  have A1 : W0.heap[w.heap.size]? = some (.cells #[.int .i64 a, .int .i64 b, .int .i64 c] 51 (0, 0)) := by rw [hW0]; exact alloc1_at w _ _
  have A2 : W0.heap[w.heap.size + 1]? = some (.cells #[.int .i64 p, .int .i64 q, .int .i64 r] 51 (0, 0)) := by rw [hW0]; exact alloc2_at w _ _
  have hc0 : W0.cell? ⟨w.heap.size, 0, none⟩ = some (.int .i64 a) ∧ W0.cell? ⟨w.heap.size, 1, none⟩ = some (.int .i64 b) ∧ W0.cell? ⟨w.heap.size + 1, 0, none⟩ = some (.int .i64 p) ∧ W0.cell? ⟨w.heap.size + 1, 1, none⟩ = some (.int .i64 q) := ⟨obj_cell A1 0, obj_cell A1 1, obj_cell A2 0, obj_cell A2 1⟩
  have HCA : Hid (∀ W, Below W0.heap.size W0 W → W.cell? ⟨w.heap.size, 0, none⟩ = some (.int .i64 a) ∧ W.cell? ⟨w.heap.size, 1, none⟩ = some (.int .i64 b) ∧ W.cell? ⟨w.heap.size + 1, 0, none⟩ = some (.int .i64 p) ∧ W.cell? ⟨w.heap.size + 1, 1, none⟩ = some (.int .i64 q)) := Lib.hid fun W hW => by
    have B1 := (hW.block _ (obj_lt A1)).trans A1
    have B2 := (hW.block _ (obj_lt A2)).trans A2
    exact ⟨obj_cell B1 0, obj_cell B1 1, obj_cell B2 0, obj_cell B2 1⟩
  have HBA : Hid (Below W0.heap.size W0 (W0.alloc (.cells #[.int .i64 u1, .int .i64 u2] 3)).drew) := Lib.hid ((below_alloc W0 _).drew)
  have HW0 := Lib.hid hW0
  have HB0 : Hid (Below w.heap.size w W0) := Lib.hid (by rw [hW0]; exact HB.out)
  clear HB A1 A2
  go_enter Try.func107, Try.ntmps107
  go_upto_region 1 with fail
  rw [← hW0]
  clear hW0
  go_region_held3 (fun W => W.cell? ⟨w.heap.size, 0, none⟩ = some (.int .i64 a) ∧ W.cell? ⟨w.heap.size, 1, none⟩ = some (.int .i64 b) ∧ W.cell? ⟨w.heap.size + 1, 0, none⟩ = some (.int .i64 p) ∧ W.cell? ⟨w.heap.size + 1, 1, none⟩ = some (.int .i64 q)) (first | exact hc0 | exact HCA.out _ HBA.out | exact HCA.out _ HB9.out) (first
    | (go_at_call 67; (first | with_reducible refine Calls.mono (H1.out _) ?_ | with_reducible refine Calls.mono (H2.out _) ?_); rintro e w' ⟨rfl, rfl⟩)
    | (go_at_call 116; with_reducible refine Calls.mono (HOR.out _) ?_; rintro e w9 ⟨rfl, b9⟩; have HB9 : Hid (Below W0.heap.size W0 w9) := Lib.hid (HBA.out.trans (b9.mono HBA.out.size)); clear b9))
  go_wp2
  go_ret
  exact ⟨rfl, HB0.out.trans (HB9.out.mono HB0.out.size)⟩

end Go.Proofs.Ytnfllgeneehjjaa
