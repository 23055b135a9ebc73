/- The order of the taxes' flows: by day. -/
import Derived.Test.YtebgfbcojhmdlaaDoorFlowM
import Derived.Test.YtebgfbcojhmdlaaDoorCmpI
import Derived.Test.YtebgfbcojhmdlaaDoorPut
import Derived.Shelf.RegionOpenPlain
import Derived.Deep.RegionHeld3
import Derived.Deep.DeepCutAuto
set_option linter.unusedSimpArgs false
set_option linter.unusedVariables false
namespace Go.Proofs.YtebgfbcojhmdlaaDoor
open Go.RowKit Go.Lib Go.Proofs

/-- The order of the taxes' flows: by day. -/
def flowCmp (x y : Flw) : Int := cmpI x.day y.day

set_option maxHeartbeats 4000000 in
theorem taflowsC_any (x y : Flw) (w : World) : Calls Tryd.prog 35 #[.agg (flowC x).toArray, .agg (flowC y).toArray] w fun e w' => e = .returned (.int .i64 (flowCmp x y)) ∧ Below w.heap.size w w' := by
  obtain ⟨a, b, c, d⟩ := x
  obtain ⟨p, q, r, s⟩ := y
  simp only [flowC]
  have HC := Lib.hid (fun W => cmpInt_any a p W)
  have HB := Lib.hid (below2 w (.cells #[.int .i64 a, .int .i64 b, .int .i64 c, .int .i64 d] 50) (.cells #[.int .i64 p, .int .i64 q, .int .i64 r, .int .i64 s] 50))
  unfold flowCmp
  simp only
  obtain ⟨u1, hu1⟩ : ∃ u, u = cmpI a p := ⟨_, rfl⟩
  rw [← hu1] at HC ⊢
  clear hu1
  obtain ⟨W0, hW0⟩ : ∃ W0, W0 = (w.alloc (.cells #[.int .i64 a, .int .i64 b, .int .i64 c, .int .i64 d] 50)).alloc (.cells #[.int .i64 p, .int .i64 q, .int .i64 r, .int .i64 s] 50) := ⟨_, rfl⟩
  have A1 : W0.heap[w.heap.size]? = some (.cells #[.int .i64 a, .int .i64 b, .int .i64 c, .int .i64 d] 50 (0, 0)) := by rw [hW0]; exact alloc1_at w _ _
  have A2 : W0.heap[w.heap.size + 1]? = some (.cells #[.int .i64 p, .int .i64 q, .int .i64 r, .int .i64 s] 50 (0, 0)) := by rw [hW0]; exact alloc2_at w _ _
  have q0 := obj_cell A1 0
  have q1 := obj_cell A2 0
  simp at q0 q1
  have HW0 := Lib.hid hW0
  have HB0 : Hid (Below w.heap.size w W0) := Lib.hid (by rw [hW0]; exact HB.out)
  clear HB A1 A2
  go_enter Tryd.func35, Tryd.ntmps35
  go_upto_region 1 with fail
  rw [← hW0]
  clear hW0
  go_wp2_with fail
  refine (HC.out _).mono ?_
  rintro e w' ⟨rfl, rfl⟩
  go_wp2
  go_ret
  exact ⟨rfl, HB0.out⟩

end Go.Proofs.YtebgfbcojhmdlaaDoor
