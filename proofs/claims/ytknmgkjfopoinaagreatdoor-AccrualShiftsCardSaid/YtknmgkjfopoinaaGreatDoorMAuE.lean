/- accrual.Result of right books. -/
import Derived.Test.YtknmgkjfopoinaaGreatDoorMAuA
import Derived.Test.YtknmgkjfopoinaaGreatDoorMG8
import Derived.Test.YtknmgkjfopoinaaGreatDoorMLgV
set_option linter.unusedSimpArgs false
set_option linter.unusedVariables false
set_option linter.unusedSimpArgs false
set_option linter.unusedVariables false
namespace Go.Proofs.YtknmgkjfopoinaaGreatDoor
open Go.RowKit Go.Lib Go.Proofs

theorem aaisYear_yes {n : Int} (w : World) (h0 : 0 ≤ n) (h1 : n ≤ 99) : Calls Tryz.prog 39 #[.int .i64 n] w fun e w' => e = .returned (.bool true) ∧ w = w' := by
  go_enter Tryz.func39, Tryz.ntmps39
  go_wp2_with fail
  refine (aawithin_yes _ h0 h1).mono ?_
  rintro e w' ⟨rfl, rfl⟩
  go_wp2
  go_ret
  exact ⟨rfl, rfl⟩

set_option maxRecDepth 100000 in
set_option maxHeartbeats 4000000 in
theorem aaResult_right {l : List Pst} (h : LdgOk l) {ent y : Int} (he : 0 ≤ ent ∧ ent ≤ 10) (hy : 0 ≤ y ∧ y ≤ 99) (v : Value) (w : World) (hl : PstsAt w v l) :
    Calls Tryz.prog 17 #[.agg #[v], .int .i64 ent, .int .i64 y] w fun e w' => e = .returned (.tuple #[.int .i64 (resM ent (amidDay (360 * y) (360 * y + 359)) l), .int .i64 0]) ∧ Below w.heap.size w w' := by
  obtain ⟨f1, hf1⟩ : ∃ q, q = 360 * y := ⟨_, rfl⟩
  have hwm : IntKind.i64.wrap (360 * y) = f1 := by rw [hf1]; exact IntWalk.i64_in _ (by omega)
  have hwa : IntKind.i64.wrap (f1 + 360) = f1 + 360 := IntWalk.i64_in _ (by omega)
  have hws : IntKind.i64.wrap (f1 + 360 - 1) = f1 + 359 := by rw [show f1 + 360 - 1 = f1 + 359 by omega]; exact IntWalk.i64_in _ (by omega)
  have HST := Lib.hid (fun W (hW : Below w.heap.size w W) => lgStatement_right h ent f1 (f1 + 359) v W (hl.below hW) he ⟨by omega, by omega⟩ ⟨by omega, by omega⟩)
  have h4 := clsM_small h ent (amidDay f1 (f1 + 359)) 4
  have h5 := clsM_small h ent (amidDay f1 (f1 + 359)) 5
  obtain ⟨c4, hc4⟩ : ∃ q, q = -clsM ent (amidDay f1 (f1 + 359)) 4 l := ⟨_, rfl⟩
  obtain ⟨c5, hc5⟩ : ∃ q, q = clsM ent (amidDay f1 (f1 + 359)) 5 l := ⟨_, rfl⟩
  rw [← hf1]
  unfold resM
  rw [← hc4, ← hc5]
  rw [← hc4, ← hc5] at HST
  rw [← hc5] at h5
  obtain ⟨s0, hs0⟩ : ∃ q, q = clsM ent (byDay (f1 + 359)) 1 l := ⟨_, rfl⟩
  obtain ⟨s1, hs1⟩ : ∃ q, q = -clsM ent (byDay (f1 + 359)) 2 l := ⟨_, rfl⟩
  obtain ⟨s2, hs2⟩ : ∃ q, q = -clsM ent (ereDay f1) 3 l - clsM ent (ereDay f1) 4 l - clsM ent (ereDay f1) 5 l := ⟨_, rfl⟩
  rw [← hs0, ← hs1, ← hs2] at HST
  have hw45 : IntKind.i64.wrap (c4 - c5) = c4 - c5 := IntWalk.i64_in _ (by omega)
  obtain ⟨w0, hw0⟩ : ∃ W, W = w.alloc (.cells #[v] 27) := ⟨_, rfl⟩
  have HB0 : Hid (Below w.heap.size w w0) := Lib.hid (by rw [hw0]; exact below_alloc _ _)
  have HX0 : Hid (w0.heap[w.heap.size]? = some (.cells #[v] 27 (0, 0))) := Lib.hid (by rw [hw0]; exact heap_alloc_new _ _)
  have HW0 := Lib.hid hw0
  clear hw0 hs0 hs1 hs2 hc4 hc5 h h4 h5 hl hf1
  go_enter Tryz.func17, Tryz.ntmps17
  go_upto_region 1 with fail
  rw [← HW0.out]
  have hx := HX0.out
  have u0 := obj_cell hx 0
  simp at u0
  clear hx
  go_wp2_with fail
  refine (aaisYear_yes _ hy.1 hy.2).mono ?_
  rintro e w' ⟨rfl, rfl⟩
  go_wp2_with fail
  refine (HST.out _ HB0.out).mono ?_
  rintro e w1 ⟨rfl, hb1⟩
  have HB1 := Lib.hid (HB0.out.trans (hb1.mono HB0.out.size))
  obtain ⟨bS, hbS⟩ : ∃ q, q = w1.heap.size := ⟨_, rfl⟩
  obtain ⟨w2, hw2⟩ : ∃ W, W = w1.alloc (.cells #[.int .i64 s0, .int .i64 s1, .int .i64 s2, .int .i64 c4, .int .i64 c5] 75) := ⟨_, rfl⟩
  have HB2 : Hid (Below w.heap.size w w2) := Lib.hid (by rw [hw2]; exact HB1.out.alloc HB1.out.size _)
  have HX2 : Hid (w2.heap[bS]? = some (.cells #[.int .i64 s0, .int .i64 s1, .int .i64 s2, .int .i64 c4, .int .i64 c5] 75 (0, 0))) := Lib.hid (by rw [hw2, hbS]; exact heap_alloc_new _ _)
  have HW2 := Lib.hid hw2
  have HBS := Lib.hid hbS
  clear hb1 hw2 hbS u0
  go_upto_region 5 with fail
  rw [← HW2.out, ← HBS.out]
  go_wp2_with fail
  refine (aaisYear_yes _ hy.1 hy.2).mono ?_
  rintro e w' ⟨rfl, rfl⟩
  obtain ⟨w3, hw3⟩ : ∃ x, x = w2 := ⟨_, rfl⟩
  rw [← hw3] at HX2 HB2 ⊢
  clear hw3 HW2
  have hx := HX2.out
  have d3 := obj_cell hx 3
  have d4 := obj_cell hx 4
  simp at d3 d4
  clear hx
  go_wp2
  go_ret2
  exact ⟨rfl, HB2.out⟩

end Go.Proofs.YtknmgkjfopoinaaGreatDoor
