/- The chapter's example: sane of layer 40. -/
import Derived.Test.YtoelidndnajedabMLgB
import Derived.Test.YtoelidndnajedabMLgP
set_option linter.unusedSimpArgs false
set_option linter.unusedVariables false
set_option linter.unusedSimpArgs false
set_option linter.unusedVariables false
namespace Go.Proofs.Ytoelidndnajedab
open Go.RowKit Go.Lib Go.Proofs

def exP : Pst := ⟨1, 0, 1, 110, 410, 100, 0, 0⟩
theorem exP_ok : PstOk exP := ⟨by decide, by decide, by decide, by decide, by decide, by decide, by decide, by decide, by decide, by decide⟩
theorem exL_ok : LdgOk [exP] := ldgOk_nil.snoc (by decide) exP_ok (by decide) (by decide)
theorem ex_bals : (balsM fun x => ofM 1 (byDay 0) x [exP]).length = 2 := by kernel_rfl

set_option maxRecDepth 100000 in
set_option maxHeartbeats 8000000 in
theorem sane40_true (w : World) : Calls Try.prog 14 #[] w fun e w' => e = .returned (.bool true) ∧ Below w.heap.size w w' := by
  have HPO := Lib.hid (fun W => lgPost_right ldgOk_nil (by decide) exP_ok (by decide) (by decide) (.slice none 0 0) W (ListAt.owns (base := 0) (e := 37) (World.ownsRow_nil _ _ _ _)))
  simp only [exP, pstC] at HPO
  go_enter Try.func14, Try.ntmps14
  go_wp2_with fail
  refine (HPO.out _).mono ?_
  rintro e w1 ⟨u, rfl, hown, hb1⟩
  have hl : PstsAt w1 u [exP] := ListAt.owns hown
  obtain ⟨au, cu, rfl, -, -⟩ := owns_gen hown
  have HX := Lib.hid (heap_alloc_new w1 (.cells #[.slice au ([] : List Pst).length.succ cu] 28))
  obtain ⟨w2, hw2⟩ : ∃ w2, w2 = w1.alloc (.cells #[.slice au 1 cu] 28) := ⟨_, rfl⟩
  have HL2 : Hid (PstsAt w2 (.slice au 1 cu) [exP]) := Lib.hid (by rw [hw2]; exact ListAt.below hl (below_alloc _ _))
  have HX2 : Hid (w2.heap[w1.heap.size]? = some (.cells #[.slice au 1 cu] 28 (0, 0))) := Lib.hid (by rw [hw2]; exact heap_alloc_new _ _)
  have HB2 : Hid (Below w.heap.size w w2) := Lib.hid (by rw [hw2]; exact hb1.alloc hb1.size _)
  have HW2 := Lib.hid hw2
  clear hw2 hl hown hb1 HX HPO
  go_upto_region 2 with fail
  try rw [← HW2.out]
  have HO1 := Lib.hid (fun W (hW : Below w2.heap.size w2 W) => lgOf_right exL_ok 1 110 0 (.slice au 1 cu) W (ListAt.below HL2.out hW) (by decide) (by decide))
  have HO2 := Lib.hid (fun W (hW : Below w2.heap.size w2 W) => lgOf_right exL_ok 0 410 0 (.slice au 1 cu) W (ListAt.below HL2.out hW) (by decide) (by decide))
  have HBL := Lib.hid (fun W (hW : Below w2.heap.size w2 W) => lgBalances_right exL_ok 1 0 (.slice au 1 cu) W (ListAt.below HL2.out hW))
  rw [show ofM 1 (byDay 0) 110 [exP] = 100 by decide] at HO1
  rw [show ofM 0 (byDay 0) 410 [exP] = -100 by decide] at HO2
  rw [ex_bals] at HBL
  have hx2 := HX2.out
  have u0 := obj_cell hx2 0
  simp at u0
  clear hx2 HL2
  go_wp2_with fail
  refine (HO1.out _ (Below.refl _ _)).mono ?_
  rintro e w3 ⟨rfl, hb3⟩
  have HB3 := Lib.hid hb3
  have hx3 := obj_below HX2.out hb3
  have u1 := obj_cell hx3 0
  simp at u1
  clear hx3 hb3 u0
  go_wp2_with fail
  refine (HO2.out _ HB3.out).mono ?_
  rintro e w4 ⟨rfl, hb4⟩
  have HB4 := Lib.hid (HB3.out.trans (hb4.mono HB3.out.size))
  have hx4 := obj_below HX2.out HB4.out
  have u2 := obj_cell hx4 0
  simp at u2
  clear hx4 hb4 u1
  go_wp2_with fail
  refine (HBL.out _ HB4.out).mono ?_
  rintro e w5 ⟨u5, rfl, hown5, hb5⟩
  obtain ⟨a5, c5, rfl, -, -⟩ := owns_gen hown5
  have HB5 := Lib.hid (HB4.out.trans (hb5.mono HB4.out.size))
  clear hown5 hb5 u2
  go_wp2_with fail
  refine (lgClass_any _ _).mono ?_
  rintro e w6 ⟨rfl, rfl⟩
  have hc : classM 410 = 4 := by decide
  go_wp2
  go_ret
  exact ⟨rfl, HB2.out.trans (HB5.out.mono HB2.out.size)⟩

end Go.Proofs.Ytoelidndnajedab
