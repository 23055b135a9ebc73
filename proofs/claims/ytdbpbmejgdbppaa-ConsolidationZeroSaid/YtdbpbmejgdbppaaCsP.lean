/- The chapter's example: pair and sane of layer 43. -/
import Derived.Test.YtdbpbmejgdbppaaCsV
import Derived.Test.YtdbpbmejgdbppaaCsD
import Derived.Test.YtdbpbmejgdbppaaLgRp
import Derived.Test.YtdbpbmejgdbppaaLgH
set_option linter.unusedSimpArgs false
set_option linter.unusedVariables false
namespace Go.Proofs.Ytdbpbmejgdbppaa
open Go.RowKit Go.Lib Go.Proofs

def pairP1 : Pst := ⟨1, 0, 1, 140, 110, 100, 2, 7⟩
def pairP2 : Pst := ⟨2, 0, 2, 110, 240, 80, 1, 7⟩
theorem pairP1_ok : PstOk pairP1 := ⟨by decide, by decide, by decide, by decide, by decide, by decide, by decide, by decide, by decide, by decide⟩
theorem pairP2_ok : PstOk pairP2 := ⟨by decide, by decide, by decide, by decide, by decide, by decide, by decide, by decide, by decide, by decide⟩
theorem pairL1_ok : LdgOk [pairP1] := ldgOk_nil.snoc (by decide) pairP1_ok (by decide) (by decide)
theorem pairL_ok : LdgOk [pairP1, pairP2] := pairL1_ok.snoc (by decide) pairP2_ok (by decide) (by decide)

set_option maxRecDepth 100000 in
set_option maxHeartbeats 4000000 in
theorem pair43_any (w : World) : Calls Try.prog 29 #[] w fun e w' => ∃ v, e = .returned (.agg #[v]) ∧ PstsAt w' v [pairP1, pairP2] ∧ Below w.heap.size w w' := by
  have HP1 := Lib.hid (fun W => rgPost_right ldgOk_nil (by decide) pairP1_ok (by decide) (by decide) (.slice none 0 0) W (ListAt.owns (base := 0) (e := 41) (World.ownsRow_nil _ _ _ _)))
  have HP2 := Lib.hid (fun v W (hv : PstsAt W v [pairP1]) => rgPost_right pairL1_ok (by decide) pairP2_ok (by decide) (by decide) v W hv)
  simp only [pairP1, pairP2, pstC] at HP1 HP2
  obtain ⟨w0, hw0⟩ : ∃ W, W = (w.alloc (.cells #[.slice none 0 0] 27)).alloc (.cells #[.slice none 0 0] 27) := ⟨_, rfl⟩
  have HB0 : Hid (Below w.heap.size w w0) := Lib.hid (by rw [hw0]; exact below2 w _ _)
  have HX0 : Hid (w0.heap[w.heap.size]? = some (.cells #[.slice none 0 0] 27 (0, 0))) := Lib.hid (by rw [hw0]; exact alloc1_at w _ _)
  have HY0 : Hid (w0.heap[w.heap.size + 1]? = some (.cells #[.slice none 0 0] 27 (0, 0))) := Lib.hid (by rw [hw0]; exact alloc2_at w _ _)
  obtain ⟨bL, hbL⟩ : ∃ b, b = w.heap.size + 1 := ⟨_, rfl⟩
  have HBL := Lib.hid hbL
  rw [← hbL] at HY0
  have y0 := obj_cell HY0.out 0
  simp at y0
  go_enter Try.func29, Try.ntmps29
  go_upto_region 2 with fail
  rw [← hbL]
  rw [← hw0]
  have hwb : w.heap.size ≤ bL := by omega
  have hwn : w.heap.size ≠ bL := by omega
  clear hw0 hbL
  go_wp2_with fail
  refine (HP1.out _).mono ?_
  rintro e w1 ⟨u, rfl, hown, hb1⟩
  have hl : PstsAt w1 u [pairP1] := ListAt.owns hown
  obtain ⟨au, cu, rfl, -, -⟩ := owns_gen hown
  have hy1 := obj_below HY0.out hb1
  have HX1 := Lib.hid (obj_below HX0.out hb1)
  have HB1 := Lib.hid (HB0.out.trans (hb1.mono HB0.out.size))
  have z1 := obj_cell hy1 0
  have f1 := obj_free hy1 0
  simp at z1
  obtain ⟨w2, hw2⟩ : ∃ W, W = w1.setCell ⟨bL, 0, none⟩ (.slice au 1 cu) := ⟨_, rfl⟩
  have hg2 : w1.grownBy w2 (some bL) := by rw [hw2]; exact setCell_grown _ _
  have HL2 := Lib.hid (PstsAt.keep hl (lone_ldg hy1) hg2)
  have HB2 : Hid (Below w.heap.size w w2) := Lib.hid (by rw [hw2]; exact HB1.out.setCell hwb _)
  have HX2 : Hid (w2.heap[w.heap.size]? = some (.cells #[.slice none 0 0] 27 (0, 0))) := Lib.hid ((hg2.block _ (obj_lt HX1.out) (by simp; omega)).trans HX1.out)
  have HY2 : Hid (w2.heap[bL]? = some (.cells #[.slice au 1 cu] 27 (0, 0))) := Lib.hid (by rw [hw2]; have := obj_set hy1 0 (.slice au 1 cu); simpa using this)
  have HW2 := Lib.hid hw2
  clear hown hb1 y0 hl hy1 hg2 HP1 hw2
  go_upto_region 3 with fail
  rw [← HW2.out]
  have y2 := obj_cell HY2.out 0
  simp at y2
  clear z1 f1
  go_wp2_with fail
  refine (HP2.out _ _ HL2.out).mono ?_
  rintro e w3 ⟨u3, rfl, hown, hb3⟩
  have hl : PstsAt w3 u3 [pairP1, pairP2] := ListAt.owns hown
  obtain ⟨a3, c3, rfl, -, -⟩ := owns_gen hown
  have hy3 := obj_below HY2.out hb3
  have HX3 := Lib.hid (obj_below HX2.out hb3)
  have HB3 := Lib.hid (HB2.out.trans (hb3.mono HB2.out.size))
  have z3 := obj_cell hy3 0
  have f3 := obj_free hy3 0
  simp at z3
  obtain ⟨w4, hw4⟩ : ∃ W, W = w3.setCell ⟨bL, 0, none⟩ (.slice a3 2 c3) := ⟨_, rfl⟩
  have hg4 : w3.grownBy w4 (some bL) := by rw [hw4]; exact setCell_grown _ _
  have HL4 := Lib.hid (PstsAt.keep hl (lone_ldg hy3) hg4)
  have HB4 : Hid (Below w.heap.size w w4) := Lib.hid (by rw [hw4]; exact HB3.out.setCell hwb _)
  have HX4 : Hid (w4.heap[w.heap.size]? = some (.cells #[.slice none 0 0] 27 (0, 0))) := Lib.hid ((hg4.block _ (obj_lt HX3.out) (by simp; omega)).trans HX3.out)
  have HY4 : Hid (w4.heap[bL]? = some (.cells #[.slice a3 2 c3] 27 (0, 0))) := Lib.hid (by rw [hw4]; have := obj_set hy3 0 (.slice a3 2 c3); simpa using this)
  have HW4 := Lib.hid hw4
  clear hown hb3 y2 hl hy3 hg4 HP2 hw4
  go_upto_region 4 with fail
  rw [← HW4.out]
  have y4 := obj_cell HY4.out 0
  have x4 := obj_cell HX4.out 0
  have x4f := obj_free HX4.out 0
  simp at y4 x4
  clear z3 f3
  obtain ⟨w5, hw5⟩ : ∃ W, W = w4.setCell ⟨w.heap.size, 0, none⟩ (.slice a3 2 c3) := ⟨_, rfl⟩
  have hg5 : w4.grownBy w5 (some w.heap.size) := by rw [hw5]; exact setCell_grown _ _
  have HL5 := Lib.hid (PstsAt.keep HL4.out (lone_ldg HX4.out) hg5)
  have HB5 : Hid (Below w.heap.size w w5) := Lib.hid (by rw [hw5]; exact HB4.out.setCell (show w.heap.size ≤ w.heap.size from Nat.le_refl _) _)
  have HX5 : Hid (w5.heap[w.heap.size]? = some (.cells #[.slice a3 2 c3] 27 (0, 0))) := Lib.hid (by rw [hw5]; have := obj_set HX4.out 0 (.slice a3 2 c3); simpa using this)
  have HW5 := Lib.hid hw5
  clear hw5 hg5
  go_wp2
  rw [← HW5.out]
  have x5 := obj_cell HX5.out 0
  simp at x5
  clear x4 x4f y4
  exact bodyPost_ret (v := .agg #[.slice a3 2 c3]) (by simp [results, Try.results29, go_sem, x5]) rfl ⟨_, rfl, HL5.out, HB5.out⟩

end Go.Proofs.Ytdbpbmejgdbppaa
