/- The chapter's example: sane of layer 43. -/
import Derived.Test.YtdbpbmejgdbppaaCsP
import Derived.Test.YtdbpbmejgdbppaaRegInv
set_option linter.unusedSimpArgs false
set_option linter.unusedVariables false
namespace Go.Proofs.Ytdbpbmejgdbppaa
open Go.RowKit Go.Lib Go.Proofs

theorem list_newC {α : Type} {f : α → List Value} {m : Nat} (hf : Fields f m) (w : World) (l : List α) (T : TypeId) : ListAt f m (w.alloc (.cells (cellsL f l).toArray T)) (.slice (some ⟨w.heap.size, 0, none⟩) l.length l.length) l := by
  refine ⟨cellsL_len hf l, _, _, rfl, Nat.le_refl _, Or.inr ⟨w.heap.size, 0, rfl, by simp, fun j hj => ?_⟩⟩
  rw [Nat.zero_add, obj_cell (heap_alloc_new w (.cells (cellsL f l).toArray T)) j]
  simp

theorem pair_elim : elimQ 0 [pairP1, pairP2] (eachQ [1, 2] (refsM [pairP1, pairP2])) = 80 := by decide
theorem pair_dif : difL 0 [pairP1, pairP2] (eachQ [1, 2] (refsM [pairP1, pairP2])) = [⟨1, 1, 2, 7, 20⟩] := by kernel_rfl

set_option maxRecDepth 100000 in
set_option maxHeartbeats 4000000 in
theorem sane43_true (w : World) : Calls Try.prog 15 #[] w fun e w' => e = .returned (.bool true) ∧ Below w.heap.size w w' := by
  have HPR := Lib.hid (pair43_any w)
  have HWH := Lib.hid (fun vl vg W (hl : PstsAt W vl [pairP1, pairP2]) (hg : ListAt intC 1 W vg [1, 2]) => csWhole_right pairL_ok (g := [1, 2]) ⟨by decide, by decide, by decide, by decide⟩ 0 ⟨by decide, by decide⟩ vl vg W hl hg)
  unfold WhPost at HWH
  rw [pair_elim, pair_dif] at HWH
  go_enter Try.func15, Try.ntmps15
  go_wp2_with fail
  refine (HPR.out).mono ?_
  rintro e w1 ⟨v, rfl, hl, hb1⟩
  obtain ⟨bg, hbg⟩ : ∃ b, b = w1.heap.size := ⟨_, rfl⟩
  obtain ⟨w2, hw2⟩ : ∃ W, W = w1.alloc (.cells #[.int .i64 1, .int .i64 2] 3) := ⟨_, rfl⟩
  have HB2 : Hid (Below w.heap.size w w2) := Lib.hid (by rw [hw2]; exact hb1.alloc hb1.size _)
  have HL2 : Hid (PstsAt w2 v [pairP1, pairP2]) := Lib.hid (by rw [hw2]; exact hl.below (below_alloc _ _))
  have HG2 : Hid (ListAt intC 1 w2 (.slice (some ⟨bg, 0, none⟩) 2 2) [1, 2]) := Lib.hid (by rw [hw2, hbg]; exact list_newC intF w1 ([1, 2] : List Int) 3)
  have HW2 := Lib.hid hw2
  have HBG := Lib.hid hbg
  clear hl hb1 HPR hw2 hbg
  go_wp2_with fail
  rw [← HW2.out, ← HBG.out]
  refine (HWH.out _ _ _ HL2.out HG2.out).mono ?_
  rintro e w3 ⟨vb, vd, rfl, hb, hd, hb3⟩
  obtain ⟨a0, c0, hvb, -, -⟩ := owns_gen hb
  obtain ⟨n0, hn0⟩ : ∃ n, n = (balsM (wholeM 0 [pairP1, pairP2] [1, 2])).length := ⟨_, rfl⟩
  rw [← hn0] at hvb
  subst hvb
  obtain ⟨a1, c1, hvd, -, -⟩ := owns_gen hd
  simp only [List.length_cons, List.length_nil, Nat.zero_add] at hvd
  subst hvd
  obtain ⟨bW, hbW⟩ : ∃ b, b = w3.heap.size := ⟨_, rfl⟩
  obtain ⟨w4, hw4⟩ : ∃ W, W = w3.alloc (.cells #[.slice a0 n0 c0, .int .i64 80, .slice a1 1 c1] 47) := ⟨_, rfl⟩
  have HB4 : Hid (Below w.heap.size w w4) := Lib.hid (by rw [hw4]; have := HB2.out.trans (hb3.mono HB2.out.size); exact this.alloc this.size _)
  have HD4 : Hid (ListAt difC 5 w4 (.slice a1 1 c1) [⟨1, 1, 2, 7, 20⟩]) := Lib.hid (by rw [hw4]; exact ListAt.below (ListAt.owns hd) (below_alloc _ _))
  have HX4 : Hid (w4.heap[bW]? = some (.cells #[.slice a0 n0 c0, .int .i64 80, .slice a1 1 c1] 47 (0, 0))) := Lib.hid (by rw [hw4, hbW]; exact heap_alloc_new _ _)
  have HW4 := Lib.hid hw4
  have HBW := Lib.hid hbW
  clear hb hd hb3 hn0 HWH hw4 hbW
  go_upto_region 2 with fail
  rw [← HW4.out, ← HBW.out]
  have x0 := obj_cell HX4.out 0
  have x1 := obj_cell HX4.out 1
  have x2 := obj_cell HX4.out 2
  simp at x0 x1 x2
  obtain ⟨bD, hbD⟩ : ∃ b, b = w4.heap.size := ⟨_, rfl⟩
  obtain ⟨w5, hw5⟩ : ∃ W, W = w4.alloc (.cells #[.int .i64 1, .int .i64 1, .int .i64 2, .int .i64 7, .int .i64 20] 35) := ⟨_, rfl⟩
  have HB5 : Hid (Below w.heap.size w w5) := Lib.hid (by rw [hw5]; exact HB4.out.alloc HB4.out.size _)
  have HD5 : Hid (ListAt difC 5 w5 (.slice a1 1 c1) [⟨1, 1, 2, 7, 20⟩]) := Lib.hid (by rw [hw5]; exact HD4.out.below (below_alloc _ _))
  have HE5 : Hid (ListAt difC 5 w5 (.slice (some ⟨bD, 0, none⟩) 1 1) [⟨1, 1, 2, 7, 20⟩]) := Lib.hid (by rw [hw5, hbD]; exact list_newC difF w4 ([⟨1, 1, 2, 7, 20⟩] : List Dif) 35)
  have HW5 := Lib.hid hw5
  have HBD := Lib.hid hbD
  clear hw5 hbD
  go_wp2_with fail
  rw [← HW5.out, ← HBD.out]
  refine (cgDifferences_same [⟨1, 1, 2, 7, 20⟩] _ _ _ (by decide) HD5.out HE5.out).mono ?_
  rintro e w6 ⟨rfl, hb6⟩
  have HB6 := Lib.hid (HB5.out.trans (hb6.mono HB5.out.size))
  clear hb6
  go_wp2
  go_ret
  exact ⟨rfl, HB6.out⟩

end Go.Proofs.Ytdbpbmejgdbppaa
