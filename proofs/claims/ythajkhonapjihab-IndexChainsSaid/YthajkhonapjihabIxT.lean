/- The statements' indexed security and index, and their example. -/
import Derived.Test.YthajkhonapjihabIxF
import Derived.Test.YthajkhonapjihabSrcI
set_option linter.unusedSimpArgs false
set_option linter.unusedVariables false
namespace Go.Proofs.Ythajkhonapjihab
open Go.RowKit Go.Lib Go.Proofs

def tenthL : List Int := [100, 101, 102, 103, 104, 105, 110, 110, 110, 110, 110, 110, 110, 110]
set_option maxHeartbeats 4000000 in
theorem tenth36_any (w : World) : Calls Try.prog 8 #[] w fun e w' => ∃ g, e = .returned (.tuple #[.agg #[.int .i64 1, .int .i64 1, .int .i64 90, .int .i64 450, .int .i64 5000, .int .i64 6, .bool true], .agg #[.int .i64 0, .slice (some ⟨g, 0, none⟩) 14 14]]) ∧ w.heap.size ≤ g ∧ w'.heap[g]? = some (.cells (cellsI tenthL).toArray 3 (0, 0)) ∧ Below w.heap.size w w' := by
  go_enter Try.func8, Try.ntmps8
  go_wp2
  have a2 := heap_alloc_new ((w.alloc (.cells #[.int .i64 1, .int .i64 1, .int .i64 90, .int .i64 450, .int .i64 5000, .int .i64 6, .bool true] 27)).alloc (.cells #[.int .i64 0, .slice (some ⟨w.heap.size + 1 + 1, 0, none⟩) 14 14] 29)) (.cells (cellsI tenthL).toArray 3)
  have hs2 : ((w.alloc (.cells #[.int .i64 1, .int .i64 1, .int .i64 90, .int .i64 450, .int .i64 5000, .int .i64 6, .bool true] 27)).alloc (.cells #[.int .i64 0, .slice (some ⟨w.heap.size + 1 + 1, 0, none⟩) 14 14] 29)).heap.size = w.heap.size + 1 + 1 := by simp
  rw [hs2] at a2
  have a1 := obj_below (alloc2_at w (.cells #[.int .i64 1, .int .i64 1, .int .i64 90, .int .i64 450, .int .i64 5000, .int .i64 6, .bool true] 27) (.cells #[.int .i64 0, .slice (some ⟨w.heap.size + 1 + 1, 0, none⟩) 14 14] 29)) (below_alloc _ (.cells (cellsI tenthL).toArray 3))
  have a0 := obj_below (alloc1_at w (.cells #[.int .i64 1, .int .i64 1, .int .i64 90, .int .i64 450, .int .i64 5000, .int .i64 6, .bool true] 27) (.cells #[.int .i64 0, .slice (some ⟨w.heap.size + 1 + 1, 0, none⟩) 14 14] 29)) (below_alloc _ (.cells (cellsI tenthL).toArray 3))
  have hbel : Below w.heap.size w (((w.alloc (.cells #[.int .i64 1, .int .i64 1, .int .i64 90, .int .i64 450, .int .i64 5000, .int .i64 6, .bool true] 27)).alloc (.cells #[.int .i64 0, .slice (some ⟨w.heap.size + 1 + 1, 0, none⟩) 14 14] 29)).alloc (.cells (cellsI tenthL).toArray 3)) := (below2 w _ _).alloc (by simp; omega) _
  simp only [tenthL, cellsI, List.map_cons, List.map_nil] at a2 a1 a0 hbel
  generalize ((w.alloc (.cells #[.int .i64 1, .int .i64 1, .int .i64 90, .int .i64 450, .int .i64 5000, .int .i64 6, .bool true] 27)).alloc (.cells #[.int .i64 0, .slice (some ⟨w.heap.size + 1 + 1, 0, none⟩) 14 14] 29)).alloc (.cells #[.int .i64 100, .int .i64 101, .int .i64 102, .int .i64 103, .int .i64 104, .int .i64 105, .int .i64 110, .int .i64 110, .int .i64 110, .int .i64 110, .int .i64 110, .int .i64 110, .int .i64 110, .int .i64 110] 3) = F at *
  have q0 := obj_cell a0 0
  have q1 := obj_cell a0 1
  have q2 := obj_cell a0 2
  have q3 := obj_cell a0 3
  have q4 := obj_cell a0 4
  have q5 := obj_cell a0 5
  have q6 := obj_cell a0 6
  have p0 := obj_cell a1 0
  have p1 := obj_cell a1 1
  refine bodyPost_ret (v := .tuple #[.agg #[.int .i64 1, .int .i64 1, .int .i64 90, .int .i64 450, .int .i64 5000, .int .i64 6, .bool true], .agg #[.int .i64 0, .slice (some ⟨w.heap.size + 1 + 1, 0, none⟩) 14 14]]) ?_ rfl ⟨_, rfl, by omega, a2, hbel⟩
  simp [results, Try.results8, go_sem, q0, q1, q2, q3, q4, q5, q6, p0, p1]

theorem own_of_cells {w : World} {g n : Nat} {L : List Int} (h : w.heap[g]? = some (.cells (cellsI L).toArray 3 (0, 0))) (hn : n = L.length) (hm : n ≤ 1000000) (base : Nat) (hb : base ≤ g) : w.ownsRow base 3 1 (.slice (some ⟨g, 0, none⟩) n n) n (cellsI L) := by
  refine ⟨by simp [cellsI, hn], Or.inr ⟨g, n, _, rfl, hb, h, Nat.le_refl _, by unfold maxLen; omega, by simp [cellsI, hn], by rw [hn, Nat.mul_one]; exact List.take_of_length_le (by simp [cellsI])⟩⟩

/-- A list of 14 numbers from 50 to 405 in a row of the call's own is an index. -/
theorem idx_own {w : World} {base g cap : Nat} {L : List Int} (h : w.ownsRow base 3 1 (.slice (some ⟨g, 0, none⟩) 14 cap) 14 (cellsI L)) (hb : ∀ x ∈ L, 50 ≤ x ∧ x ≤ 405) : IdxAt w g L ∧ 14 ≤ cap := by
  have hl : L.length = 14 := by have := h.1; simpa [cellsI] using this
  obtain ⟨ao, cap', he, hcap, hg⟩ := owns_gen h
  simp only [Value.slice.injEq] at he
  obtain ⟨rfl, _, rfl⟩ := he
  refine ⟨⟨hl, fun i hi => ?_, (h.lt g rfl).2, fun i hi => ?_⟩, hcap⟩
  · rw [getD_eq (by omega)]
    have := hb _ (List.getElem_mem (l := L) (n := i) (by omega))
    omega
  · rw [h.cellAt i (by omega), cellsI_get L i (by omega)]

set_option maxHeartbeats 1000000 in
theorem sane36_any (w : World) : Calls Try.prog 12 #[] w fun e w' => e = .returned (.bool true) ∧ Below w.heap.size w w' := by
  have HT := Lib.hid tenth36_any
  have hbd : ∀ x ∈ tenthL, 50 ≤ x ∧ x ≤ 405 := by decide
  have HBD := Lib.hid hbd
  clear hbd
  go_enter Try.func12, Try.ntmps12
  go_wp2_with fail
  refine (HT.out _).mono ?_
  rintro e w1 ⟨g, rfl, hg, ho, b1⟩
  obtain ⟨hix, hcap⟩ := idx_own (own_of_cells ho (by decide) (by decide) w.heap.size hg) HBD.out
  have HIX := Lib.hid (hix.below (below2 w1 (.cells #[.int .i64 1, .int .i64 1, .int .i64 90, .int .i64 450, .int .i64 5000, .int .i64 6, .bool true] 27) (.cells #[.int .i64 0, .slice (some ⟨g, 0, none⟩) 14 14] 29)))
  have HB := Lib.hid (b1.trans ((below2 w1 (.cells #[.int .i64 1, .int .i64 1, .int .i64 90, .int .i64 450, .int .i64 5000, .int .i64 6, .bool true] 27) (.cells #[.int .i64 0, .slice (some ⟨g, 0, none⟩) 14 14] 29)).mono b1.size))
  have HC := Lib.hid (alloc2_at w1 (.cells #[.int .i64 1, .int .i64 1, .int .i64 90, .int .i64 450, .int .i64 5000, .int .i64 6, .bool true] 27) (.cells #[.int .i64 0, .slice (some ⟨g, 0, none⟩) 14 14] 29))
  have HS := Lib.hid (ixScaled_ok HIX.out (Nat.le_refl 14) (a := 1000) (d := 270) (by decide) (by decide) (by decide) (by decide))
  rw [show scaledI tenthL 1000 270 = 1100 by decide] at HS
  clear hix ho b1 hg hcap
  go_wp2_with fail
  with_reducible refine (HS.out).mono ?_
  rintro e w2 ⟨rfl, b2⟩
  have HB2 := Lib.hid (HB.out.trans (b2.mono HB.out.size))
  have HK := Lib.hid (ixCheck_ok (HIX.out.below b2) (Nat.le_refl 14))
  have hc2 := obj_below HC.out b2
  have v0 := obj_cell hc2 0
  have v1 := obj_cell hc2 1
  simp at v0 v1
  clear b2 hc2 HB HS HIX HC
  go_wp2_with (go_at_call 28; refine (HK.out).mono ?_; rintro e w3 ⟨rfl, b3⟩)
  go_ret
  exact ⟨rfl, HB2.out.trans (b3.mono HB2.out.size)⟩

end Go.Proofs.Ythajkhonapjihab
