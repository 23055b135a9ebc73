/- closing of layer 41: a right closing, for every tape. -/
import Derived.Test.YtknmgkjfopoinaaGreatDoorMAaT
import Derived.Test.YtknmgkjfopoinaaGreatDoorMPut4
set_option linter.unusedSimpArgs false
set_option linter.unusedVariables false
set_option linter.unusedSimpArgs false
set_option linter.unusedVariables false
namespace Go.Proofs.YtknmgkjfopoinaaGreatDoor
open Go.RowKit Go.Lib Go.Proofs

/-- What a closing of the source holds. -/
structure ClsS (i u p : Int) (l : List Clm) : Prop where
  i : 0 ≤ i ∧ i ≤ 120
  u : 0 ≤ u ∧ u ≤ 500
  p : 0 ≤ p ∧ p ≤ 12
  ok : ∀ c ∈ l, ClmS c
  len : (l.length : Int) ≤ 5

set_option maxRecDepth 100000 in
set_option maxHeartbeats 4000000 in
theorem closing41_any (tb : Nat) (w : World) (hs : SrcAt w tb) :
    Calls Tryz.prog 9 #[.pointer (some ⟨tb, 0, none⟩)] w fun e w' => ∃ i u p v l, e = .returned (.agg #[.int .i64 i, .int .i64 u, .int .i64 p, v]) ∧ ClsS i u p l ∧ w'.ownsRow (w.heap.size + 1) 39 6 v l.length (cellsL clmC l) ∧ SI w tb w' := by
  have hlt := hs.lt
  obtain ⟨w0, hw0⟩ : ∃ W, W = w.alloc (.cells #[.int .i64 0, .int .i64 0, .int .i64 0, .slice none 0 0] 31) := ⟨_, rfl⟩
  have HI0 : Hid (SI w tb w0) := Lib.hid (by rw [hw0]; exact (si_start hs).alloc _)
  have HX0 : Hid (w0.heap[w.heap.size]? = some (.cells #[.int .i64 0, .int .i64 0, .int .i64 0, .slice none 0 0] 31 (0, 0))) := Lib.hid (by rw [hw0]; exact heap_alloc_new _ _)
  have hne : w.heap.size ≠ tb := by omega
  have HW0 := Lib.hid hw0
  clear hs hw0
  go_enter Tryz.func9, Tryz.ntmps9
  go_upto_region 1 with fail
  rw [← HW0.out]
  go_wp2_with fail
  with_reducible refine Calls.mono (pick_in _ [0, 7, 120] _ _ rfl HI0.out (by simp) (by simp) _ rfl _ (by simp)) ?_
  rintro e w1 ⟨i, rfl, hi, hi1, hg1⟩
  have hib : 0 ≤ i ∧ i ≤ 120 := (by decide : ∀ x ∈ ([0, 7, 120] : List Int), 0 ≤ x ∧ x ≤ 120) i hi
  have HI1 := Lib.hid hi1
  have HX1 := Lib.hid (obj_turn (obj_below HX0.out (below_alloc _ _)) hg1 hne)
  clear hi hi1 hg1 HI0 HX0
  go_wp2_with fail
  with_reducible refine Calls.mono (pick_in _ [0, 30, 500] _ _ rfl HI1.out (by simp) (by simp) _ rfl _ (by simp)) ?_
  rintro e w2 ⟨u, rfl, hu, hi2, hg2⟩
  have hub : 0 ≤ u ∧ u ≤ 500 := (by decide : ∀ x ∈ ([0, 30, 500] : List Int), 0 ≤ x ∧ x ≤ 500) u hu
  have HI2 := Lib.hid hi2
  have HX2 := Lib.hid (obj_turn (obj_below HX1.out (below_alloc _ _)) hg2 hne)
  clear hu hi2 hg2 HI1 HX1
  go_wp2_with fail
  with_reducible refine Calls.mono (pick_in _ [0, 12] _ _ rfl HI2.out (by simp) (by simp) _ rfl _ (by simp)) ?_
  rintro e w3 ⟨p, rfl, hp, hi3, hg3⟩
  have hpb : 0 ≤ p ∧ p ≤ 12 := (by decide : ∀ x ∈ ([0, 12] : List Int), 0 ≤ x ∧ x ≤ 12) p hp
  have HI3 := Lib.hid hi3
  have HX3 := Lib.hid (obj_turn (obj_below HX2.out (below_alloc _ _)) hg3 hne)
  clear hp hi3 hg3 HI2 HX2
  go_wp2_with fail
  refine (sClaims_any tb 5 w3 HI3.out.src (by omega)).mono ?_
  rintro e w4 ⟨l, v, rfl, hok, hlen, hown, hsi⟩
  have HI4 := Lib.hid (HI3.out.turn hsi.src hsi.old)
  have HX4 := Lib.hid (obj_turn HX3.out hsi.old hne)
  have hz : w.heap.size + 1 ≤ w3.heap.size := by have := obj_lt HX3.out; omega
  have HO4 := Lib.hid (ownsRow_mono hown hz)
  obtain ⟨av, cv, rfl, -, -⟩ := owns_gen hown
  have HCS : Hid (ClsS i u p l) := Lib.hid ⟨hib, hub, hpb, hok, hlen⟩
  have hx4 := HX4.out
  have c0 := obj_cell hx4 0
  have c1 := obj_cell hx4 1
  have c2 := obj_cell hx4 2
  have c3 := obj_cell hx4 3
  simp at c0 c1 c2 c3
  have f0 := obj_free hx4 0
  have f1 := obj_free hx4 1
  have f2 := obj_free hx4 2
  have f3 := obj_free hx4 3
  obtain ⟨n, hn⟩ : ∃ n, n = l.length := ⟨_, rfl⟩
  have HN := Lib.hid hn
  rw [← hn] at HO4 ⊢
  clear hx4 hok hlen hown hsi hz HI3 HX3 hn
  go_wp2
  refine ret4 HX4.out rfl _ _ _ _ (v := .agg #[.int .i64 i, .int .i64 u, .int .i64 p, .slice av n cv]) (fun F hF => ?_) rfl ⟨i, u, p, .slice av n cv, l, rfl, HCS.out, ?_, ?_⟩
  · have q0 := obj_cell hF 0
    have q1 := obj_cell hF 1
    have q2 := obj_cell hF 2
    have q3 := obj_cell hF 3
    simp at q0 q1 q2 q3
    simp [results, Tryz.results9, go_sem, q0, q1, q2, q3]
  · rw [← HN.out]
    exact HO4.out.kept (put4_grown _ _ _ _ _ _) (ownBlock_ne HO4.out w.heap.size (Nat.lt_succ_self _))
  · exact HI4.out.put4 (Nat.le_refl _) _ _ _ _

end Go.Proofs.YtknmgkjfopoinaaGreatDoor
