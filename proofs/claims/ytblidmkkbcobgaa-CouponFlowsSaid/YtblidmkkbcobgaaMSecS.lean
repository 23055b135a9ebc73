/- The contract of treasuryplay's Security: a security that is right; only the source's place has turned. -/
import Derived.Test.YtblidmkkbcobgaaMG1
import Derived.IntWalk
import Derived.Deep.RegionHeld3
import Derived.Deep.RegionWith
import Derived.Deep.DeepCutAuto
set_option linter.unusedSimpArgs false
set_option linter.unusedVariables false
namespace Go.Proofs.Ytblidmkkbcobgaa
open Go.RowKit Go.Lib Go.Proofs

theorem sec_ok_mk {id u a m q e z r : Int} {x : Bool} (i0 : 1 ≤ id) (i1 : id ≤ 1000) (u0 : 1 ≤ u) (u1 : u ≤ 1000000000) (a0 : 0 ≤ a) (a1 : a ≤ 36000) (m1 : m ≤ 35990) (r0 : 1 ≤ r) (t : m = a + 30 * (z * r)) (zr : z * r ≤ 600) (q0 : 0 ≤ q) (q1 : q ≤ 20000)
    (ev : (e = 0 ∧ q = 0 ∧ z = 1) ∨ (e = 1 ∧ z = 1) ∨ (e = 3 ∧ z = 3) ∨ (e = 6 ∧ z = 6) ∨ (e = 12 ∧ z = 12)) : SecOk ⟨id, u, a, m, q, e, x⟩ z r := ⟨i0, i1, u0, u1, a0, a1, m1, r0, t, zr, q0, q1, ev⟩

/-- What Security hands back. -/
def SecPost (tb : Nat) (id : Int) (w : World) (e : Ending) (w' : World) : Prop := ∃ (s : Sec) (z r : Int), e = .returned (.agg s.cells.toArray) ∧ SecOk s z r ∧ s.id = id ∧ r ≤ 5 ∧ s.iss ≤ 100 ∧ s.rate ≤ 5000 ∧ SrcAt w' tb ∧ w.grownBy w' (some tb)

set_option maxHeartbeats 4000000 in
theorem sSecurity_any (tb : Nat) (id : Int) (w : World) (ht : SrcAt w tb) (h0 : 1 ≤ id) (h1 : id ≤ 1000) :
    Calls Try.prog 36 #[.pointer (some ⟨tb, 0, none⟩), .int .i64 id] w (SecPost tb id w) := by
  have HI0 := Lib.hid ((si_start ht).alloc (.cells #[.int .i64 0, .int .i64 0, .int .i64 0, .int .i64 0, .int .i64 0, .int .i64 0, .bool false] 55))
  have HR0 := Lib.hid (heap_alloc_new w (.cells #[.int .i64 0, .int .i64 0, .int .i64 0, .int .i64 0, .int .i64 0, .int .i64 0, .bool false] 55))
  have hne : w.heap.size ≠ tb := by have := ht.lt; omega
  have HNE := Lib.hid hne
  clear ht hne
  go_enter Try.func36, Try.ntmps36
  go_wp2_with fail
  with_reducible refine Calls.mono (pick_in _ [1, 10, 100] _ _ rfl HI0.out (by simp) (by simp) _ rfl _ (by simp)) ?_
  rintro e w1 ⟨x1, rfl, hx1, hi1, hg1⟩
  have HI1 := Lib.hid hi1
  have HR1 := Lib.hid (obj_turn (obj_below HR0.out (below_alloc _ _)) hg1 HNE.out)
  clear hi1 hg1 HI0 HR0
  go_wp2_with fail
  with_reducible refine Calls.mono (pick_in _ [0, 30, 90, 100] _ _ rfl HI1.out (by simp) (by simp) _ rfl _ (by simp)) ?_
  rintro e w2 ⟨x2, rfl, hx2, hi2, hg2⟩
  have HI2 := Lib.hid hi2
  have HR2 := Lib.hid (obj_turn (obj_below HR1.out (below_alloc _ _)) hg2 HNE.out)
  clear hi2 hg2 HI1 HR1
  go_wp2_with fail
  with_reducible refine Calls.mono (pick_in _ [0, 1000, 2500, 5000] _ _ rfl HI2.out (by simp) (by simp) _ rfl _ (by simp)) ?_
  rintro e w3 ⟨x4, rfl, hx4, hi3, hg3⟩
  have HI3 := Lib.hid hi3
  have HR3 := Lib.hid (obj_turn (obj_below HR2.out (below_alloc _ _)) hg3 HNE.out)
  clear hi3 hg3 HI2 HR2
  go_wp2_with fail
  with_reducible refine Calls.mono (pick_in _ [0, 1, 3, 6, 12] _ _ rfl HI3.out (by simp) (by simp) _ rfl _ (by simp)) ?_
  rintro e w4 ⟨x5, rfl, hx5, hi4, hg4⟩
  have HI4 := Lib.hid hi4
  have HR4 := Lib.hid (obj_turn (obj_below HR3.out (below_alloc _ _)) hg4 HNE.out)
  clear hi4 hg4 HI3 HR3
  go_wp2_with fail
  refine (n_in HI4.out 2 (by omega) (by omega)).mono ?_
  rintro e w5 ⟨x6, rfl, hx60, hx61, hi5, hg5⟩
  have HI5 := Lib.hid hi5
  have HR5 := Lib.hid (obj_turn HR4.out hg5 HNE.out)
  clear hi5 hg5 HI4 HR4
  have HRG := Lib.hid (fun W (h : SI w tb W) => range_in h 1 5 (by omega) (by omega) (by omega))
  have hx20 : 0 ≤ x2 ∧ x2 ≤ 100 := by simp at hx2; omega
  obtain ⟨hx20, hx21⟩ := hx20
  have hx10 : 1 ≤ x1 ∧ x1 ≤ 100 := by simp at hx1; omega
  have hx40 : 0 ≤ x4 ∧ x4 ≤ 5000 := by simp at hx4; omega
  simp at hx5
  rcases hx5 with rfl | rfl | rfl | rfl | rfl
  · go_upto_region 4 with fail
    generalize (x6 == 1) = bx
    have HI6 := Lib.hid (HI5.out.alloc (.cells #[.int .i64 id, .int .i64 x1, .int .i64 x2, .int .i64 0, .int .i64 0, .int .i64 0, .bool bx] 55))
    have hc6 := heap_alloc_new w5 (.cells #[.int .i64 id, .int .i64 x1, .int .i64 x2, .int .i64 0, .int .i64 0, .int .i64 0, .bool bx] 55)
    have hr6 := obj_below HR5.out (below_alloc w5 (.cells #[.int .i64 id, .int .i64 x1, .int .i64 x2, .int .i64 0, .int .i64 0, .int .i64 0, .bool bx] 55))
    have hsz := HI5.out.old.size
    have hlt := HI5.out.lt
    obtain ⟨b2, hb2⟩ : ∃ b2, b2 = w5.heap.size := ⟨_, rfl⟩
    rw [← hb2] at hc6 ⊢
    have hn2 : b2 ≠ tb := by omega
    have hn3 : Hid (b2 ≠ w.heap.size) := Lib.hid (by have := obj_lt HR5.out; omega)
    have HB2 : Hid (w.heap.size ≤ b2) := Lib.hid (by omega)
    generalize w5.alloc (.cells #[.int .i64 id, .int .i64 x1, .int .i64 x2, .int .i64 0, .int .i64 0, .int .i64 0, .bool bx] 55) = W at *
    have HC6 := Lib.hid hc6
    have HR6 := Lib.hid hr6
    have HN2 := Lib.hid hn2
    have u2 : W.cell? ⟨b2, 2, none⟩ = some (.int .i64 x2) := by have := obj_cell hc6 2; simpa using this
    have u5 : W.cell? ⟨b2, 5, none⟩ = some (.int .i64 0) := by have := obj_cell hc6 5; simpa using this
    clear hc6 hr6 hsz hlt hn2 hb2 HI5 HR5
    have HST := Lib.hid (fun (A : World) (v : Value) (h : A.cell? ⟨b2, 2, none⟩ = some (.int .i64 x2) ∧ A.cell? ⟨b2, 5, none⟩ = some (.int .i64 0)) => (⟨(cell_set_other A b2 3 2 v (by omega)).trans h.1, (cell_set_other A b2 3 5 v (by omega)).trans h.2⟩ : (A.setCell ⟨b2, 3, none⟩ v).cell? ⟨b2, 2, none⟩ = some (.int .i64 x2) ∧ (A.setCell ⟨b2, 3, none⟩ v).cell? ⟨b2, 5, none⟩ = some (.int .i64 0)))
    go_region_held3 (fun W => W.cell? ⟨b2, 2, none⟩ = some (.int .i64 x2) ∧ W.cell? ⟨b2, 5, none⟩ = some (.int .i64 0)) (first | exact ⟨u2, u5⟩ | exact ⟨v2, v5⟩ | exact HST.out _ _ ⟨v2, v5⟩ | exact HST.out _ _ (by assumption)) (first | (go_at_call 27; refine Calls.mono (HRG.out _ (by first | exact HI6.out | exact HI6.out.drew)) ?_; rintro e w7 ⟨r, rfl, r0, r1, hi7, hg7⟩; (have c7 : w7.heap[b2]? = some (.cells #[.int .i64 id, .int .i64 x1, .int .i64 x2, .int .i64 0, .int .i64 0, .int .i64 0, .bool bx] 55 (0, 0)) := (by first | exact obj_turn HC6.out hg7 HN2.out | exact obj_turn (obj_below HC6.out ((Below.refl _ _).drew)) hg7 HN2.out)); (have c8 := (by first | exact obj_turn HR6.out hg7 HNE.out | exact obj_turn (obj_below HR6.out ((Below.refl _ _).drew)) hg7 HNE.out : w7.heap[w.heap.size]? = some (.cells #[.int .i64 0, .int .i64 0, .int .i64 0, .int .i64 0, .int .i64 0, .int .i64 0, .bool false] 55 (0, 0)))); (have f3 := obj_free c7 3); (have v2 : w7.cell? ⟨b2, 2, none⟩ = some (.int .i64 x2) := (by have := obj_cell c7 2; simpa using this)); (have v3 : w7.cell? ⟨b2, 3, none⟩ = some (.int .i64 0) := (by have := obj_cell c7 3; simpa using this)); (have v5 : w7.cell? ⟨b2, 5, none⟩ = some (.int .i64 0) := (by have := obj_cell c7 5; simpa using this)); (have HC7 := Lib.hid c7); (have HC8 := Lib.hid c8); (have HI7 := Lib.hid hi7); clear hg7 c7 c8 hi7))
    all_goals
      have e1 : IntKind.i64.wrap (30) = 30 := by decide
      have e2 : IntKind.i64.wrap (30 * r) = 30 * r := IntWalk.i64_in _ (by omega)
      have e3 : IntKind.i64.wrap (x2 + 30 * r) = x2 + 30 * r := IntWalk.i64_in _ (by omega)
      rw [e1, e2, e3]
      have hc8 := obj_set HC7.out 3 (.int .i64 (x2 + 30 * r))
      simp at hc8
      have hr8 := (Below.heap_setCell w7 ⟨b2, 3, none⟩ (.int .i64 (x2 + 30 * r)) w.heap.size (by show w.heap.size ≠ b2; have := hn3.out; omega)).trans HC8.out
      have HI8 := Lib.hid (HI7.out.set (b := b2) HB2.out 3 (.int .i64 (x2 + 30 * r)))
      generalize w7.setCell ⟨b2, 3, none⟩ (.int .i64 (x2 + 30 * r)) = W8 at *
      have s0 := obj_cell hc8 0
      have s1 := obj_cell hc8 1
      have s2 := obj_cell hc8 2
      have s3 := obj_cell hc8 3
      have s4 := obj_cell hc8 4
      have s5 := obj_cell hc8 5
      have s6 := obj_cell hc8 6
      have d0 := obj_cell hr8 0
      have d1 := obj_cell hr8 1
      have d2 := obj_cell hr8 2
      have d3 := obj_cell hr8 3
      have d4 := obj_cell hr8 4
      have d5 := obj_cell hr8 5
      have d6 := obj_cell hr8 6
      have g0 := obj_free hr8 0
      have g1 := obj_free hr8 1
      have g2 := obj_free hr8 2
      have g3 := obj_free hr8 3
      have g4 := obj_free hr8 4
      have g5 := obj_free hr8 5
      have g6 := obj_free hr8 6
      simp at s0 s1 s2 s3 s4 s5 s6 d0 d1 d2 d3 d4 d5 d6
      have HR8 := Lib.hid hr8
      clear hr8 hc8 u2 u5 HST f3 v2 v3 v5 HC7 HC8 HI7 HC6 HR6 HI6 e1 e2 e3
      rename_i hHeld
      clear hHeld
      generalize hmat : x2 + 30 * r = mat at *
      go_wp2
      show bodyPost Try.prog Try.f36 _ Exit.ret _ (put7 W8 w.heap.size (.int .i64 id) (.int .i64 x1) (.int .i64 x2) (.int .i64 mat) (.int .i64 0) (.int .i64 0) (.bool bx))
      have hf := HI8.out.put7 (b := w.heap.size) (Nat.le_refl _) (.int .i64 id) (.int .i64 x1) (.int .i64 x2) (.int .i64 mat) (.int .i64 0) (.int .i64 0) (.bool bx)
      refine ret7 HR8.out rfl _ _ _ _ _ _ _ (fun F hF => ?_) rfl ⟨⟨id, x1, x2, mat, 0, 0, bx⟩, 1, r, rfl, sec_ok_mk h0 h1 (by omega) (by omega) hx20 (by omega) (by omega) r0 (by omega) (by omega) (by omega) (by omega) (Or.inl ⟨rfl, rfl, rfl⟩), rfl, r1, hx21, (by show 0 ≤ 5000; omega), hf.src, hf.old⟩
      have q0 := obj_cell hF 0
      have q1 := obj_cell hF 1
      have q2 := obj_cell hF 2
      have q3 := obj_cell hF 3
      have q4 := obj_cell hF 4
      have q5 := obj_cell hF 5
      have q6 := obj_cell hF 6
      simp [results, Try.results36, go_sem, q0, q1, q2, q3, q4, q5, q6]
      rfl
  · go_upto_region 4 with fail
    generalize (x6 == 1) = bx
    have HI6 := Lib.hid (HI5.out.alloc (.cells #[.int .i64 id, .int .i64 x1, .int .i64 x2, .int .i64 0, .int .i64 x4, .int .i64 1, .bool bx] 55))
    have hc6 := heap_alloc_new w5 (.cells #[.int .i64 id, .int .i64 x1, .int .i64 x2, .int .i64 0, .int .i64 x4, .int .i64 1, .bool bx] 55)
    have hr6 := obj_below HR5.out (below_alloc w5 (.cells #[.int .i64 id, .int .i64 x1, .int .i64 x2, .int .i64 0, .int .i64 x4, .int .i64 1, .bool bx] 55))
    have hsz := HI5.out.old.size
    have hlt := HI5.out.lt
    obtain ⟨b2, hb2⟩ : ∃ b2, b2 = w5.heap.size := ⟨_, rfl⟩
    rw [← hb2] at hc6 ⊢
    have hn2 : b2 ≠ tb := by omega
    have hn3 : Hid (b2 ≠ w.heap.size) := Lib.hid (by have := obj_lt HR5.out; omega)
    have HB2 : Hid (w.heap.size ≤ b2) := Lib.hid (by omega)
    generalize w5.alloc (.cells #[.int .i64 id, .int .i64 x1, .int .i64 x2, .int .i64 0, .int .i64 x4, .int .i64 1, .bool bx] 55) = W at *
    have HC6 := Lib.hid hc6
    have HR6 := Lib.hid hr6
    have HN2 := Lib.hid hn2
    have u2 : W.cell? ⟨b2, 2, none⟩ = some (.int .i64 x2) := by have := obj_cell hc6 2; simpa using this
    have u5 : W.cell? ⟨b2, 5, none⟩ = some (.int .i64 1) := by have := obj_cell hc6 5; simpa using this
    clear hc6 hr6 hsz hlt hn2 hb2 HI5 HR5
    have HST := Lib.hid (fun (A : World) (v : Value) (h : A.cell? ⟨b2, 2, none⟩ = some (.int .i64 x2) ∧ A.cell? ⟨b2, 5, none⟩ = some (.int .i64 1)) => (⟨(cell_set_other A b2 3 2 v (by omega)).trans h.1, (cell_set_other A b2 3 5 v (by omega)).trans h.2⟩ : (A.setCell ⟨b2, 3, none⟩ v).cell? ⟨b2, 2, none⟩ = some (.int .i64 x2) ∧ (A.setCell ⟨b2, 3, none⟩ v).cell? ⟨b2, 5, none⟩ = some (.int .i64 1)))
    go_region_held3 (fun W => W.cell? ⟨b2, 2, none⟩ = some (.int .i64 x2) ∧ W.cell? ⟨b2, 5, none⟩ = some (.int .i64 1)) (first | exact ⟨u2, u5⟩ | exact ⟨v2, v5⟩ | exact HST.out _ _ ⟨v2, v5⟩ | exact HST.out _ _ (by assumption)) (first | (go_at_call 27; refine Calls.mono (HRG.out _ (by first | exact HI6.out | exact HI6.out.drew)) ?_; rintro e w7 ⟨r, rfl, r0, r1, hi7, hg7⟩; (have c7 : w7.heap[b2]? = some (.cells #[.int .i64 id, .int .i64 x1, .int .i64 x2, .int .i64 0, .int .i64 x4, .int .i64 1, .bool bx] 55 (0, 0)) := (by first | exact obj_turn HC6.out hg7 HN2.out | exact obj_turn (obj_below HC6.out ((Below.refl _ _).drew)) hg7 HN2.out)); (have c8 := (by first | exact obj_turn HR6.out hg7 HNE.out | exact obj_turn (obj_below HR6.out ((Below.refl _ _).drew)) hg7 HNE.out : w7.heap[w.heap.size]? = some (.cells #[.int .i64 0, .int .i64 0, .int .i64 0, .int .i64 0, .int .i64 0, .int .i64 0, .bool false] 55 (0, 0)))); (have f3 := obj_free c7 3); (have v2 : w7.cell? ⟨b2, 2, none⟩ = some (.int .i64 x2) := (by have := obj_cell c7 2; simpa using this)); (have v3 : w7.cell? ⟨b2, 3, none⟩ = some (.int .i64 0) := (by have := obj_cell c7 3; simpa using this)); (have v5 : w7.cell? ⟨b2, 5, none⟩ = some (.int .i64 1) := (by have := obj_cell c7 5; simpa using this)); (have HC7 := Lib.hid c7); (have HC8 := Lib.hid c8); (have HI7 := Lib.hid hi7); clear hg7 c7 c8 hi7))
    all_goals
      have e1 : IntKind.i64.wrap (30) = 30 := by decide
      have e2 : IntKind.i64.wrap (30 * r) = 30 * r := IntWalk.i64_in _ (by omega)
      have e3 : IntKind.i64.wrap (x2 + 30 * r) = x2 + 30 * r := IntWalk.i64_in _ (by omega)
      rw [e1, e2, e3]
      have hc8 := obj_set HC7.out 3 (.int .i64 (x2 + 30 * r))
      simp at hc8
      have hr8 := (Below.heap_setCell w7 ⟨b2, 3, none⟩ (.int .i64 (x2 + 30 * r)) w.heap.size (by show w.heap.size ≠ b2; have := hn3.out; omega)).trans HC8.out
      have HI8 := Lib.hid (HI7.out.set (b := b2) HB2.out 3 (.int .i64 (x2 + 30 * r)))
      generalize w7.setCell ⟨b2, 3, none⟩ (.int .i64 (x2 + 30 * r)) = W8 at *
      have s0 := obj_cell hc8 0
      have s1 := obj_cell hc8 1
      have s2 := obj_cell hc8 2
      have s3 := obj_cell hc8 3
      have s4 := obj_cell hc8 4
      have s5 := obj_cell hc8 5
      have s6 := obj_cell hc8 6
      have d0 := obj_cell hr8 0
      have d1 := obj_cell hr8 1
      have d2 := obj_cell hr8 2
      have d3 := obj_cell hr8 3
      have d4 := obj_cell hr8 4
      have d5 := obj_cell hr8 5
      have d6 := obj_cell hr8 6
      have g0 := obj_free hr8 0
      have g1 := obj_free hr8 1
      have g2 := obj_free hr8 2
      have g3 := obj_free hr8 3
      have g4 := obj_free hr8 4
      have g5 := obj_free hr8 5
      have g6 := obj_free hr8 6
      simp at s0 s1 s2 s3 s4 s5 s6 d0 d1 d2 d3 d4 d5 d6
      have HR8 := Lib.hid hr8
      clear hr8 hc8 u2 u5 HST f3 v2 v3 v5 HC7 HC8 HI7 HC6 HR6 HI6 e1 e2 e3
      rename_i hHeld
      clear hHeld
      generalize hmat : x2 + 30 * r = mat at *
      go_wp2
      show bodyPost Try.prog Try.f36 _ Exit.ret _ (put7 W8 w.heap.size (.int .i64 id) (.int .i64 x1) (.int .i64 x2) (.int .i64 mat) (.int .i64 x4) (.int .i64 1) (.bool bx))
      have hf := HI8.out.put7 (b := w.heap.size) (Nat.le_refl _) (.int .i64 id) (.int .i64 x1) (.int .i64 x2) (.int .i64 mat) (.int .i64 x4) (.int .i64 1) (.bool bx)
      refine ret7 HR8.out rfl _ _ _ _ _ _ _ (fun F hF => ?_) rfl ⟨⟨id, x1, x2, mat, x4, 1, bx⟩, 1, r, rfl, sec_ok_mk h0 h1 (by omega) (by omega) hx20 (by omega) (by omega) r0 (by omega) (by omega) (by omega) (by omega) (Or.inr (Or.inl ⟨rfl, rfl⟩)), rfl, r1, hx21, (by show x4 ≤ 5000; omega), hf.src, hf.old⟩
      have q0 := obj_cell hF 0
      have q1 := obj_cell hF 1
      have q2 := obj_cell hF 2
      have q3 := obj_cell hF 3
      have q4 := obj_cell hF 4
      have q5 := obj_cell hF 5
      have q6 := obj_cell hF 6
      simp [results, Try.results36, go_sem, q0, q1, q2, q3, q4, q5, q6]
      rfl
  · go_upto_region 4 with fail
    generalize (x6 == 1) = bx
    have HI6 := Lib.hid (HI5.out.alloc (.cells #[.int .i64 id, .int .i64 x1, .int .i64 x2, .int .i64 0, .int .i64 x4, .int .i64 3, .bool bx] 55))
    have hc6 := heap_alloc_new w5 (.cells #[.int .i64 id, .int .i64 x1, .int .i64 x2, .int .i64 0, .int .i64 x4, .int .i64 3, .bool bx] 55)
    have hr6 := obj_below HR5.out (below_alloc w5 (.cells #[.int .i64 id, .int .i64 x1, .int .i64 x2, .int .i64 0, .int .i64 x4, .int .i64 3, .bool bx] 55))
    have hsz := HI5.out.old.size
    have hlt := HI5.out.lt
    obtain ⟨b2, hb2⟩ : ∃ b2, b2 = w5.heap.size := ⟨_, rfl⟩
    rw [← hb2] at hc6 ⊢
    have hn2 : b2 ≠ tb := by omega
    have hn3 : Hid (b2 ≠ w.heap.size) := Lib.hid (by have := obj_lt HR5.out; omega)
    have HB2 : Hid (w.heap.size ≤ b2) := Lib.hid (by omega)
    generalize w5.alloc (.cells #[.int .i64 id, .int .i64 x1, .int .i64 x2, .int .i64 0, .int .i64 x4, .int .i64 3, .bool bx] 55) = W at *
    have HC6 := Lib.hid hc6
    have HR6 := Lib.hid hr6
    have HN2 := Lib.hid hn2
    have u2 : W.cell? ⟨b2, 2, none⟩ = some (.int .i64 x2) := by have := obj_cell hc6 2; simpa using this
    have u5 : W.cell? ⟨b2, 5, none⟩ = some (.int .i64 3) := by have := obj_cell hc6 5; simpa using this
    clear hc6 hr6 hsz hlt hn2 hb2 HI5 HR5
    have HST := Lib.hid (fun (A : World) (v : Value) (h : A.cell? ⟨b2, 2, none⟩ = some (.int .i64 x2) ∧ A.cell? ⟨b2, 5, none⟩ = some (.int .i64 3)) => (⟨(cell_set_other A b2 3 2 v (by omega)).trans h.1, (cell_set_other A b2 3 5 v (by omega)).trans h.2⟩ : (A.setCell ⟨b2, 3, none⟩ v).cell? ⟨b2, 2, none⟩ = some (.int .i64 x2) ∧ (A.setCell ⟨b2, 3, none⟩ v).cell? ⟨b2, 5, none⟩ = some (.int .i64 3)))
    go_region_held3 (fun W => W.cell? ⟨b2, 2, none⟩ = some (.int .i64 x2) ∧ W.cell? ⟨b2, 5, none⟩ = some (.int .i64 3)) (first | exact ⟨u2, u5⟩ | exact ⟨v2, v5⟩ | exact HST.out _ _ ⟨v2, v5⟩ | exact HST.out _ _ (by assumption)) (first | (go_at_call 27; refine Calls.mono (HRG.out _ (by first | exact HI6.out | exact HI6.out.drew)) ?_; rintro e w7 ⟨r, rfl, r0, r1, hi7, hg7⟩; (have c7 : w7.heap[b2]? = some (.cells #[.int .i64 id, .int .i64 x1, .int .i64 x2, .int .i64 0, .int .i64 x4, .int .i64 3, .bool bx] 55 (0, 0)) := (by first | exact obj_turn HC6.out hg7 HN2.out | exact obj_turn (obj_below HC6.out ((Below.refl _ _).drew)) hg7 HN2.out)); (have c8 := (by first | exact obj_turn HR6.out hg7 HNE.out | exact obj_turn (obj_below HR6.out ((Below.refl _ _).drew)) hg7 HNE.out : w7.heap[w.heap.size]? = some (.cells #[.int .i64 0, .int .i64 0, .int .i64 0, .int .i64 0, .int .i64 0, .int .i64 0, .bool false] 55 (0, 0)))); (have f3 := obj_free c7 3); (have v2 : w7.cell? ⟨b2, 2, none⟩ = some (.int .i64 x2) := (by have := obj_cell c7 2; simpa using this)); (have v3 : w7.cell? ⟨b2, 3, none⟩ = some (.int .i64 0) := (by have := obj_cell c7 3; simpa using this)); (have v5 : w7.cell? ⟨b2, 5, none⟩ = some (.int .i64 3) := (by have := obj_cell c7 5; simpa using this)); (have HC7 := Lib.hid c7); (have HC8 := Lib.hid c8); (have HI7 := Lib.hid hi7); clear hg7 c7 c8 hi7))
    all_goals
      have e1 : IntKind.i64.wrap (90) = 90 := by decide
      have e2 : IntKind.i64.wrap (90 * r) = 90 * r := IntWalk.i64_in _ (by omega)
      have e3 : IntKind.i64.wrap (x2 + 90 * r) = x2 + 90 * r := IntWalk.i64_in _ (by omega)
      rw [e1, e2, e3]
      have hc8 := obj_set HC7.out 3 (.int .i64 (x2 + 90 * r))
      simp at hc8
      have hr8 := (Below.heap_setCell w7 ⟨b2, 3, none⟩ (.int .i64 (x2 + 90 * r)) w.heap.size (by show w.heap.size ≠ b2; have := hn3.out; omega)).trans HC8.out
      have HI8 := Lib.hid (HI7.out.set (b := b2) HB2.out 3 (.int .i64 (x2 + 90 * r)))
      generalize w7.setCell ⟨b2, 3, none⟩ (.int .i64 (x2 + 90 * r)) = W8 at *
      have s0 := obj_cell hc8 0
      have s1 := obj_cell hc8 1
      have s2 := obj_cell hc8 2
      have s3 := obj_cell hc8 3
      have s4 := obj_cell hc8 4
      have s5 := obj_cell hc8 5
      have s6 := obj_cell hc8 6
      have d0 := obj_cell hr8 0
      have d1 := obj_cell hr8 1
      have d2 := obj_cell hr8 2
      have d3 := obj_cell hr8 3
      have d4 := obj_cell hr8 4
      have d5 := obj_cell hr8 5
      have d6 := obj_cell hr8 6
      have g0 := obj_free hr8 0
      have g1 := obj_free hr8 1
      have g2 := obj_free hr8 2
      have g3 := obj_free hr8 3
      have g4 := obj_free hr8 4
      have g5 := obj_free hr8 5
      have g6 := obj_free hr8 6
      simp at s0 s1 s2 s3 s4 s5 s6 d0 d1 d2 d3 d4 d5 d6
      have HR8 := Lib.hid hr8
      clear hr8 hc8 u2 u5 HST f3 v2 v3 v5 HC7 HC8 HI7 HC6 HR6 HI6 e1 e2 e3
      rename_i hHeld
      clear hHeld
      generalize hmat : x2 + 90 * r = mat at *
      go_wp2
      show bodyPost Try.prog Try.f36 _ Exit.ret _ (put7 W8 w.heap.size (.int .i64 id) (.int .i64 x1) (.int .i64 x2) (.int .i64 mat) (.int .i64 x4) (.int .i64 3) (.bool bx))
      have hf := HI8.out.put7 (b := w.heap.size) (Nat.le_refl _) (.int .i64 id) (.int .i64 x1) (.int .i64 x2) (.int .i64 mat) (.int .i64 x4) (.int .i64 3) (.bool bx)
      refine ret7 HR8.out rfl _ _ _ _ _ _ _ (fun F hF => ?_) rfl ⟨⟨id, x1, x2, mat, x4, 3, bx⟩, 3, r, rfl, sec_ok_mk h0 h1 (by omega) (by omega) hx20 (by omega) (by omega) r0 (by omega) (by omega) (by omega) (by omega) (Or.inr (Or.inr (Or.inl ⟨rfl, rfl⟩))), rfl, r1, hx21, (by show x4 ≤ 5000; omega), hf.src, hf.old⟩
      have q0 := obj_cell hF 0
      have q1 := obj_cell hF 1
      have q2 := obj_cell hF 2
      have q3 := obj_cell hF 3
      have q4 := obj_cell hF 4
      have q5 := obj_cell hF 5
      have q6 := obj_cell hF 6
      simp [results, Try.results36, go_sem, q0, q1, q2, q3, q4, q5, q6]
      rfl
  · go_upto_region 4 with fail
    generalize (x6 == 1) = bx
    have HI6 := Lib.hid (HI5.out.alloc (.cells #[.int .i64 id, .int .i64 x1, .int .i64 x2, .int .i64 0, .int .i64 x4, .int .i64 6, .bool bx] 55))
    have hc6 := heap_alloc_new w5 (.cells #[.int .i64 id, .int .i64 x1, .int .i64 x2, .int .i64 0, .int .i64 x4, .int .i64 6, .bool bx] 55)
    have hr6 := obj_below HR5.out (below_alloc w5 (.cells #[.int .i64 id, .int .i64 x1, .int .i64 x2, .int .i64 0, .int .i64 x4, .int .i64 6, .bool bx] 55))
    have hsz := HI5.out.old.size
    have hlt := HI5.out.lt
    obtain ⟨b2, hb2⟩ : ∃ b2, b2 = w5.heap.size := ⟨_, rfl⟩
    rw [← hb2] at hc6 ⊢
    have hn2 : b2 ≠ tb := by omega
    have hn3 : Hid (b2 ≠ w.heap.size) := Lib.hid (by have := obj_lt HR5.out; omega)
    have HB2 : Hid (w.heap.size ≤ b2) := Lib.hid (by omega)
    generalize w5.alloc (.cells #[.int .i64 id, .int .i64 x1, .int .i64 x2, .int .i64 0, .int .i64 x4, .int .i64 6, .bool bx] 55) = W at *
    have HC6 := Lib.hid hc6
    have HR6 := Lib.hid hr6
    have HN2 := Lib.hid hn2
    have u2 : W.cell? ⟨b2, 2, none⟩ = some (.int .i64 x2) := by have := obj_cell hc6 2; simpa using this
    have u5 : W.cell? ⟨b2, 5, none⟩ = some (.int .i64 6) := by have := obj_cell hc6 5; simpa using this
    clear hc6 hr6 hsz hlt hn2 hb2 HI5 HR5
    have HST := Lib.hid (fun (A : World) (v : Value) (h : A.cell? ⟨b2, 2, none⟩ = some (.int .i64 x2) ∧ A.cell? ⟨b2, 5, none⟩ = some (.int .i64 6)) => (⟨(cell_set_other A b2 3 2 v (by omega)).trans h.1, (cell_set_other A b2 3 5 v (by omega)).trans h.2⟩ : (A.setCell ⟨b2, 3, none⟩ v).cell? ⟨b2, 2, none⟩ = some (.int .i64 x2) ∧ (A.setCell ⟨b2, 3, none⟩ v).cell? ⟨b2, 5, none⟩ = some (.int .i64 6)))
    go_region_held3 (fun W => W.cell? ⟨b2, 2, none⟩ = some (.int .i64 x2) ∧ W.cell? ⟨b2, 5, none⟩ = some (.int .i64 6)) (first | exact ⟨u2, u5⟩ | exact ⟨v2, v5⟩ | exact HST.out _ _ ⟨v2, v5⟩ | exact HST.out _ _ (by assumption)) (first | (go_at_call 27; refine Calls.mono (HRG.out _ (by first | exact HI6.out | exact HI6.out.drew)) ?_; rintro e w7 ⟨r, rfl, r0, r1, hi7, hg7⟩; (have c7 : w7.heap[b2]? = some (.cells #[.int .i64 id, .int .i64 x1, .int .i64 x2, .int .i64 0, .int .i64 x4, .int .i64 6, .bool bx] 55 (0, 0)) := (by first | exact obj_turn HC6.out hg7 HN2.out | exact obj_turn (obj_below HC6.out ((Below.refl _ _).drew)) hg7 HN2.out)); (have c8 := (by first | exact obj_turn HR6.out hg7 HNE.out | exact obj_turn (obj_below HR6.out ((Below.refl _ _).drew)) hg7 HNE.out : w7.heap[w.heap.size]? = some (.cells #[.int .i64 0, .int .i64 0, .int .i64 0, .int .i64 0, .int .i64 0, .int .i64 0, .bool false] 55 (0, 0)))); (have f3 := obj_free c7 3); (have v2 : w7.cell? ⟨b2, 2, none⟩ = some (.int .i64 x2) := (by have := obj_cell c7 2; simpa using this)); (have v3 : w7.cell? ⟨b2, 3, none⟩ = some (.int .i64 0) := (by have := obj_cell c7 3; simpa using this)); (have v5 : w7.cell? ⟨b2, 5, none⟩ = some (.int .i64 6) := (by have := obj_cell c7 5; simpa using this)); (have HC7 := Lib.hid c7); (have HC8 := Lib.hid c8); (have HI7 := Lib.hid hi7); clear hg7 c7 c8 hi7))
    all_goals
      have e1 : IntKind.i64.wrap (180) = 180 := by decide
      have e2 : IntKind.i64.wrap (180 * r) = 180 * r := IntWalk.i64_in _ (by omega)
      have e3 : IntKind.i64.wrap (x2 + 180 * r) = x2 + 180 * r := IntWalk.i64_in _ (by omega)
      rw [e1, e2, e3]
      have hc8 := obj_set HC7.out 3 (.int .i64 (x2 + 180 * r))
      simp at hc8
      have hr8 := (Below.heap_setCell w7 ⟨b2, 3, none⟩ (.int .i64 (x2 + 180 * r)) w.heap.size (by show w.heap.size ≠ b2; have := hn3.out; omega)).trans HC8.out
      have HI8 := Lib.hid (HI7.out.set (b := b2) HB2.out 3 (.int .i64 (x2 + 180 * r)))
      generalize w7.setCell ⟨b2, 3, none⟩ (.int .i64 (x2 + 180 * r)) = W8 at *
      have s0 := obj_cell hc8 0
      have s1 := obj_cell hc8 1
      have s2 := obj_cell hc8 2
      have s3 := obj_cell hc8 3
      have s4 := obj_cell hc8 4
      have s5 := obj_cell hc8 5
      have s6 := obj_cell hc8 6
      have d0 := obj_cell hr8 0
      have d1 := obj_cell hr8 1
      have d2 := obj_cell hr8 2
      have d3 := obj_cell hr8 3
      have d4 := obj_cell hr8 4
      have d5 := obj_cell hr8 5
      have d6 := obj_cell hr8 6
      have g0 := obj_free hr8 0
      have g1 := obj_free hr8 1
      have g2 := obj_free hr8 2
      have g3 := obj_free hr8 3
      have g4 := obj_free hr8 4
      have g5 := obj_free hr8 5
      have g6 := obj_free hr8 6
      simp at s0 s1 s2 s3 s4 s5 s6 d0 d1 d2 d3 d4 d5 d6
      have HR8 := Lib.hid hr8
      clear hr8 hc8 u2 u5 HST f3 v2 v3 v5 HC7 HC8 HI7 HC6 HR6 HI6 e1 e2 e3
      rename_i hHeld
      clear hHeld
      generalize hmat : x2 + 180 * r = mat at *
      go_wp2
      show bodyPost Try.prog Try.f36 _ Exit.ret _ (put7 W8 w.heap.size (.int .i64 id) (.int .i64 x1) (.int .i64 x2) (.int .i64 mat) (.int .i64 x4) (.int .i64 6) (.bool bx))
      have hf := HI8.out.put7 (b := w.heap.size) (Nat.le_refl _) (.int .i64 id) (.int .i64 x1) (.int .i64 x2) (.int .i64 mat) (.int .i64 x4) (.int .i64 6) (.bool bx)
      refine ret7 HR8.out rfl _ _ _ _ _ _ _ (fun F hF => ?_) rfl ⟨⟨id, x1, x2, mat, x4, 6, bx⟩, 6, r, rfl, sec_ok_mk h0 h1 (by omega) (by omega) hx20 (by omega) (by omega) r0 (by omega) (by omega) (by omega) (by omega) (Or.inr (Or.inr (Or.inr (Or.inl ⟨rfl, rfl⟩)))), rfl, r1, hx21, (by show x4 ≤ 5000; omega), hf.src, hf.old⟩
      have q0 := obj_cell hF 0
      have q1 := obj_cell hF 1
      have q2 := obj_cell hF 2
      have q3 := obj_cell hF 3
      have q4 := obj_cell hF 4
      have q5 := obj_cell hF 5
      have q6 := obj_cell hF 6
      simp [results, Try.results36, go_sem, q0, q1, q2, q3, q4, q5, q6]
      rfl
  · go_upto_region 4 with fail
    generalize (x6 == 1) = bx
    have HI6 := Lib.hid (HI5.out.alloc (.cells #[.int .i64 id, .int .i64 x1, .int .i64 x2, .int .i64 0, .int .i64 x4, .int .i64 12, .bool bx] 55))
    have hc6 := heap_alloc_new w5 (.cells #[.int .i64 id, .int .i64 x1, .int .i64 x2, .int .i64 0, .int .i64 x4, .int .i64 12, .bool bx] 55)
    have hr6 := obj_below HR5.out (below_alloc w5 (.cells #[.int .i64 id, .int .i64 x1, .int .i64 x2, .int .i64 0, .int .i64 x4, .int .i64 12, .bool bx] 55))
    have hsz := HI5.out.old.size
    have hlt := HI5.out.lt
    obtain ⟨b2, hb2⟩ : ∃ b2, b2 = w5.heap.size := ⟨_, rfl⟩
    rw [← hb2] at hc6 ⊢
    have hn2 : b2 ≠ tb := by omega
    have hn3 : Hid (b2 ≠ w.heap.size) := Lib.hid (by have := obj_lt HR5.out; omega)
    have HB2 : Hid (w.heap.size ≤ b2) := Lib.hid (by omega)
    generalize w5.alloc (.cells #[.int .i64 id, .int .i64 x1, .int .i64 x2, .int .i64 0, .int .i64 x4, .int .i64 12, .bool bx] 55) = W at *
    have HC6 := Lib.hid hc6
    have HR6 := Lib.hid hr6
    have HN2 := Lib.hid hn2
    have u2 : W.cell? ⟨b2, 2, none⟩ = some (.int .i64 x2) := by have := obj_cell hc6 2; simpa using this
    have u5 : W.cell? ⟨b2, 5, none⟩ = some (.int .i64 12) := by have := obj_cell hc6 5; simpa using this
    clear hc6 hr6 hsz hlt hn2 hb2 HI5 HR5
    have HST := Lib.hid (fun (A : World) (v : Value) (h : A.cell? ⟨b2, 2, none⟩ = some (.int .i64 x2) ∧ A.cell? ⟨b2, 5, none⟩ = some (.int .i64 12)) => (⟨(cell_set_other A b2 3 2 v (by omega)).trans h.1, (cell_set_other A b2 3 5 v (by omega)).trans h.2⟩ : (A.setCell ⟨b2, 3, none⟩ v).cell? ⟨b2, 2, none⟩ = some (.int .i64 x2) ∧ (A.setCell ⟨b2, 3, none⟩ v).cell? ⟨b2, 5, none⟩ = some (.int .i64 12)))
    go_region_held3 (fun W => W.cell? ⟨b2, 2, none⟩ = some (.int .i64 x2) ∧ W.cell? ⟨b2, 5, none⟩ = some (.int .i64 12)) (first | exact ⟨u2, u5⟩ | exact ⟨v2, v5⟩ | exact HST.out _ _ ⟨v2, v5⟩ | exact HST.out _ _ (by assumption)) (first | (go_at_call 27; refine Calls.mono (HRG.out _ (by first | exact HI6.out | exact HI6.out.drew)) ?_; rintro e w7 ⟨r, rfl, r0, r1, hi7, hg7⟩; (have c7 : w7.heap[b2]? = some (.cells #[.int .i64 id, .int .i64 x1, .int .i64 x2, .int .i64 0, .int .i64 x4, .int .i64 12, .bool bx] 55 (0, 0)) := (by first | exact obj_turn HC6.out hg7 HN2.out | exact obj_turn (obj_below HC6.out ((Below.refl _ _).drew)) hg7 HN2.out)); (have c8 := (by first | exact obj_turn HR6.out hg7 HNE.out | exact obj_turn (obj_below HR6.out ((Below.refl _ _).drew)) hg7 HNE.out : w7.heap[w.heap.size]? = some (.cells #[.int .i64 0, .int .i64 0, .int .i64 0, .int .i64 0, .int .i64 0, .int .i64 0, .bool false] 55 (0, 0)))); (have f3 := obj_free c7 3); (have v2 : w7.cell? ⟨b2, 2, none⟩ = some (.int .i64 x2) := (by have := obj_cell c7 2; simpa using this)); (have v3 : w7.cell? ⟨b2, 3, none⟩ = some (.int .i64 0) := (by have := obj_cell c7 3; simpa using this)); (have v5 : w7.cell? ⟨b2, 5, none⟩ = some (.int .i64 12) := (by have := obj_cell c7 5; simpa using this)); (have HC7 := Lib.hid c7); (have HC8 := Lib.hid c8); (have HI7 := Lib.hid hi7); clear hg7 c7 c8 hi7))
    all_goals
      have e1 : IntKind.i64.wrap (360) = 360 := by decide
      have e2 : IntKind.i64.wrap (360 * r) = 360 * r := IntWalk.i64_in _ (by omega)
      have e3 : IntKind.i64.wrap (x2 + 360 * r) = x2 + 360 * r := IntWalk.i64_in _ (by omega)
      rw [e1, e2, e3]
      have hc8 := obj_set HC7.out 3 (.int .i64 (x2 + 360 * r))
      simp at hc8
      have hr8 := (Below.heap_setCell w7 ⟨b2, 3, none⟩ (.int .i64 (x2 + 360 * r)) w.heap.size (by show w.heap.size ≠ b2; have := hn3.out; omega)).trans HC8.out
      have HI8 := Lib.hid (HI7.out.set (b := b2) HB2.out 3 (.int .i64 (x2 + 360 * r)))
      generalize w7.setCell ⟨b2, 3, none⟩ (.int .i64 (x2 + 360 * r)) = W8 at *
      have s0 := obj_cell hc8 0
      have s1 := obj_cell hc8 1
      have s2 := obj_cell hc8 2
      have s3 := obj_cell hc8 3
      have s4 := obj_cell hc8 4
      have s5 := obj_cell hc8 5
      have s6 := obj_cell hc8 6
      have d0 := obj_cell hr8 0
      have d1 := obj_cell hr8 1
      have d2 := obj_cell hr8 2
      have d3 := obj_cell hr8 3
      have d4 := obj_cell hr8 4
      have d5 := obj_cell hr8 5
      have d6 := obj_cell hr8 6
      have g0 := obj_free hr8 0
      have g1 := obj_free hr8 1
      have g2 := obj_free hr8 2
      have g3 := obj_free hr8 3
      have g4 := obj_free hr8 4
      have g5 := obj_free hr8 5
      have g6 := obj_free hr8 6
      simp at s0 s1 s2 s3 s4 s5 s6 d0 d1 d2 d3 d4 d5 d6
      have HR8 := Lib.hid hr8
      clear hr8 hc8 u2 u5 HST f3 v2 v3 v5 HC7 HC8 HI7 HC6 HR6 HI6 e1 e2 e3
      rename_i hHeld
      clear hHeld
      generalize hmat : x2 + 360 * r = mat at *
      go_wp2
      show bodyPost Try.prog Try.f36 _ Exit.ret _ (put7 W8 w.heap.size (.int .i64 id) (.int .i64 x1) (.int .i64 x2) (.int .i64 mat) (.int .i64 x4) (.int .i64 12) (.bool bx))
      have hf := HI8.out.put7 (b := w.heap.size) (Nat.le_refl _) (.int .i64 id) (.int .i64 x1) (.int .i64 x2) (.int .i64 mat) (.int .i64 x4) (.int .i64 12) (.bool bx)
      refine ret7 HR8.out rfl _ _ _ _ _ _ _ (fun F hF => ?_) rfl ⟨⟨id, x1, x2, mat, x4, 12, bx⟩, 12, r, rfl, sec_ok_mk h0 h1 (by omega) (by omega) hx20 (by omega) (by omega) r0 (by omega) (by omega) (by omega) (by omega) (Or.inr (Or.inr (Or.inr (Or.inr ⟨rfl, rfl⟩)))), rfl, r1, hx21, (by show x4 ≤ 5000; omega), hf.src, hf.old⟩
      have q0 := obj_cell hF 0
      have q1 := obj_cell hF 1
      have q2 := obj_cell hF 2
      have q3 := obj_cell hF 3
      have q4 := obj_cell hF 4
      have q5 := obj_cell hF 5
      have q6 := obj_cell hF 6
      simp [results, Try.results36, go_sem, q0, q1, q2, q3, q4, q5, q6]
      rfl

end Go.Proofs.Ytblidmkkbcobgaa
