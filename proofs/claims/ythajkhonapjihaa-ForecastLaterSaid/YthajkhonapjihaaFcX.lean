/- forecast.Lowest, and the statements' example. -/
import Derived.Test.YthajkhonapjihaaFcM
set_option linter.unusedSimpArgs false
set_option linter.unusedVariables false
namespace Go.Proofs.Ythajkhonapjihaa
open Go.RowKit Go.Lib Go.Proofs

set_option maxHeartbeats 2000000 in
theorem fcLowest_ok (p : Pos) (l : List Pos) (hlen : l.length ≤ 1000) (v : Value) (w : World) (hv : ListAt posC 2 w v (p :: l)) :
    Calls Try.prog 21 #[v] w fun e w' => e = .returned (.tuple #[.agg (posC (minP p l)).toArray, .bool true]) ∧ Below w.heap.size w w' := by
  have hbz := below_alloc w (.cells #[.int .i64 0, .int .i64 0] 33)
  have HM := Lib.hid (minPos_any l p hlen v (w.alloc (.cells #[.int .i64 0, .int .i64 0] 33)) (hv.below hbz))
  have HB := Lib.hid hbz
  have HR := Lib.hid (heap_alloc_new w (.cells #[.int .i64 0, .int .i64 0] 33))
  obtain ⟨ao, cap, rfl, hcap, _⟩ := hv.shape posF
  obtain ⟨n, hn⟩ : ∃ n, n = (p :: l).length := ⟨_, rfl⟩
  have hn1 : ¬ (n : Int) = 0 := by rw [hn]; simp; omega
  have hn2 : ((n : Int) == 0) = false := by rw [beq_eq_false_iff_ne]; exact hn1
  rw [← hn] at HM hcap ⊢
  generalize minP p l = m at *
  obtain ⟨md, ma⟩ := m
  simp only [posC] at HM ⊢
  clear hv hbz hn
  go_enter Try.func21, Try.ntmps21
  go_wp2_with fail
  with_reducible refine (HM.out).mono ?_
  rintro e w2 ⟨rfl, b2⟩
  have hr2 := obj_below HR.out b2
  have HB2 := Lib.hid (HB.out.trans (b2.mono HB.out.size))
  have t0 := obj_cell hr2 0
  have t1 := obj_cell hr2 1
  have g0 := obj_free hr2 0
  have g1 := obj_free hr2 1
  simp at t0 t1
  have HR2 := Lib.hid hr2
  clear b2 hr2 HB HM HR
  go_wp2
  show bodyPost Try.prog Try.f21 _ Exit.ret _ (put2 w2 w.heap.size (.int .i64 md) (.int .i64 ma))
  refine Proofs.Ythajkhonapjihaa.ret2 HR2.out rfl _ _ (fun F hF => ?_) rfl ⟨rfl, put2_below HB2.out (Nat.le_refl _) _ _⟩
  have q0 := obj_cell hF 0
  have q1 := obj_cell hF 1
  simp [results, Try.results21, go_sem, q0, q1]

def exF : List Flw := [⟨2, -4, 5, 0⟩]
theorem exF_ok : FlwsOk 29 exF := fun f hf => by simp [exF] at hf; subst hf; exact ⟨by decide, by decide, by decide, by decide, by decide, by decide, by decide, by decide, by decide⟩
theorem exF_proj : projL 10 1 exF 3 = [⟨1, 10⟩, ⟨2, 6⟩, ⟨3, 6⟩] := rfl
theorem pos_eq_same (x y : Int) (W : World) : (binOp .eql 33 (.agg #[.int .i64 x, .int .i64 y]) (.agg #[.int .i64 x, .int .i64 y])).run Try.prog W = .ok (.bool true) W := by
  rw [run_eql_struct]
  simp [go_sem]

/-- One struct in a new block, as a list. -/
theorem one_list {α : Type} {f : α → List Value} {m : Nat} (hf : Fields f m) (w : World) (x : α) (T : TypeId) (cap : Nat) (hc : 1 ≤ cap) : ListAt f m (w.alloc (.cells (f x).toArray T)) (.slice (some ⟨w.heap.size, 0, none⟩) 1 cap) [x] := by
  refine ⟨by simp [cellsL, hf.len], _, cap, rfl, hc, Or.inr ⟨w.heap.size, 0, rfl, by simp, fun j hj => ?_⟩⟩
  rw [Nat.zero_add, obj_cell (heap_alloc_new w (.cells (f x).toArray T)) j]
  simp [cellsL]

set_option maxHeartbeats 4000000 in
theorem sane29_any (w : World) : Calls Try.prog 12 #[] w fun e w' => e = .returned (.bool true) ∧ Below w.heap.size w w' := by
  have hl1 := one_list flowF w ⟨2, -4, 5, 0⟩ 38 1 (by decide)
  have HP := Lib.hid (fcProject_ok (by decide) exF_ok (by decide) (.slice (some ⟨w.heap.size, 0, none⟩) 1 1) _ hl1 10 1 3 3 (by decide) (by decide) (by decide) (by decide) (by decide) (by decide) (by decide) (by decide))
  have HB := Lib.hid (below_alloc w (.cells (flowC ⟨2, -4, 5, 0⟩).toArray 38))
  simp only [flowC] at HP HB
  unfold ProjPost at HP
  rw [exF_proj] at HP
  clear hl1
  have heq := pos_eq_same 2 6
  go_enter Try.func12, Try.ntmps12
  go_wp2_with fail
  with_reducible refine (HP.out).mono ?_
  rintro e w1 ⟨v, rfl, ho, b1⟩
  have hla : ListAt posC 2 w1 v [⟨1, 10⟩, ⟨2, 6⟩, ⟨3, 6⟩] := ListAt.owns ho
  have HLO := Lib.hid (fcLowest_ok ⟨1, 10⟩ [⟨2, 6⟩, ⟨3, 6⟩] (by decide) v w1 hla)
  rw [show minP ⟨1, 10⟩ [⟨2, 6⟩, ⟨3, 6⟩] = ⟨2, 6⟩ from rfl] at HLO
  simp only [posC] at HLO
  have HB1 := Lib.hid (HB.out.trans (b1.mono HB.out.size))
  have HLA := Lib.hid hla
  clear ho b1 hla HB HP
  go_wp2_with fail
  with_reducible refine (HLO.out).mono ?_
  rintro e w2 ⟨rfl, b2⟩
  have HB2 := Lib.hid (HB1.out.trans (b2.mono HB1.out.size))
  have hla2 := (HLA.out.below b2).below (below2 w2 (.cells #[.int .i64 2, .int .i64 6] 33) (.cells #[.int .i64 1, .int .i64 10, .int .i64 2, .int .i64 6, .int .i64 3, .int .i64 6] 33))
  have hlb : ListAt posC 2 ((w2.alloc (.cells #[.int .i64 2, .int .i64 6] 33)).alloc (.cells #[.int .i64 1, .int .i64 10, .int .i64 2, .int .i64 6, .int .i64 3, .int .i64 6] 33)) (.slice (some ⟨w2.heap.size + 1, 0, none⟩) 3 3) [⟨1, 10⟩, ⟨2, 6⟩, ⟨3, 6⟩] := by
    refine ⟨rfl, _, 3, rfl, by decide, Or.inr ⟨w2.heap.size + 1, 0, rfl, by simp, fun j hj => ?_⟩⟩
    rw [Nat.zero_add, obj_cell (alloc2_at w2 _ _) j]
    simp [cellsL, posC]
  have HS := Lib.hid (r29Positions_same _ (by decide) _ _ _ hla2 hlb)
  have HB3 := Lib.hid (HB2.out.trans ((below2 w2 (.cells #[.int .i64 2, .int .i64 6] 33) (.cells #[.int .i64 1, .int .i64 10, .int .i64 2, .int .i64 6, .int .i64 3, .int .i64 6] 33)).mono HB2.out.size))
  have HC3 := Lib.hid (alloc1_at w2 (.cells #[.int .i64 2, .int .i64 6] 33) (.cells #[.int .i64 1, .int .i64 10, .int .i64 2, .int .i64 6, .int .i64 3, .int .i64 6] 33))
  clear b2 hla2 hlb HLO HLA HB1
  go_wp2_with fail
  with_reducible refine (HS.out).mono ?_
  rintro e w4 ⟨rfl, b4⟩
  have hc4 := obj_below HC3.out b4
  have t0 := obj_cell hc4 0
  have t1 := obj_cell hc4 1
  simp at t0 t1
  have HB4 := Lib.hid (HB3.out.trans (b4.mono HB3.out.size))
  clear b4 hc4 HS HB3 HC3
  go_wp2
  go_ret
  exact ⟨rfl, HB4.out⟩

end Go.Proofs.Ythajkhonapjihaa
