/- The register's reference: Transfer, Issue, Redeem, for right registers. -/
import Derived.Test.YtblidmkkbcobgaaMRyH
set_option linter.unusedSimpArgs false
set_option linter.unusedVariables false
set_option linter.unusedSimpArgs false
set_option linter.unusedVariables false
namespace Go.Proofs.Ytblidmkkbcobgaa
open Go.RowKit Go.Lib Go.Proofs

set_option maxHeartbeats 4000000 in
theorem ryTransfer_ok (r : Reg) (x y z : Value) (day id fr tt am : Int) (w : World) (h : RegOk r) (hr : RegAt w x y z r) :
    Calls Try.prog 98 #[.agg #[x, y, z], .int .i64 day, .int .i64 id, .int .i64 fr, .int .i64 tt, .int .i64 am] w fun e w' => ∃ x' y' z', e = .returned (.tuple #[.agg #[x', y', z'], .int .i64 (addE r ⟨0, day, 2, id, fr, tt, am⟩)]) ∧ RegAt w' x' y' z' (addV r ⟨0, day, 2, id, fr, tt, am⟩) ∧ Below w.heap.size w w' := by
  obtain ⟨W1, hW1⟩ : ∃ W1, W1 = (w.alloc (.cells #[x, y, z] 29)).alloc (.cells #[.slice none 0 0, .slice none 0 0, .slice none 0 0] 29) := ⟨_, rfl⟩
  have HB : Hid (Below w.heap.size w W1) := Lib.hid (by rw [hW1]; exact below2 w _ _)
  have hA : W1.heap[w.heap.size]? = some (.cells #[x, y, z] 29 (0, 0)) := by rw [hW1]; exact alloc1_at w _ _
  have HO : Hid (W1.heap[w.heap.size + 1]? = some (.cells #[.slice none 0 0, .slice none 0 0, .slice none 0 0] 29 (0, 0))) := Lib.hid (by rw [hW1]; exact alloc2_at w _ _)
  have H := Lib.hid (rychange_ok r ⟨0, day, 2, id, fr, tt, am⟩ x y z W1 h (Or.inr (Or.inl rfl)) (hr.below HB.out))
  simp only [mvC] at H
  obtain ⟨e1, he1⟩ : ∃ e1, e1 = addE r ⟨0, day, 2, id, fr, tt, am⟩ := ⟨_, rfl⟩
  obtain ⟨v1, hv1⟩ : ∃ v1, v1 = addV r ⟨0, day, 2, id, fr, tt, am⟩ := ⟨_, rfl⟩
  rw [← he1, ← hv1] at H ⊢
  have a0 := obj_cell hA 0
  have a1 := obj_cell hA 1
  have a2 := obj_cell hA 2
  simp at a0 a1 a2
  clear h hr hA he1 hv1
  go_enter Try.func98, Try.ntmps98
  go_upto_region 1 with fail
  rw [← hW1]
  clear hW1
  go_wp2_with fail
  with_reducible refine Calls.mono H.out ?_
  rintro e x7 ⟨x', y', z', rfl, hr7, b7⟩
  obtain ⟨aS, cS, hx', -, -⟩ := hr7.secs.shape secF
  obtain ⟨aH, cH, hy', -, -⟩ := hr7.hs.shape hldF
  obtain ⟨aM, cM, hz', -, -⟩ := hr7.ms.shape mvF
  generalize v1.secs.length = nS at hx'
  generalize v1.hs.length = nH at hy'
  generalize v1.ms.length = nM at hz'
  subst hx' hy' hz'
  have HJ : Hid (Below w.heap.size w x7) := Lib.hid (HB.out.trans (b7.mono HB.out.size))
  have HO7 := Lib.hid (obj_below HO.out b7)
  have hO7 := HO7.out
  have o0 := obj_cell hO7 0
  have o1 := obj_cell hO7 1
  have o2 := obj_cell hO7 2
  have f0 := obj_free hO7 0
  have f1 := obj_free hO7 1
  have f2 := obj_free hO7 2
  simp at o0 o1 o2
  have HFIN := Lib.hid (hr7.keepR hO7 (put3_grown x7 (w.heap.size + 1) (.slice aS nS cS) (.slice aH nH cH) (.slice aM nM cM)))
  clear hO7 hr7 b7 a0 a1 a2 H
  go_wp2
  refine ret3 HO7.out rfl _ _ _ (fun F hF => ?_) rfl ⟨_, _, _, rfl, HFIN.out, put3_below HJ.out (by omega) _ _ _⟩
  have q0 := obj_cell hF 0
  have q1 := obj_cell hF 1
  have q2 := obj_cell hF 2
  simp [results, Try.results98, go_sem, q0, q1, q2]

set_option maxHeartbeats 4000000 in
theorem ryIssue_ok (r : Reg) (x y z : Value) (day id tt am : Int) (w : World) (h : RegOk r) (hr : RegAt w x y z r) :
    Calls Try.prog 26 #[.agg #[x, y, z], .int .i64 day, .int .i64 id, .int .i64 tt, .int .i64 am] w fun e w' => ∃ x' y' z', e = .returned (.tuple #[.agg #[x', y', z'], .int .i64 (addE r ⟨0, day, 1, id, 0, tt, am⟩)]) ∧ RegAt w' x' y' z' (addV r ⟨0, day, 1, id, 0, tt, am⟩) ∧ Below w.heap.size w w' := by
  obtain ⟨W1, hW1⟩ : ∃ W1, W1 = (w.alloc (.cells #[x, y, z] 29)).alloc (.cells #[.slice none 0 0, .slice none 0 0, .slice none 0 0] 29) := ⟨_, rfl⟩
  have HB : Hid (Below w.heap.size w W1) := Lib.hid (by rw [hW1]; exact below2 w _ _)
  have hA : W1.heap[w.heap.size]? = some (.cells #[x, y, z] 29 (0, 0)) := by rw [hW1]; exact alloc1_at w _ _
  have HO : Hid (W1.heap[w.heap.size + 1]? = some (.cells #[.slice none 0 0, .slice none 0 0, .slice none 0 0] 29 (0, 0))) := Lib.hid (by rw [hW1]; exact alloc2_at w _ _)
  have H := Lib.hid (rychange_ok r ⟨0, day, 1, id, 0, tt, am⟩ x y z W1 h (Or.inl ⟨rfl, rfl⟩) (hr.below HB.out))
  simp only [mvC] at H
  obtain ⟨e1, he1⟩ : ∃ e1, e1 = addE r ⟨0, day, 1, id, 0, tt, am⟩ := ⟨_, rfl⟩
  obtain ⟨v1, hv1⟩ : ∃ v1, v1 = addV r ⟨0, day, 1, id, 0, tt, am⟩ := ⟨_, rfl⟩
  rw [← he1, ← hv1] at H ⊢
  have a0 := obj_cell hA 0
  have a1 := obj_cell hA 1
  have a2 := obj_cell hA 2
  simp at a0 a1 a2
  clear h hr hA he1 hv1
  go_enter Try.func26, Try.ntmps26
  go_upto_region 1 with fail
  rw [← hW1]
  clear hW1
  go_wp2_with fail
  with_reducible refine Calls.mono H.out ?_
  rintro e x7 ⟨x', y', z', rfl, hr7, b7⟩
  obtain ⟨aS, cS, hx', -, -⟩ := hr7.secs.shape secF
  obtain ⟨aH, cH, hy', -, -⟩ := hr7.hs.shape hldF
  obtain ⟨aM, cM, hz', -, -⟩ := hr7.ms.shape mvF
  generalize v1.secs.length = nS at hx'
  generalize v1.hs.length = nH at hy'
  generalize v1.ms.length = nM at hz'
  subst hx' hy' hz'
  have HJ : Hid (Below w.heap.size w x7) := Lib.hid (HB.out.trans (b7.mono HB.out.size))
  have HO7 := Lib.hid (obj_below HO.out b7)
  have hO7 := HO7.out
  have o0 := obj_cell hO7 0
  have o1 := obj_cell hO7 1
  have o2 := obj_cell hO7 2
  have f0 := obj_free hO7 0
  have f1 := obj_free hO7 1
  have f2 := obj_free hO7 2
  simp at o0 o1 o2
  have HFIN := Lib.hid (hr7.keepR hO7 (put3_grown x7 (w.heap.size + 1) (.slice aS nS cS) (.slice aH nH cH) (.slice aM nM cM)))
  clear hO7 hr7 b7 a0 a1 a2 H
  go_wp2
  refine ret3 HO7.out rfl _ _ _ (fun F hF => ?_) rfl ⟨_, _, _, rfl, HFIN.out, put3_below HJ.out (by omega) _ _ _⟩
  have q0 := obj_cell hF 0
  have q1 := obj_cell hF 1
  have q2 := obj_cell hF 2
  simp [results, Try.results26, go_sem, q0, q1, q2]

set_option maxHeartbeats 4000000 in
theorem ryRedeem_ok (r : Reg) (x y z : Value) (day id fr am : Int) (w : World) (h : RegOk r) (hr : RegAt w x y z r) :
    Calls Try.prog 31 #[.agg #[x, y, z], .int .i64 day, .int .i64 id, .int .i64 fr, .int .i64 am] w fun e w' => ∃ x' y' z', e = .returned (.tuple #[.agg #[x', y', z'], .int .i64 (addE r ⟨0, day, 3, id, fr, 0, am⟩)]) ∧ RegAt w' x' y' z' (addV r ⟨0, day, 3, id, fr, 0, am⟩) ∧ Below w.heap.size w w' := by
  obtain ⟨W1, hW1⟩ : ∃ W1, W1 = (w.alloc (.cells #[x, y, z] 29)).alloc (.cells #[.slice none 0 0, .slice none 0 0, .slice none 0 0] 29) := ⟨_, rfl⟩
  have HB : Hid (Below w.heap.size w W1) := Lib.hid (by rw [hW1]; exact below2 w _ _)
  have hA : W1.heap[w.heap.size]? = some (.cells #[x, y, z] 29 (0, 0)) := by rw [hW1]; exact alloc1_at w _ _
  have HO : Hid (W1.heap[w.heap.size + 1]? = some (.cells #[.slice none 0 0, .slice none 0 0, .slice none 0 0] 29 (0, 0))) := Lib.hid (by rw [hW1]; exact alloc2_at w _ _)
  have H := Lib.hid (rychange_ok r ⟨0, day, 3, id, fr, 0, am⟩ x y z W1 h (Or.inr (Or.inr ⟨rfl, rfl⟩)) (hr.below HB.out))
  simp only [mvC] at H
  obtain ⟨e1, he1⟩ : ∃ e1, e1 = addE r ⟨0, day, 3, id, fr, 0, am⟩ := ⟨_, rfl⟩
  obtain ⟨v1, hv1⟩ : ∃ v1, v1 = addV r ⟨0, day, 3, id, fr, 0, am⟩ := ⟨_, rfl⟩
  rw [← he1, ← hv1] at H ⊢
  have a0 := obj_cell hA 0
  have a1 := obj_cell hA 1
  have a2 := obj_cell hA 2
  simp at a0 a1 a2
  clear h hr hA he1 hv1
  go_enter Try.func31, Try.ntmps31
  go_upto_region 1 with fail
  rw [← hW1]
  clear hW1
  go_wp2_with fail
  with_reducible refine Calls.mono H.out ?_
  rintro e x7 ⟨x', y', z', rfl, hr7, b7⟩
  obtain ⟨aS, cS, hx', -, -⟩ := hr7.secs.shape secF
  obtain ⟨aH, cH, hy', -, -⟩ := hr7.hs.shape hldF
  obtain ⟨aM, cM, hz', -, -⟩ := hr7.ms.shape mvF
  generalize v1.secs.length = nS at hx'
  generalize v1.hs.length = nH at hy'
  generalize v1.ms.length = nM at hz'
  subst hx' hy' hz'
  have HJ : Hid (Below w.heap.size w x7) := Lib.hid (HB.out.trans (b7.mono HB.out.size))
  have HO7 := Lib.hid (obj_below HO.out b7)
  have hO7 := HO7.out
  have o0 := obj_cell hO7 0
  have o1 := obj_cell hO7 1
  have o2 := obj_cell hO7 2
  have f0 := obj_free hO7 0
  have f1 := obj_free hO7 1
  have f2 := obj_free hO7 2
  simp at o0 o1 o2
  have HFIN := Lib.hid (hr7.keepR hO7 (put3_grown x7 (w.heap.size + 1) (.slice aS nS cS) (.slice aH nH cH) (.slice aM nM cM)))
  clear hO7 hr7 b7 a0 a1 a2 H
  go_wp2
  refine ret3 HO7.out rfl _ _ _ (fun F hF => ?_) rfl ⟨_, _, _, rfl, HFIN.out, put3_below HJ.out (by omega) _ _ _⟩
  have q0 := obj_cell hF 0
  have q1 := obj_cell hF 1
  have q2 := obj_cell hF 2
  simp [results, Try.results31, go_sem, q0, q1, q2]

end Go.Proofs.Ytblidmkkbcobgaa
