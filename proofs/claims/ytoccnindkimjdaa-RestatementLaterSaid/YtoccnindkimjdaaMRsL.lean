/- The package's copyOfCorrection; the reference's Statement of a year. -/
import Derived.Test.YtoccnindkimjdaaMRsK
import Derived.Test.YtoccnindkimjdaaMClnPst
set_option linter.unusedSimpArgs false
set_option linter.unusedVariables false
set_option linter.unusedSimpArgs false
set_option linter.unusedVariables false
namespace Go.Proofs.Ytoccnindkimjdaa
open Go.RowKit Go.Lib Go.Proofs

set_option maxRecDepth 100000 in
set_option maxHeartbeats 4000000 in
theorem rscopyOfCorrection_ok {ps : List Pst} (hlen : ps.length ≤ 1000) (cy cf : Int) (v : Value) (w : World) (hl : PstsAt w v ps) :
    Calls Try.prog 39 #[.agg #[.int .i64 cy, .int .i64 cf, v]] w fun e w' => ∃ (au : Option Addr) (cu : Nat), e = .returned (.agg #[.int .i64 cy, .int .i64 cf, .slice au ps.length cu]) ∧ w'.ownsRow w.heap.size 55 8 (.slice au ps.length cu) ps.length (cellsL pstC ps) ∧ Below w.heap.size w w' := by
  have HCL := Lib.hid (fun W (hW : Below w.heap.size w W) => clonePst_any pstC pstF ps v W (ListAt.below hl hW) (by omega))
  obtain ⟨ao, cap, rfl, hcap, -⟩ := hl.shape pstF
  obtain ⟨n, hn⟩ : ∃ n, n = ps.length := ⟨_, rfl⟩
  rw [← hn] at HCL hcap ⊢
  obtain ⟨w0, hw0⟩ : ∃ W, W = (w.alloc (.cells #[.int .i64 cy, .int .i64 cf, .slice ao n cap] 49)).alloc (.cells #[.int .i64 0, .int .i64 0, .slice none 0 0] 49) := ⟨_, rfl⟩
  obtain ⟨bC, hbC⟩ : ∃ b, b = w.heap.size := ⟨_, rfl⟩
  obtain ⟨bR, hbR⟩ : ∃ b, b = w.heap.size + 1 := ⟨_, rfl⟩
  have HC0 : Hid (w0.heap[bC]? = some (.cells #[.int .i64 cy, .int .i64 cf, .slice ao n cap] 49 (0, 0))) := Lib.hid (by rw [hw0, hbC]; exact alloc1_at w _ _)
  have HR0 : Hid (w0.heap[bR]? = some (.cells #[.int .i64 0, .int .i64 0, .slice none 0 0] 49 (0, 0))) := Lib.hid (by rw [hw0, hbR]; exact alloc2_at w _ _)
  have HB0 : Hid (Below w.heap.size w w0) := Lib.hid (by rw [hw0]; exact below2 w _ _)
  have HLL : Hid (w.heap.size ≤ bC ∧ w.heap.size ≤ bR ∧ bC ≠ bR) := Lib.hid (by omega)
  have hbx := HC0.out
  have HW0 := Lib.hid hw0
  have HBC := Lib.hid hbC
  have HBR := Lib.hid hbR
  have ub0 := obj_cell hbx 0
  have ub1 := obj_cell hbx 1
  have ub2 := obj_cell hbx 2
  simp at ub0 ub1 ub2
  clear hn hl hw0 hbC hbR hbx
  go_enter Try.func39, Try.ntmps39
  go_upto_region 1 with fail
  rw [← HW0.out, ← HBR.out, ← HBC.out]
  go_wp2_with fail
  refine (HCL.out _ HB0.out).mono ?_
  rintro e w1 ⟨u, rfl, hown, hb1⟩
  obtain ⟨au, cu, rfl, -, -⟩ := owns_gen hown
  have HC1 := Lib.hid (obj_below HC0.out hb1)
  have HR1 := Lib.hid (obj_below HR0.out hb1)
  have HB1 := Lib.hid (HB0.out.trans (hb1.mono HB0.out.size))
  have hbl : bC < w0.heap.size ∧ bR < w0.heap.size := ⟨obj_lt HC0.out, obj_lt HR0.out⟩
  obtain ⟨w2, hw2⟩ : ∃ W, W = w1.setCell ⟨bC, 2, none⟩ (.slice au n cu) := ⟨_, rfl⟩
  have hg : w1.grownBy w2 (some bC) := by rw [hw2]; exact setCell_grown _ _
  have HO2 : Hid (w2.ownsRow w0.heap.size 55 8 (.slice au n cu) n (cellsL pstC ps)) := Lib.hid (hown.kept hg (ownBlock_ne hown _ hbl.1))
  have HC2 : Hid (w2.heap[bC]? = some (.cells #[.int .i64 cy, .int .i64 cf, .slice au n cu] 49 (0, 0))) := Lib.hid (by
    have h1 := obj_set HC1.out 2 (.slice au n cu)
    simp only [List.setIfInBounds_toArray, List.set_cons_zero, List.set_cons_succ] at h1
    rw [hw2]; exact h1)
  have HR2 : Hid (w2.heap[bR]? = some (.cells #[.int .i64 0, .int .i64 0, .slice none 0 0] 49 (0, 0))) := Lib.hid ((hg.block bR (obj_lt HR1.out) (by simp [Ne.symm HLL.out.2.2])).trans HR1.out)
  have HB2 : Hid (Below w.heap.size w w2) := Lib.hid (by rw [hw2]; exact HB1.out.setCell (by exact HLL.out.1) _)
  have HBL := Lib.hid hbl
  have hc1 := HC1.out
  have c0 := obj_cell hc1 0
  have c1 := obj_cell hc1 1
  have c2 := obj_cell hc1 2
  simp at c0 c1 c2
  have f0 := obj_free hc1 0
  have f1 := obj_free hc1 1
  have f2 := obj_free hc1 2
  have hc2 := HC2.out
  have d0 := obj_cell hc2 0
  have d1 := obj_cell hc2 1
  have d2 := obj_cell hc2 2
  simp at d0 d1 d2
  have hr2 := HR2.out
  have r0 := obj_cell hr2 0
  have r1 := obj_cell hr2 1
  have r2 := obj_cell hr2 2
  simp at r0 r1 r2
  have fr0 := obj_free hr2 0
  have fr1 := obj_free hr2 1
  have fr2 := obj_free hr2 2
  have HW2 := Lib.hid hw2
  clear ub0 ub1 ub2 hown hb1 hg hw2 hc1 hc2 hr2 hbl
  go_upto_region 2 with fail
  rw [← HW2.out]
  clear c0 c1 c2 f0 f1 f2
  go_wp2
  refine ret3 HR2.out rfl _ _ _ (v := .agg #[.int .i64 cy, .int .i64 cf, .slice au n cu]) (fun F hF => ?_) rfl ⟨au, cu, rfl, ownsRow_mono (HO2.out.kept (put3_grown2 _ _ _ _ _) (ownBlock_ne HO2.out _ HBL.out.2)) HB0.out.size, put3_below HB2.out HLL.out.2.1 _ _ _⟩
  have q0 := obj_cell hF 0
  have q1 := obj_cell hF 1
  have q2 := obj_cell hF 2
  simp at q0 q1 q2
  simp [results, Try.results39, go_sem, q0, q1, q2]

set_option maxRecDepth 100000 in
set_option maxHeartbeats 8000000 in
theorem rgStatement_ok {l : List Pst} (h : LdgOk l) (hsm : ∀ p ∈ l, p.amt ≤ 1000) (hln : l.length ≤ 200) {y : Int} (hy : 0 ≤ y ∧ y ≤ 99) (v : Value) (w : World) (hl : PstsAt w v l) :
    Calls Try.prog 18 #[.agg #[v], .int .i64 0, .int .i64 (360 * y), .int .i64 (360 * y + 359)] w fun e w' => e = .returned (.tuple #[.agg (stmA (stM y l)), .int .i64 0]) ∧ Below w.heap.size w w' := by
  have HCK := Lib.hid (fun W (hW : Below w.heap.size w W) => rgCheck_right h v W (ListAt.below hl hW))
  have HST := Lib.hid (fun W (hW : Below w.heap.size w W) => rgState_all (fun p hp => ⟨h.mem p hp, hsm p hp⟩) hln hy v W (ListAt.below hl hW))
  obtain ⟨R, hR⟩ : ∃ R, R = stM y l := ⟨_, rfl⟩
  rw [← hR] at HST ⊢
  obtain ⟨s0, s1, s2, s3, s4⟩ := R
  simp only [stmA] at HST ⊢
  obtain ⟨lo, hlo⟩ : ∃ q, q = 360 * y := ⟨_, rfl⟩
  obtain ⟨hi, hhi⟩ : ∃ q, q = 360 * y + 359 := ⟨_, rfl⟩
  have hl0 : 0 ≤ lo ∧ lo ≤ 36000 := by omega
  have hh0 : 0 ≤ hi ∧ hi ≤ 36000 := by omega
  have hlh : ¬ hi < lo := by omega
  rw [← hhi, ← hlo] at HST ⊢
  obtain ⟨w0, hw0⟩ : ∃ W, W = (w.alloc (.cells #[v] 27)).alloc (.cells #[.int .i64 0, .int .i64 0, .int .i64 0, .int .i64 0, .int .i64 0] 38) := ⟨_, rfl⟩
  obtain ⟨bL, hbL⟩ : ∃ b, b = w.heap.size := ⟨_, rfl⟩
  obtain ⟨bR, hbR⟩ : ∃ b, b = w.heap.size + 1 := ⟨_, rfl⟩
  have HL0 : Hid (w0.heap[bL]? = some (.cells #[v] 27 (0, 0))) := Lib.hid (by rw [hw0, hbL]; exact alloc1_at w _ _)
  have HR0 : Hid (w0.heap[bR]? = some (.cells #[.int .i64 0, .int .i64 0, .int .i64 0, .int .i64 0, .int .i64 0] 38 (0, 0))) := Lib.hid (by rw [hw0, hbR]; exact alloc2_at w _ _)
  have HB0 : Hid (Below w.heap.size w w0) := Lib.hid (by rw [hw0]; exact below2 w _ _)
  have HLL : Hid (w.heap.size ≤ bR) := Lib.hid (by omega)
  have hbx := HL0.out
  have ub0 := obj_cell hbx 0
  simp at ub0
  have HW0 := Lib.hid hw0
  have HBL := Lib.hid hbL
  have HBR := Lib.hid hbR
  clear hw0 hbL hbR hbx hR hl h hsm hlo hhi hy
  go_enter Try.func18, Try.ntmps18
  go_upto_region 1 with fail
  rw [← HW0.out, ← HBR.out, ← HBL.out]
  go_wp2_with fail
  refine (HCK.out _ HB0.out).mono ?_
  rintro e w1 ⟨rfl, hb1⟩
  have HL1 := Lib.hid (obj_below HL0.out hb1)
  have HR1 := Lib.hid (obj_below HR0.out hb1)
  have HB1 := Lib.hid (HB0.out.trans (hb1.mono HB0.out.size))
  have hbx := HL1.out
  clear ub0 hb1
  have ub0 := obj_cell hbx 0
  simp at ub0
  clear hbx
  go_wp2_with fail
  refine (rgday_yes _ hl0.1 hl0.2).mono ?_
  rintro e w1' ⟨rfl, rfl⟩
  go_wp2_with fail
  refine (rgday_yes _ hh0.1 hh0.2).mono ?_
  rintro e w1' ⟨rfl, rfl⟩
  go_wp2_with fail
  refine (HST.out _ HB1.out).mono ?_
  rintro e w2 ⟨rfl, hb2⟩
  have HR2 := Lib.hid (obj_below HR1.out hb2)
  have HB2 := Lib.hid (HB1.out.trans (hb2.mono HB1.out.size))
  have hr2 := HR2.out
  have r0 := obj_cell hr2 0
  have r1 := obj_cell hr2 1
  have r2 := obj_cell hr2 2
  have r3 := obj_cell hr2 3
  have r4 := obj_cell hr2 4
  simp at r0 r1 r2 r3 r4
  have fr0 := obj_free hr2 0
  have fr1 := obj_free hr2 1
  have fr2 := obj_free hr2 2
  have fr3 := obj_free hr2 3
  have fr4 := obj_free hr2 4
  clear hb2 hr2 ub0
  go_wp2
  refine ret5 HR2.out rfl _ _ _ _ _ (v := .tuple #[.agg #[.int .i64 s0, .int .i64 s1, .int .i64 s2, .int .i64 s3, .int .i64 s4], .int .i64 0]) (fun F hF => ?_) rfl ⟨rfl, put5_below HB2.out HLL.out _ _ _ _ _⟩
  have q0 := obj_cell hF 0
  have q1 := obj_cell hF 1
  have q2 := obj_cell hF 2
  have q3 := obj_cell hF 3
  have q4 := obj_cell hF 4
  simp at q0 q1 q2 q3 q4
  simp [results, Try.results18, go_sem, q0, q1, q2, q3, q4]

end Go.Proofs.Ytoccnindkimjdaa
