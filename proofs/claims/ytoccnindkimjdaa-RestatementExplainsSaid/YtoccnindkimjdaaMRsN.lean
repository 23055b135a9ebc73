/- The package's statement: the statement of a year of a right ledger. -/
import Derived.Test.YtoccnindkimjdaaMRsL
import Derived.Test.YtoccnindkimjdaaMLgV
set_option linter.unusedSimpArgs false
set_option linter.unusedVariables false
set_option linter.unusedSimpArgs false
set_option linter.unusedVariables false
namespace Go.Proofs.Ytoccnindkimjdaa
open Go.RowKit Go.Lib Go.Proofs

theorem cells_five {W : World} {b : Nat} {cs : Array Value} {T : TypeId} (h : W.heap[b]? = some (.cells cs T (0, 0))) (hs : cs.size = 5) : (∃ u, W.cell? ⟨b, 0, none⟩ = some u) ∧ (∃ u, W.cell? ⟨b, 1, none⟩ = some u) ∧ (∃ u, W.cell? ⟨b, 2, none⟩ = some u) ∧ (∃ u, W.cell? ⟨b, 3, none⟩ = some u) ∧ (∃ u, W.cell? ⟨b, 4, none⟩ = some u) := by
  have key : ∀ j, j < 5 → ∃ u, W.cell? ⟨b, j, none⟩ = some u := fun j hj => ⟨cs[j]'(by omega), by rw [obj_cell h j]; exact Array.getElem?_eq_getElem (by omega)⟩
  exact ⟨key 0 (by decide), key 1 (by decide), key 2 (by decide), key 3 (by decide), key 4 (by decide)⟩
theorem rep_false (n j : Nat) (h : (Array.replicate n false).getD j false = true) : False := by
  rw [Array.getD_eq_getD_getElem?] at h
  by_cases h2 : j < n
  · simp [h2] at h
  · simp [h2] at h
/-- Within the region of statement: the slots, by their operations; the box that is made there. -/
def stSl (j : Nat) : Nat := [8, 9, 10, 11, 12, 13, 7, 14, 15, 5, 999, 6].getD j 998
theorem stSl_ne : ∀ a, a < 12 → ∀ b, b < 12 → a ≠ b → stSl a ≠ stSl b := by decide
def stV (v : Value) (y s0 s1 s2 s3 s4 : Int) (j : Nat) : Value := [.agg #[v], .int .i64 y, .int .i64 (360 * y), .int .i64 y, .int .i64 (360 * y + 359), .tuple #[.agg #[.int .i64 s0, .int .i64 s1, .int .i64 s2, .int .i64 s3, .int .i64 s4], .int .i64 0], .tuple #[.agg #[.int .i64 s0, .int .i64 s1, .int .i64 s2, .int .i64 s3, .int .i64 s4], .int .i64 0], .agg #[.int .i64 s0, .int .i64 s1, .int .i64 s2, .int .i64 s3, .int .i64 s4], .int .i64 0, undef, undef, .int .i64 0].getD j undef
structure StJ (w0 : World) (vv : Nat → Value) (S : Array Value) (L : Array Bool) (f : Nat → Value) (W : World) : Prop where
  old : Below w0.heap.size w0 W
  vals : ∀ j, j < 12 → j ≠ 9 → j ≠ 10 → L.getD j false = true → f (stSl j) = vv j
  box : L.getD 9 false = true → ∃ b cs, f 5 = .pointer (some ⟨b, 0, none⟩) ∧ w0.heap.size ≤ b ∧ cs.size = 5 ∧ W.heap[b]? = some (.cells cs 38 (0, 0)) ∧ (L.getD 10 false = true → cs = S)
  aft : L.getD 10 false = true → L.getD 9 false = true
theorem StJ.upd {w0 : World} {vv : Nat → Value} {S : Array Value} {L : Array Bool} {f : Nat → Value} {W W' : World} (h : StJ w0 vv S L f W) (hs : L.size = 12) {i : Nat} (hi : i < 12) (h9 : i ≠ 9) (h10 : i ≠ 10) (hb : Below W.heap.size W W') : StJ w0 vv S (L.setIfInBounds i true) (updF f (stSl i) (vv i)) W' := by
  have hl : ∀ j, j ≠ i → (L.setIfInBounds i true).getD j false = L.getD j false := fun j hj => by rw [flag_set _ _ _ (by omega), if_neg (fun e => hj e.symm)]
  refine ⟨h.old.trans (hb.mono h.old.size), fun j hj k9 k10 hL => ?_, fun hL => ?_, fun hL => ?_⟩
  · by_cases e : j = i
    · subst e; exact updF_same _ _ _
    · rw [hl j e] at hL
      rw [updF_other _ _ (stSl_ne j hj i hi e)]
      exact h.vals j hj k9 k10 hL
  · rw [hl 9 (Ne.symm h9)] at hL
    rw [hl 10 (Ne.symm h10)]
    obtain ⟨b, cs, e1, e2, e3, e4, e5⟩ := h.box hL
    exact ⟨b, cs, by rw [updF_other _ _ (show 5 ≠ stSl i from stSl_ne 9 (by decide) i hi (Ne.symm h9))]; exact e1, e2, e3, obj_below e4 hb, e5⟩
  · rw [hl 10 (Ne.symm h10)] at hL
    rw [hl 9 (Ne.symm h9)]
    exact h.aft hL
theorem StJ.newBox {w0 : World} {vv : Nat → Value} {S : Array Value} {L : Array Bool} {f : Nat → Value} {W : World} (h : StJ w0 vv S L f W) (hs : L.size = 12) (hun : L.getD 9 true = false) : StJ w0 vv S (L.setIfInBounds 9 true) (updF f 5 (.pointer (some ⟨W.heap.size, 0, none⟩))) (W.alloc (.cells #[.int .i64 0, .int .i64 0, .int .i64 0, .int .i64 0, .int .i64 0] 38)) := by
  have hl : ∀ j, j ≠ 9 → (L.setIfInBounds 9 true).getD j false = L.getD j false := fun j hj => by rw [flag_set _ _ _ (by omega), if_neg (fun e => hj e.symm)]
  refine ⟨h.old.alloc h.old.size _, fun j hj k9 k10 hL => ?_, fun hL => ?_, fun hL => ?_⟩
  · rw [hl j k9] at hL
    rw [updF_other _ _ (show stSl j ≠ 5 from stSl_ne j hj 9 (by decide) k9)]
    exact h.vals j hj k9 k10 hL
  · exact ⟨_, _, updF_same _ _ _, h.old.size, rfl, heap_alloc_new _ _, fun h10 => absurd (h.aft (by rw [hl 10 (by decide)] at h10; exact h10)) (flag_un (by omega) hun)⟩
  · exact flag_same _ _ (by omega)
theorem StJ.putBox {w0 : World} {vv : Nat → Value} {s0 s1 s2 s3 s4 : Value} {L : Array Bool} {f : Nat → Value} {W : World} (h : StJ w0 vv #[s0, s1, s2, s3, s4] L f W) (hs : L.size = 12) (h9 : L.getD 9 false = true) {b : Nat} {cs : Array Value} (e1 : f 5 = .pointer (some ⟨b, 0, none⟩)) (e2 : w0.heap.size ≤ b) (e3 : cs.size = 5) (e4 : W.heap[b]? = some (.cells cs 38 (0, 0))) : StJ w0 vv #[s0, s1, s2, s3, s4] (L.setIfInBounds 10 true) f (put5 W b s0 s1 s2 s3 s4) := by
  have hl : ∀ j, j ≠ 10 → (L.setIfInBounds 10 true).getD j false = L.getD j false := fun j hj => by rw [flag_set _ _ _ (by omega), if_neg (fun e => hj e.symm)]
  refine ⟨put5_below h.old e2 _ _ _ _ _, fun j hj k9 k10 hL => ?_, fun hL => ?_, fun hL => ?_⟩
  · rw [hl j k10] at hL
    exact h.vals j hj k9 k10 hL
  · exact ⟨b, _, e1, e2, rfl, put5_at e4 e3 _ _ _ _ _, fun _ => rfl⟩
  · rw [hl 9 (by decide)]; exact h9

set_option maxRecDepth 100000 in
set_option maxHeartbeats 8000000 in
theorem rsstatement_ok {l : List Pst} (h : LdgOk l) {y : Int} (hy : 0 ≤ y ∧ y ≤ 99) (v : Value) (w : World) (hl : PstsAt w v l) :
    Calls Try.prog 33 #[.agg #[v], .int .i64 y] w fun e w' => e = .returned (.agg (stmA (stM y l))) ∧ Below w.heap.size w w' := by
  have HST : Hid (∀ W, Below w.heap.size w W → Calls Try.prog 55 #[.agg #[v], .int .i64 0, .int .i64 (360 * y), .int .i64 (360 * y + 359)] W fun e w' => e = .returned (.tuple #[.agg (stmA (stM y l)), .int .i64 0]) ∧ Below W.heap.size W w') := Lib.hid fun W hW => lgStatement_right h 0 (360 * y) (360 * y + 359) v W (ListAt.below hl hW) (by omega) (by omega) (by omega)
  have HLD : Hid (∀ W : World, Calls Try.prog 56 #[.int .i64 y] W fun e w' => e = .returned (.int .i64 (360 * y + 359)) ∧ Below W.heap.size W w') := Lib.hid fun W => (rslastDay_ok W hy.1 hy.2).mono fun e w' ⟨h1, h2⟩ => ⟨h1, h2 ▸ Below.refl _ _⟩
  have h36 : IntKind.i64.wrap (360 * y) = 360 * y := IntWalk.i64_in _ (by omega)
  have h36b : wrap64 (360 * y) = 360 * y := IntWalk.wrap64_in _ (by omega)
  obtain ⟨R, hR⟩ : ∃ R, R = stM y l := ⟨_, rfl⟩
  rw [← hR] at HST ⊢
  obtain ⟨s0, s1, s2, s3, s4⟩ := R
  simp only [stmA] at HST ⊢
  obtain ⟨w0, hw0⟩ : ∃ W, W = (w.alloc (.cells #[v] 27)).alloc (.cells #[.int .i64 0, .int .i64 0, .int .i64 0, .int .i64 0, .int .i64 0] 38) := ⟨_, rfl⟩
  obtain ⟨bL, hbL⟩ : ∃ b, b = w.heap.size := ⟨_, rfl⟩
  obtain ⟨bR, hbR⟩ : ∃ b, b = w.heap.size + 1 := ⟨_, rfl⟩
  have HL0 : Hid (w0.heap[bL]? = some (.cells #[v] 27 (0, 0))) := Lib.hid (by rw [hw0, hbL]; exact alloc1_at w _ _)
  have HR0 : Hid (w0.heap[bR]? = some (.cells #[.int .i64 0, .int .i64 0, .int .i64 0, .int .i64 0, .int .i64 0] 38 (0, 0))) := Lib.hid (by rw [hw0, hbR]; exact alloc2_at w _ _)
  have HB0 : Hid (Below w.heap.size w w0) := Lib.hid (by rw [hw0]; exact below2 w _ _)
  have HLL : Hid (w.heap.size ≤ bR) := Lib.hid (by omega)
  have HW0 := Lib.hid hw0
  have HBL := Lib.hid hbL
  have HBR := Lib.hid hbR
  have egL := enters_of Try.func56 (by kernel_rfl) rfl
  have egS := enters_of Try.func55 (by kernel_rfl) rfl
  clear hw0 hbL hbR hR hl h hy
  go_enter Try.func33, Try.ntmps33
  go_upto_region 1 with fail
  rw [← HW0.out, ← HBR.out, ← HBL.out]
  go_cut [5] (fun pv wx => ∃ b : Nat, pv = .pointer (some ⟨b, 0, none⟩) ∧ Hid (Below w0.heap.size w0 wx) ∧ Hid (wx.heap[b]? = some (.cells #[.int .i64 s0, .int .i64 s1, .int .i64 s2, .int .i64 s3, .int .i64 s4] 38 (0, 0))))
  case first =>
    refine wp_region_slots [8, 9, 10, 11, 12, 13, 7, 14, 15, 5, 6] (StJ w0 (stV v y s0 s1 s2 s3 s4) #[.int .i64 s0, .int .i64 s1, .int .i64 s2, .int .i64 s3, .int .i64 s4]) (by kernel_rfl) (by kernel_rfl) ⟨(Below.refl _ _).drew, fun j _ _ _ h => (rep_false _ _ h).elim, fun h => (rep_false _ _ h).elim, fun h => (rep_false _ _ h).elim⟩ ?_ ?_
    · intro L f W i hs hc hJ hi hun hdep
      have hs12 : L.size = 12 := hs
      have hi12 : i < 12 := hi
      clear hi hs hc
      rcases (show i = 0 ∨ i = 1 ∨ i = 2 ∨ i = 3 ∨ i = 4 ∨ i = 5 ∨ i = 6 ∨ i = 7 ∨ i = 8 ∨ i = 9 ∨ i = 10 ∨ i = 11 by omega) with rfl | rfl | rfl | rfl | rfl | rfl | rfl | rfl | rfl | rfl | rfl | rfl
      · generalize ha1 : putsL _ [8, 9, 10, 11, 12, 13, 7, 14, 15, 5, 6] f = a1
        have E2 : a1.tmps[2]?.getD undef = .pointer (some ⟨bL, 0, none⟩) := by rw [← ha1]; exact (putsL_out2 _ _ _ _ (by decide)).trans rfl
        have p0 := obj_cell (obj_below HL0.out hJ.old) 0
        simp at p0
        exact wpOp_val rfl rfl (v := .agg #[v]) (w' := W) (by simp [execOp, go_sem, E2, p0]) ⟨updF f 8 (.agg #[v]), by rw [← ha1]; exact putsL_put _ _ _ _ _ (by decide), hJ.upd hs12 (i := 0) (by decide) (by decide) (by decide) (Below.refl _ _)⟩
      · generalize ha1 : putsL _ [8, 9, 10, 11, 12, 13, 7, 14, 15, 5, 6] f = a1
        have E1 : a1.tmps[1]?.getD undef = .int .i64 y := by rw [← ha1]; exact (putsL_out2 _ _ _ _ (by decide)).trans rfl
        exact wpOp_val rfl rfl (v := .int .i64 y) (w' := W) (by simp [execOp, go_sem, E1]) ⟨updF f 9 (.int .i64 y), by rw [← ha1]; exact putsL_put _ _ _ _ _ (by decide), hJ.upd hs12 (i := 1) (by decide) (by decide) (by decide) (Below.refl _ _)⟩
      · have h1 : f 9 = .int .i64 y := hJ.vals 1 (by decide) (by decide) (by decide) (dep_listed hdep (show depB _ 2 1 = true by kernel_rfl))
        generalize ha1 : putsL _ [8, 9, 10, 11, 12, 13, 7, 14, 15, 5, 6] f = a1
        have E9 : a1.tmps[9]?.getD undef = .int .i64 y := by rw [← ha1]; exact (putsL_in2 _ _ _ _ (by decide) (show 9 < 17 from by decide)).trans h1
        exact wpOp_val rfl rfl (v := .int .i64 (360 * y)) (w' := W) (by simp [execOp, go_sem, E9, h36, h36b]) ⟨updF f 10 (.int .i64 (360 * y)), by rw [← ha1]; exact putsL_put _ _ _ _ _ (by decide), hJ.upd hs12 (i := 2) (by decide) (by decide) (by decide) (Below.refl _ _)⟩
      · generalize ha1 : putsL _ [8, 9, 10, 11, 12, 13, 7, 14, 15, 5, 6] f = a1
        have E1 : a1.tmps[1]?.getD undef = .int .i64 y := by rw [← ha1]; exact (putsL_out2 _ _ _ _ (by decide)).trans rfl
        exact wpOp_val rfl rfl (v := .int .i64 y) (w' := W) (by simp [execOp, go_sem, E1]) ⟨updF f 11 (.int .i64 y), by rw [← ha1]; exact putsL_put _ _ _ _ _ (by decide), hJ.upd hs12 (i := 3) (by decide) (by decide) (by decide) (Below.refl _ _)⟩
      · have h3 : f 11 = .int .i64 y := hJ.vals 3 (by decide) (by decide) (by decide) (dep_listed hdep (show depB _ 4 3 = true by kernel_rfl))
        generalize ha1 : putsL _ [8, 9, 10, 11, 12, 13, 7, 14, 15, 5, 6] f = a1
        have E11 : a1.tmps[11]?.getD undef = .int .i64 y := by rw [← ha1]; exact (putsL_in2 _ _ _ _ (by decide) (show 11 < 17 from by decide)).trans h3
        refine wpOp_call rfl rfl (n := 56) (vs := #[.int .i64 y]) (by have := egL #[.int .i64 y] W; simp [execOp, E11, resolve, invoke, go_sem] <;> exact this) ((HLD.out W).mono fun e w' hh => (⟨_, hh.1, rfl, hh.2⟩ : ∃ u, e = .returned u ∧ (u = .int .i64 (360 * y + 359) ∧ Below W.heap.size W w'))) ?_
        rintro u w' ⟨rfl, hb⟩
        exact ⟨updF f 12 (.int .i64 (360 * y + 359)), by rw [← ha1]; exact putsL_put _ _ _ _ _ (by decide), hJ.upd hs12 (i := 4) (by decide) (by decide) (by decide) hb⟩
      · have h0 : f 8 = .agg #[v] := hJ.vals 0 (by decide) (by decide) (by decide) (dep_listed hdep (show depB _ 5 0 = true by kernel_rfl))
        have h2 : f 10 = .int .i64 (360 * y) := hJ.vals 2 (by decide) (by decide) (by decide) (dep_listed hdep (show depB _ 5 2 = true by kernel_rfl))
        have h4 : f 12 = .int .i64 (360 * y + 359) := hJ.vals 4 (by decide) (by decide) (by decide) (dep_listed hdep (show depB _ 5 4 = true by kernel_rfl))
        generalize ha1 : putsL _ [8, 9, 10, 11, 12, 13, 7, 14, 15, 5, 6] f = a1
        have E8 : a1.tmps[8]?.getD undef = .agg #[v] := by rw [← ha1]; exact (putsL_in2 _ _ _ _ (by decide) (show 8 < 17 from by decide)).trans h0
        have E10 : a1.tmps[10]?.getD undef = .int .i64 (360 * y) := by rw [← ha1]; exact (putsL_in2 _ _ _ _ (by decide) (show 10 < 17 from by decide)).trans h2
        have E12 : a1.tmps[12]?.getD undef = .int .i64 (360 * y + 359) := by rw [← ha1]; exact (putsL_in2 _ _ _ _ (by decide) (show 12 < 17 from by decide)).trans h4
        refine wpOp_call rfl rfl (n := 55) (vs := #[.agg #[v], .int .i64 0, .int .i64 (360 * y), .int .i64 (360 * y + 359)]) (by have := egS #[.agg #[v], .int .i64 0, .int .i64 (360 * y), .int .i64 (360 * y + 359)] W; simp [execOp, E8, E10, E12, resolve, invoke, go_sem] <;> exact this) ((HST.out W (HB0.out.trans (hJ.old.mono HB0.out.size))).mono fun e w' hh => (⟨_, hh.1, rfl, hh.2⟩ : ∃ u, e = .returned u ∧ (u = .tuple #[.agg #[.int .i64 s0, .int .i64 s1, .int .i64 s2, .int .i64 s3, .int .i64 s4], .int .i64 0] ∧ Below W.heap.size W w'))) ?_
        rintro u w' ⟨rfl, hb⟩
        exact ⟨updF f 13 (.tuple #[.agg #[.int .i64 s0, .int .i64 s1, .int .i64 s2, .int .i64 s3, .int .i64 s4], .int .i64 0]), by rw [← ha1]; exact putsL_put _ _ _ _ _ (by decide), hJ.upd hs12 (i := 5) (by decide) (by decide) (by decide) hb⟩
      · have h5 : f 13 = .tuple #[.agg #[.int .i64 s0, .int .i64 s1, .int .i64 s2, .int .i64 s3, .int .i64 s4], .int .i64 0] := hJ.vals 5 (by decide) (by decide) (by decide) (dep_listed hdep (show depB _ 6 5 = true by kernel_rfl))
        generalize ha1 : putsL _ [8, 9, 10, 11, 12, 13, 7, 14, 15, 5, 6] f = a1
        have E13 : a1.tmps[13]?.getD undef = .tuple #[.agg #[.int .i64 s0, .int .i64 s1, .int .i64 s2, .int .i64 s3, .int .i64 s4], .int .i64 0] := by rw [← ha1]; exact (putsL_in2 _ _ _ _ (by decide) (show 13 < 17 from by decide)).trans h5
        exact wpOp_val rfl rfl (v := .tuple #[.agg #[.int .i64 s0, .int .i64 s1, .int .i64 s2, .int .i64 s3, .int .i64 s4], .int .i64 0]) (w' := W) (by simp [execOp, go_sem, E13]) ⟨updF f 7 (.tuple #[.agg #[.int .i64 s0, .int .i64 s1, .int .i64 s2, .int .i64 s3, .int .i64 s4], .int .i64 0]), by rw [← ha1]; exact putsL_put _ _ _ _ _ (by decide), hJ.upd hs12 (i := 6) (by decide) (by decide) (by decide) (Below.refl _ _)⟩
      · have h6 : f 7 = .tuple #[.agg #[.int .i64 s0, .int .i64 s1, .int .i64 s2, .int .i64 s3, .int .i64 s4], .int .i64 0] := hJ.vals 6 (by decide) (by decide) (by decide) (dep_listed hdep (show depB _ 7 6 = true by kernel_rfl))
        generalize ha1 : putsL _ [8, 9, 10, 11, 12, 13, 7, 14, 15, 5, 6] f = a1
        have E7 : a1.tmps[7]?.getD undef = .tuple #[.agg #[.int .i64 s0, .int .i64 s1, .int .i64 s2, .int .i64 s3, .int .i64 s4], .int .i64 0] := by rw [← ha1]; exact (putsL_in2 _ _ _ _ (by decide) (show 7 < 17 from by decide)).trans h6
        exact wpOp_val rfl rfl (v := .agg #[.int .i64 s0, .int .i64 s1, .int .i64 s2, .int .i64 s3, .int .i64 s4]) (w' := W) (by simp [execOp, go_sem, E7]) ⟨updF f 14 (.agg #[.int .i64 s0, .int .i64 s1, .int .i64 s2, .int .i64 s3, .int .i64 s4]), by rw [← ha1]; exact putsL_put _ _ _ _ _ (by decide), hJ.upd hs12 (i := 7) (by decide) (by decide) (by decide) (Below.refl _ _)⟩
      · have h6 : f 7 = .tuple #[.agg #[.int .i64 s0, .int .i64 s1, .int .i64 s2, .int .i64 s3, .int .i64 s4], .int .i64 0] := hJ.vals 6 (by decide) (by decide) (by decide) (dep_listed hdep (show depB _ 8 6 = true by kernel_rfl))
        generalize ha1 : putsL _ [8, 9, 10, 11, 12, 13, 7, 14, 15, 5, 6] f = a1
        have E7 : a1.tmps[7]?.getD undef = .tuple #[.agg #[.int .i64 s0, .int .i64 s1, .int .i64 s2, .int .i64 s3, .int .i64 s4], .int .i64 0] := by rw [← ha1]; exact (putsL_in2 _ _ _ _ (by decide) (show 7 < 17 from by decide)).trans h6
        exact wpOp_val rfl rfl (v := .int .i64 0) (w' := W) (by simp [execOp, go_sem, E7]) ⟨updF f 15 (.int .i64 0), by rw [← ha1]; exact putsL_put _ _ _ _ _ (by decide), hJ.upd hs12 (i := 8) (by decide) (by decide) (by decide) (Below.refl _ _)⟩
      · generalize ha1 : putsL _ [8, 9, 10, 11, 12, 13, 7, 14, 15, 5, 6] f = a1
        exact wpOp_val rfl rfl (v := .pointer (some ⟨W.heap.size, 0, none⟩)) (w' := W.alloc (.cells #[.int .i64 0, .int .i64 0, .int .i64 0, .int .i64 0, .int .i64 0] 38)) (by simp [execOp, go_sem]) ⟨updF f 5 (.pointer (some ⟨W.heap.size, 0, none⟩)), by rw [← ha1]; exact putsL_put _ _ _ _ _ (by decide), hJ.newBox hs12 hun⟩
      · have h7 : f 14 = .agg #[.int .i64 s0, .int .i64 s1, .int .i64 s2, .int .i64 s3, .int .i64 s4] := hJ.vals 7 (by decide) (by decide) (by decide) (dep_listed hdep (show depB _ 10 7 = true by kernel_rfl))
        obtain ⟨b, cs, hb5, hbl, hcs, hbx, -⟩ := hJ.box (dep_listed hdep (show depB _ 10 9 = true by kernel_rfl))
        have hl9 := dep_listed hdep (show depB _ 10 9 = true by kernel_rfl)
        generalize ha1 : putsL _ [8, 9, 10, 11, 12, 13, 7, 14, 15, 5, 6] f = a1
        have E14 : a1.tmps[14]?.getD undef = .agg #[.int .i64 s0, .int .i64 s1, .int .i64 s2, .int .i64 s3, .int .i64 s4] := by rw [← ha1]; exact (putsL_in2 _ _ _ _ (by decide) (show 14 < 17 from by decide)).trans h7
        have E5 : a1.tmps[5]?.getD undef = .pointer (some ⟨b, 0, none⟩) := by rw [← ha1]; exact (putsL_in2 _ _ _ _ (by decide) (show 5 < 17 from by decide)).trans hb5
        obtain ⟨⟨u0, p0⟩, ⟨u1, p1⟩, ⟨u2, p2⟩, ⟨u3, p3⟩, ⟨u4, p4⟩⟩ := cells_five hbx hcs
        have f0 := obj_free hbx 0
        have f1 := obj_free hbx 1
        have f2 := obj_free hbx 2
        have f3 := obj_free hbx 3
        have f4 := obj_free hbx 4
        exact wpOp_skip rfl rfl (w' := put5 W b (.int .i64 s0) (.int .i64 s1) (.int .i64 s2) (.int .i64 s3) (.int .i64 s4)) (by unfold put5; simp [execOp, go_sem, E5, E14, p0, p1, p2, p3, p4, f0, f1, f2, f3, f4]) ⟨f, by rw [← ha1]; rfl, hJ.putBox hs12 hl9 hb5 hbl hcs hbx⟩
      · have h8 : f 15 = .int .i64 0 := hJ.vals 8 (by decide) (by decide) (by decide) (dep_listed hdep (show depB _ 11 8 = true by kernel_rfl))
        generalize ha1 : putsL _ [8, 9, 10, 11, 12, 13, 7, 14, 15, 5, 6] f = a1
        have E15 : a1.tmps[15]?.getD undef = .int .i64 0 := by rw [← ha1]; exact (putsL_in2 _ _ _ _ (by decide) (show 15 < 17 from by decide)).trans h8
        exact wpOp_val rfl rfl (v := .int .i64 0) (w' := W) (by simp [execOp, go_sem, E15]) ⟨updF f 6 (.int .i64 0), by rw [← ha1]; exact putsL_put _ _ _ _ _ (by decide), hJ.upd hs12 (i := 11) (by decide) (by decide) (by decide) (Below.refl _ _)⟩
    · intro L f W hJ hall
      obtain ⟨b, cs, e1, e2, e3, e4, e5⟩ := hJ.box (hall 9 (by decide))
      rw [e5 (hall 10 (by decide))] at e4
      have hold := hJ.old
      simp only [putsL, List.foldl_cons, List.foldl_nil, Act.put, List.setIfInBounds_toArray, List.set_cons_zero, List.set_cons_succ]
      go_wp2
      go_meet
      exact ⟨b, (by first | exact e1 | rfl), Lib.hid hold, Lib.hid e4⟩
  case rest =>
    obtain ⟨b, rfl, HBW, HX⟩ := hcut
    have HR1 := Lib.hid (obj_below HR0.out HBW.out)
    have HBF := Lib.hid (HB0.out.trans (HBW.out.mono HB0.out.size))
    have hx := HX.out
    have x0 := obj_cell hx 0
    have x1 := obj_cell hx 1
    have x2 := obj_cell hx 2
    have x3 := obj_cell hx 3
    have x4 := obj_cell hx 4
    simp at x0 x1 x2 x3 x4
    have hr := HR1.out
    have r0 := obj_cell hr 0
    have r1 := obj_cell hr 1
    have r2 := obj_cell hr 2
    have r3 := obj_cell hr 3
    have r4 := obj_cell hr 4
    simp at r0 r1 r2 r3 r4
    have fr0 := obj_free hr 0
    have fr1 := obj_free hr 1
    have fr2 := obj_free hr 2
    have fr3 := obj_free hr 3
    have fr4 := obj_free hr 4
    clear hx hr
    go_wp2
    refine ret5 HR1.out rfl _ _ _ _ _ (v := .agg #[.int .i64 s0, .int .i64 s1, .int .i64 s2, .int .i64 s3, .int .i64 s4]) (fun F hF => ?_) rfl ⟨rfl, put5_below HBF.out HLL.out _ _ _ _ _⟩
    have q0 := obj_cell hF 0
    have q1 := obj_cell hF 1
    have q2 := obj_cell hF 2
    have q3 := obj_cell hF 3
    have q4 := obj_cell hF 4
    simp at q0 q1 q2 q3 q4
    simp [results, Try.results33, go_sem, q0, q1, q2, q3, q4]

end Go.Proofs.Ytoccnindkimjdaa
