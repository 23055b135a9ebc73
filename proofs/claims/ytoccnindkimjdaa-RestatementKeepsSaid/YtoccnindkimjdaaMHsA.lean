/- The source's corrections: right ones, of the years 0 to 2, that were found on the day asked for. -/
import Derived.Test.YtoccnindkimjdaaMRsZ
import Derived.Test.YtoccnindkimjdaaMLgGs
set_option linter.unusedSimpArgs false
set_option linter.unusedVariables false
set_option linter.unusedSimpArgs false
set_option linter.unusedVariables false
namespace Go.Proofs.Ytoccnindkimjdaa
open Go.RowKit Go.Lib Go.Proofs

/-- The boxes of correction. -/
structure CoB (w : World) (tb bC bR : Nat) (y f : Int) (v : Value) (W : World) : Prop where
  si : SI w tb W
  box : W.heap[bC]? = some (.cells #[.int .i64 y, .int .i64 f, v] 49 (0, 0))
  res : W.heap[bR]? = some (.cells #[.int .i64 0, .int .i64 0, .slice none 0 0] 49 (0, 0))
  lc : w.heap.size ≤ bC
  lr : w.heap.size ≤ bR
  ne : bC ≠ bR
structure CoI (w : World) (tb bC bR : Nat) (y f : Int) (v : Value) (ps : List Pst) (W : World) : Prop where
  b : CoB w tb bC bR y f v W
  row : W.ownsRow w.heap.size 55 8 v ps.length (cellsL pstC ps)
  ok : ∀ p ∈ ps, PstY y p
theorem CoB.turn {w W W' : World} {tb bC bR : Nat} {y f : Int} {v : Value} (h : CoB w tb bC bR y f v W) (hs : SrcAt W' tb) (hg : W.grownBy W' (some tb)) : CoB w tb bC bR y f v W' := by
  have h1 := h.si.lt
  have h2 := h.lc
  have h3 := h.lr
  exact ⟨h.si.turn hs hg, obj_turn h.box hg (by omega), obj_turn h.res hg (by omega), h.lc, h.lr, h.ne⟩
theorem CoB.grown {w W W' : World} {tb bC bR : Nat} {y f : Int} {v u : Value} {n : Nat} {xs : List Value} (h : CoB w tb bC bR y f v W) (ho : W.ownsRow w.heap.size 55 8 u n xs) (hg : W.grownBy W' u.ownBlock) : CoB w tb bC bR y f v W' :=
  ⟨h.si.grown hg fun r e => ownBlock_le ho r e, box_keep h.box hg (notOf_owns ho (by decide)), box_keep h.res hg (notOf_owns ho (by decide)), h.lc, h.lr, h.ne⟩
theorem CoB.store {w W : World} {tb bC bR : Nat} {y f : Int} {v u : Value} (h : CoB w tb bC bR y f v W) {l : List Pst} {n : Nat} (hn : l.length = n) (ho : W.ownsRow w.heap.size 55 8 u n (cellsL pstC l)) (hok : ∀ p ∈ l, PstY y p) : CoI w tb bC bR y f u l (W.setCell ⟨bC, 2, none⟩ u) := by
  subst hn
  have hg : W.grownBy (W.setCell ⟨bC, 2, none⟩ u) (some bC) := setCell_grown _ _
  have hset := obj_set h.box 2 u
  simp only [List.setIfInBounds_toArray, List.set_cons_zero, List.set_cons_succ] at hset
  exact ⟨⟨h.si.set h.lc _ _, hset, (hg.block bR (obj_lt h.res) (by simp [Ne.symm h.ne])).trans h.res, h.lc, h.lr, h.ne⟩, owns_keep ho hg (notOf_box h.box (by decide)), hok⟩

set_option maxRecDepth 100000 in
set_option maxHeartbeats 16000000 in
theorem correction44_any (tb : Nat) {fnd : Int} (hf : 1080 ≤ fnd ∧ fnd ≤ 36000) (w : World) (hs : SrcAt w tb) :
    Calls Try.prog 16 #[.pointer (some ⟨tb, 0, none⟩), .int .i64 fnd] w fun e w' => ∃ (c : Cor) (sx : Sli), e = .returned (.agg #[.int .i64 c.yr, .int .i64 c.fnd, sx.v]) ∧ CorOk c ∧ (c.yr ≤ 2 ∧ c.fnd = fnd) ∧ PstsAt w' sx.v c.ps ∧ SI w tb w' := by
  obtain ⟨i0, hi0, hz0, hz1, hz2⟩ := info_parts Try.infoRsPst
  have hlt := hs.lt
  obtain ⟨w0, hw0⟩ : ∃ W, W = w.alloc (.cells #[.int .i64 0, .int .i64 0, .slice none 0 0] 49) := ⟨_, rfl⟩
  obtain ⟨bR, hbR⟩ : ∃ b, b = w.heap.size := ⟨_, rfl⟩
  have HR0 : Hid (w0.heap[bR]? = some (.cells #[.int .i64 0, .int .i64 0, .slice none 0 0] 49 (0, 0))) := Lib.hid (by rw [hw0, hbR]; exact heap_alloc_new _ _)
  have HI0 : Hid (SI w tb w0) := Lib.hid (by rw [hw0]; exact (si_start hs).alloc _)
  have HLR : Hid (w.heap.size ≤ bR ∧ bR ≠ tb) := Lib.hid ⟨by omega, by omega⟩
  have HLT := Lib.hid hlt
  have HW0 := Lib.hid hw0
  have HBR := Lib.hid hbR
  clear hw0 hbR hs
  go_enter Try.func16, Try.ntmps16
  go_upto_region 1 with fail
  rw [← HW0.out, ← HBR.out]
  go_wp2_with fail
  refine (range_in HI0.out 0 2 (by omega) (by omega) (by omega)).mono ?_
  rintro e w1 ⟨y, rfl, y0, y1, hi1, hg1⟩
  have hr1 := obj_turn HR0.out hg1 HLR.out.2
  obtain ⟨w2, hw2⟩ : ∃ W, W = w1.alloc (.cells #[.int .i64 y, .int .i64 fnd, .slice none 0 0] 49) := ⟨_, rfl⟩
  obtain ⟨bC, hbC⟩ : ∃ b, b = w1.heap.size := ⟨_, rfl⟩
  have HC2 : Hid (CoB w tb bC bR y fnd (.slice none 0 0) w2) := Lib.hid (by
    have h1 : w2.heap[bC]? = some (.cells #[.int .i64 y, .int .i64 fnd, .slice none 0 0] 49 (0, 0)) := by rw [hw2, hbC]; exact heap_alloc_new _ _
    have h2 := hi1.old.size
    have h3 := obj_lt hr1
    exact ⟨by rw [hw2]; exact hi1.alloc _, h1, by rw [hw2]; exact obj_below hr1 (below_alloc _ _), by omega, HLR.out.1, by omega⟩)
  have HW2 := Lib.hid hw2
  have HBC := Lib.hid hbC
  clear hi1 hg1 hr1 hw2 hbC HR0 HI0
  go_upto_region 2 with fail
  rw [← HW2.out, ← HBC.out]
  go_wp2_with fail
  refine (range_in HC2.out.si 1 3 (by omega) (by omega) (by omega)).mono ?_
  rintro e w3 ⟨k0, rfl, k00, k01, hi3, hg3⟩
  have HC3 := Lib.hid (HC2.out.turn hi3.src hg3)
  clear hi3 hg3 HC2
  obtain ⟨y36, hy36⟩ : ∃ q, q = 360 * y := ⟨_, rfl⟩
  have hw36 : IntKind.i64.wrap (360 * y) = y36 := by rw [hy36]; exact IntWalk.i64_in _ (by omega)
  have hw37 : wrap64 (360 * y) = y36 := by rw [hy36]; exact IntWalk.wrap64_in _ (by omega)
  have HY36 := Lib.hid hy36
  have HWD : Hid (∀ dd : Int, (0 ≤ dd ∧ dd < 360) → IntKind.i64.wrap (y36 + dd) = y36 + dd) := Lib.hid fun dd hd => IntWalk.i64_in _ (by omega)
  clear hy36
  go_wp2
  go_loopw [6] (fun kv wr => ∃ (kk : Int) (ps : List Pst) (av : Option Addr) (cv m : Nat), kv = .int .i64 kk ∧ 0 ≤ kk ∧ (ps.length : Int) + kk ≤ 3 ∧ 1 ≤ (ps.length : Int) + kk ∧ Hid (m = ps.length) ∧ Hid (CoI w tb bC bR y fnd (.slice av m cv) ps wr)) (fun kv _ => (RowKit.intOf kv).toNat)
  case atStart => exact ⟨k0, [], none, 0, 0, rfl, by omega, by simp; omega, by simp; omega, Lib.hid rfl, Lib.hid ⟨HC3.out, World.ownsRow_nil _ _ _ _, fun p hp => by simp at hp⟩⟩
  case round =>
  clear HC3
  obtain ⟨kk, ps, av, cv, m, rfl, hk0, hk3, hk1, HM, HI⟩ := hrel
  have hm3 : (m : Int) + kk ≤ 3 ∧ 1 ≤ (m : Int) + kk := by rw [HM.out]; omega
  clear hk3 hk1
  by_cases hkp : 0 < kk
  · have hwk : IntKind.i64.wrap (kk - 1) = kk - 1 := IntWalk.i64_in _ (by omega)
    have HLQ : Hid ((∀ x : Pst, ((ps ++ [x]).length : Int) + (kk - 1) ≤ 3) ∧ (∀ x : Pst, 1 ≤ ((ps ++ [x]).length : Int) + (kk - 1)) ∧ (∀ x : Pst, m + 1 = (ps ++ [x]).length)) := Lib.hid ⟨fun x => by rw [List.length_append, List.length_singleton, ← HM.out]; omega, fun x => by rw [List.length_append, List.length_singleton, ← HM.out]; omega, fun x => by rw [List.length_append, List.length_singleton, ← HM.out]⟩
    obtain ⟨J, hJ⟩ : ∃ J, J = fun W : World => SI wr tb W := ⟨_, rfl⟩
    have HJO : Hid (∀ W, J W → SI wr tb W) := Lib.hid fun W hW => by rw [hJ] at hW; exact hW
    have HJI : Hid (∀ W, SI wr tb W → J W) := Lib.hid fun W hW => by rw [hJ]; exact hW
    have HJD : Hid (∀ W, J W → J W.drew) := Lib.hid fun W hW => HJI.out _ ((HJO.out W hW).drew)
    have HJA : Hid (∀ W o, J W → J (W.alloc o)) := Lib.hid fun W o hW => HJI.out _ ((HJO.out W hW).alloc o)
    have HJ0 : Hid (J wr) := Lib.hid (HJI.out _ (si_start HI.out.b.si.src))
    have HTL : Hid (∀ W, J W → tb < W.heap.size) := Lib.hid fun W hW => (HJO.out W hW).src.lt
    have HJW : Hid (∀ W, J W → w.heap.size ≤ W.heap.size) := Lib.hid fun W hW => Nat.le_trans HI.out.b.si.old.size (HJO.out W hW).old.size
    have HJB : Hid (∀ W, J W → CoB w tb bC bR y fnd (.slice av m cv) W) := Lib.hid fun W hW => HI.out.b.turn (HJO.out W hW).src (HJO.out W hW).old
    have HMC : Hid (∀ W, J W → ∀ j, W.cell? ⟨bC, j, none⟩ = #[.int .i64 y, .int .i64 fnd, .slice av m cv][j]?) := Lib.hid fun W hW j => obj_cell (HJB.out W hW).box j
    have HOW : Hid (∀ W, J W → W.ownsRow w.heap.size 55 8 (.slice av m cv) m (cellsL pstC ps)) := Lib.hid fun W hW => by
      have h := HI.out.row.kept (HJO.out W hW).old (ownBlock_ne HI.out.row tb HLT.out)
      rw [← HM.out] at h
      exact h
    have HKN : Hid (∀ W w', J W → W.grownBy w' (Value.ownBlock (.slice av m cv)) → CoB w tb bC bR y fnd (.slice av m cv) w') := Lib.hid fun W w' hW hg => (HJB.out W hW).grown (HOW.out W hW) hg
    have HRG : Hid (∀ W, J W → Calls Try.prog 36 #[.pointer (some ⟨tb, 0, none⟩), .int .i64 1, .int .i64 9] W fun e w' => ∃ rn, e = .returned (.int .i64 rn) ∧ (1 ≤ rn ∧ rn ≤ 9) ∧ J w' ∧ SrcAt W tb ∧ W.grownBy w' (some tb)) := Lib.hid fun W hW => (range_in (HJO.out W hW) 1 9 (by omega) (by omega) (by omega)).mono fun e w' ⟨r, h1, h2, h3, h4, h5⟩ => ⟨r, h1, ⟨h2, h3⟩, HJI.out _ h4, (HJO.out W hW).src, h5⟩
    have HNN : Hid (∀ W, J W → Calls Try.prog 21 #[.pointer (some ⟨tb, 0, none⟩), .int .i64 360] W fun e w' => ∃ dd, e = .returned (.int .i64 dd) ∧ (0 ≤ dd ∧ dd < 360) ∧ J w' ∧ SrcAt W tb ∧ W.grownBy w' (some tb)) := Lib.hid fun W hW => (n_in (HJO.out W hW) 360 (by omega) (by omega)).mono fun e w' ⟨r, h1, h2, h3, h4, h5⟩ => ⟨r, h1, ⟨h2, h3⟩, HJI.out _ h4, (HJO.out W hW).src, h5⟩
    have HPO : Hid (∀ (rn dd : Int) W, J W → (1 ≤ rn ∧ rn ≤ 9) → (0 ≤ dd ∧ dd < 360) → Calls Try.prog 37 #[.pointer (some ⟨tb, 0, none⟩), .int .i64 rn, .int .i64 (y36 + dd), .int .i64 2] W fun e w' => ∃ z0 z1 z2 z3 z4 z5 z6 z7, e = .returned (.agg #[.int .i64 z0, .int .i64 z1, .int .i64 z2, .int .i64 z3, .int .i64 z4, .int .i64 z5, .int .i64 z6, .int .i64 z7]) ∧ PstY y ⟨z0, z1, z2, z3, z4, z5, z6, z7⟩ ∧ J w' ∧ SrcAt W tb ∧ W.grownBy w' (some tb)) := Lib.hid fun rn dd W hW hr hd => (sPosting_any tb rn (y36 + dd) 2 W (HJO.out W hW).src (by omega) (by have := HY36.out; omega) (by omega)).mono fun e w' ⟨p, h1, h2, h3, h4, h5, h6⟩ => by
      obtain ⟨z0, z1, z2, z3, z4, z5, z6, z7⟩ := p
      have hy := HY36.out
      simp only at h4 h5
      exact ⟨z0, z1, z2, z3, z4, z5, z6, z7, h1, ⟨h2, h5.2, by show 360 * y ≤ z1 ∧ z1 ≤ 360 * y + 359; omega⟩, HJI.out _ ((HJO.out W hW).turn h6.src h6.old), (HJO.out W hW).src, h6.old⟩
    have HONE : Hid (∀ z0 z1 z2 z3 z4 z5 z6 z7 : Int, ∀ u ∈ ([.int .i64 z0, .int .i64 z1, .int .i64 z2, .int .i64 z3, .int .i64 z4, .int .i64 z5, .int .i64 z6, .int .i64 z7] : List Value), u.oneCell' = true) := Lib.hid fun z0 z1 z2 z3 z4 z5 z6 z7 => pstF.one ⟨z0, z1, z2, z3, z4, z5, z6, z7⟩
    have HSN : Hid (∀ z0 z1 z2 z3 z4 z5 z6 z7 : Int, cellsL pstC ps ++ [.int .i64 z0, .int .i64 z1, .int .i64 z2, .int .i64 z3, .int .i64 z4, .int .i64 z5, .int .i64 z6, .int .i64 z7] = cellsL pstC (ps ++ [⟨z0, z1, z2, z3, z4, z5, z6, z7⟩])) := Lib.hid fun z0 z1 z2 z3 z4 z5 z6 z7 => cellsL_snoc pstC ps ⟨z0, z1, z2, z3, z4, z5, z6, z7⟩
    have HST : Hid (∀ (x : Pst) W u, CoB w tb bC bR y fnd (.slice av m cv) W → W.ownsRow w.heap.size 55 8 u (m + 1) (cellsL pstC (ps ++ [x])) → PstY y x → CoI w tb bC bR y fnd u (ps ++ [x]) (W.setCell ⟨bC, 2, none⟩ u)) := Lib.hid fun x W u h1 h2 h3 => h1.store (HLQ.out.2.2 x).symm h2 fun p hp => by
      rcases List.mem_append.1 hp with hp | hp
      · exact HI.out.ok p hp
      · rw [List.mem_singleton] at hp
        rw [hp]
        exact h3
    have egR := enters_of Try.func36 (by kernel_rfl) rfl
    have egN := enters_of Try.func21 (by kernel_rfl) rfl
    have egP := enters_of Try.func37 (by kernel_rfl) rfl
    clear hJ
    go_upto_region 5 with fail
    obtain ⟨P, hP⟩ : ∃ P : Nat → Value → World → Prop, P = fun j v W => match j with | 0 => (v = .pointer (some ⟨bC, 2, none⟩)) | 1 => (v = .slice av m cv) | 2 => (v = .pointer (some ⟨tb, 0, none⟩)) | 3 => (v = .pointer (some ⟨tb, 0, none⟩)) | 4 => (∃ rn, v = .int .i64 rn ∧ (1 ≤ rn ∧ rn ≤ 9)) | 5 => (v = .pointer (some ⟨bC, 0, none⟩)) | 6 => (v = .int .i64 y) | 7 => (v = .int .i64 y36) | 8 => (v = .pointer (some ⟨tb, 0, none⟩)) | 9 => (∃ dd, v = .int .i64 dd ∧ (0 ≤ dd ∧ dd < 360)) | 10 => (∃ dd, v = .int .i64 (y36 + dd) ∧ (0 ≤ dd ∧ dd < 360)) | 11 => (∃ z0 z1 z2 z3 z4 z5 z6 z7, v = .agg #[.int .i64 z0, .int .i64 z1, .int .i64 z2, .int .i64 z3, .int .i64 z4, .int .i64 z5, .int .i64 z6, .int .i64 z7] ∧ PstY y ⟨z0, z1, z2, z3, z4, z5, z6, z7⟩) | 12 => (∃ bq z0 z1 z2 z3 z4 z5 z6 z7, v = .slice (some ⟨bq, 0, none⟩) 1 1 ∧ (bq ≠ tb ∧ W.heap[bq]? = some (.cells #[.int .i64 z0, .int .i64 z1, .int .i64 z2, .int .i64 z3, .int .i64 z4, .int .i64 z5, .int .i64 z6, .int .i64 z7] 55 (0, 0))) ∧ PstY y ⟨z0, z1, z2, z3, z4, z5, z6, z7⟩) | _ => True := ⟨_, rfl⟩
    have HPI0 : Hid (∀ v W, P 0 v W ↔ (v = .pointer (some ⟨bC, 2, none⟩))) := Lib.hid fun v W => by rw [hP] <;> exact Iff.rfl
    have HPI1 : Hid (∀ v W, P 1 v W ↔ (v = .slice av m cv)) := Lib.hid fun v W => by rw [hP] <;> exact Iff.rfl
    have HPI2 : Hid (∀ v W, P 2 v W ↔ (v = .pointer (some ⟨tb, 0, none⟩))) := Lib.hid fun v W => by rw [hP] <;> exact Iff.rfl
    have HPI3 : Hid (∀ v W, P 3 v W ↔ (v = .pointer (some ⟨tb, 0, none⟩))) := Lib.hid fun v W => by rw [hP] <;> exact Iff.rfl
    have HPI4 : Hid (∀ v W, P 4 v W ↔ (∃ rn, v = .int .i64 rn ∧ (1 ≤ rn ∧ rn ≤ 9))) := Lib.hid fun v W => by rw [hP] <;> exact Iff.rfl
    have HPI5 : Hid (∀ v W, P 5 v W ↔ (v = .pointer (some ⟨bC, 0, none⟩))) := Lib.hid fun v W => by rw [hP] <;> exact Iff.rfl
    have HPI6 : Hid (∀ v W, P 6 v W ↔ (v = .int .i64 y)) := Lib.hid fun v W => by rw [hP] <;> exact Iff.rfl
    have HPI7 : Hid (∀ v W, P 7 v W ↔ (v = .int .i64 y36)) := Lib.hid fun v W => by rw [hP] <;> exact Iff.rfl
    have HPI8 : Hid (∀ v W, P 8 v W ↔ (v = .pointer (some ⟨tb, 0, none⟩))) := Lib.hid fun v W => by rw [hP] <;> exact Iff.rfl
    have HPI9 : Hid (∀ v W, P 9 v W ↔ (∃ dd, v = .int .i64 dd ∧ (0 ≤ dd ∧ dd < 360))) := Lib.hid fun v W => by rw [hP] <;> exact Iff.rfl
    have HPI10 : Hid (∀ v W, P 10 v W ↔ (∃ dd, v = .int .i64 (y36 + dd) ∧ (0 ≤ dd ∧ dd < 360))) := Lib.hid fun v W => by rw [hP] <;> exact Iff.rfl
    have HPI11 : Hid (∀ v W, P 11 v W ↔ (∃ z0 z1 z2 z3 z4 z5 z6 z7, v = .agg #[.int .i64 z0, .int .i64 z1, .int .i64 z2, .int .i64 z3, .int .i64 z4, .int .i64 z5, .int .i64 z6, .int .i64 z7] ∧ PstY y ⟨z0, z1, z2, z3, z4, z5, z6, z7⟩)) := Lib.hid fun v W => by rw [hP] <;> exact Iff.rfl
    have HPI12 : Hid (∀ v W, P 12 v W ↔ (∃ bq z0 z1 z2 z3 z4 z5 z6 z7, v = .slice (some ⟨bq, 0, none⟩) 1 1 ∧ (bq ≠ tb ∧ W.heap[bq]? = some (.cells #[.int .i64 z0, .int .i64 z1, .int .i64 z2, .int .i64 z3, .int .i64 z4, .int .i64 z5, .int .i64 z6, .int .i64 z7] 55 (0, 0))) ∧ PstY y ⟨z0, z1, z2, z3, z4, z5, z6, z7⟩)) := Lib.hid fun v W => by rw [hP] <;> exact Iff.rfl
    have HKP : Hid (∀ (j : Nat) v W W', Below W.heap.size W W' → P j v W → P j v W') := Lib.hid (by
      rw [hP]
      intro j v W W' hb h
      match j, h with
      | 0, h => exact h
      | 1, h => exact h
      | 2, h => exact h
      | 3, h => exact h
      | 4, ⟨rn, e, s0⟩ => exact ⟨rn, e, s0⟩
      | 5, h => exact h
      | 6, h => exact h
      | 7, h => exact h
      | 8, h => exact h
      | 9, ⟨dd, e, s0⟩ => exact ⟨dd, e, s0⟩
      | 10, ⟨dd, e, s0⟩ => exact ⟨dd, e, s0⟩
      | 11, ⟨z0, z1, z2, z3, z4, z5, z6, z7, e, s0⟩ => exact ⟨z0, z1, z2, z3, z4, z5, z6, z7, e, s0⟩
      | 12, ⟨bq, z0, z1, z2, z3, z4, z5, z6, z7, e, s0, s1⟩ => exact ⟨bq, z0, z1, z2, z3, z4, z5, z6, z7, e, ⟨s0.1, obj_below s0.2 hb⟩, s1⟩
      | j + 13, _ => trivial)
    have HKT : Hid (∀ (j : Nat) v W W', SrcAt W tb → W.grownBy W' (some tb) → P j v W → P j v W') := Lib.hid (by
      rw [hP]
      intro j v W W' hs hg h
      match j, h with
      | 0, h => exact h
      | 1, h => exact h
      | 2, h => exact h
      | 3, h => exact h
      | 4, ⟨rn, e, s0⟩ => exact ⟨rn, e, s0⟩
      | 5, h => exact h
      | 6, h => exact h
      | 7, h => exact h
      | 8, h => exact h
      | 9, ⟨dd, e, s0⟩ => exact ⟨dd, e, s0⟩
      | 10, ⟨dd, e, s0⟩ => exact ⟨dd, e, s0⟩
      | 11, ⟨z0, z1, z2, z3, z4, z5, z6, z7, e, s0⟩ => exact ⟨z0, z1, z2, z3, z4, z5, z6, z7, e, s0⟩
      | 12, ⟨bq, z0, z1, z2, z3, z4, z5, z6, z7, e, s0, s1⟩ => exact ⟨bq, z0, z1, z2, z3, z4, z5, z6, z7, e, ⟨s0.1, obj_turn s0.2 hg s0.1⟩, s1⟩
      | j + 13, _ => trivial)
    clear hP
    refine wp_region_tail [17, 18, 19, 20, 21, 22, 23, 24, 25, 26, 27, 28, 29, 30, 31] (slotS [17, 18, 19, 20, 21, 22, 23, 24, 25, 26, 27, 28, 29]) (readsS [17, 18, 19, 20, 21, 22, 23, 24, 25, 26, 27, 28, 29]) (RP [17, 18, 19, 20, 21, 22, 23, 24, 25, 26, 27, 28, 29] P) J (fun j f W => match j with | 0 => (∃ bq z0 z1 z2 z3 z4 z5 z6 z7, f 18 = .slice av m cv ∧ f 29 = .slice (some ⟨bq, 0, none⟩) 1 1 ∧ J W ∧ W.heap[bq]? = some (.cells #[.int .i64 z0, .int .i64 z1, .int .i64 z2, .int .i64 z3, .int .i64 z4, .int .i64 z5, .int .i64 z6, .int .i64 z7] 55 (0, 0)) ∧ PstY y ⟨z0, z1, z2, z3, z4, z5, z6, z7⟩) | 1 => (∃ uq z0 z1 z2 z3 z4 z5 z6 z7, f 30 = uq ∧ CoB w tb bC bR y fnd (.slice av m cv) W ∧ W.ownsRow w.heap.size 55 8 (uq) (m + 1) (cellsL pstC (ps ++ [⟨z0, z1, z2, z3, z4, z5, z6, z7⟩])) ∧ PstY y ⟨z0, z1, z2, z3, z4, z5, z6, z7⟩) | 2 => (∃ uq z0 z1 z2 z3 z4 z5 z6 z7, f 30 = uq ∧ f 31 = .pointer (some ⟨bC, 2, none⟩) ∧ CoB w tb bC bR y fnd (.slice av m cv) W ∧ W.ownsRow w.heap.size 55 8 (uq) (m + 1) (cellsL pstC (ps ++ [⟨z0, z1, z2, z3, z4, z5, z6, z7⟩])) ∧ PstY y ⟨z0, z1, z2, z3, z4, z5, z6, z7⟩) | _ => (∃ uq z0 z1 z2 z3 z4 z5 z6 z7, CoI w tb bC bR y fnd uq (ps ++ [⟨z0, z1, z2, z3, z4, z5, z6, z7⟩]) W)) 13 8 (by decide) (by kernel_rfl) (by kernel_rfl) (by kernel_rfl) (by kernel_rfl) (HJD.out _ HJ0.out) (fun j f q v W hq h => RP.upd hq h) ?_ ?_ ?_ ?_
    case refine_1 =>
      intro iq hiq f W hIW hdep0
      have hdep : ∀ j, depB _ iq j = true → P j (f (slotS [17, 18, 19, 20, 21, 22, 23, 24, 25, 26, 27, 28, 29] j)) W := hdep0
      clear hdep0
      generalize ha1 : putsL _ [17, 18, 19, 20, 21, 22, 23, 24, 25, 26, 27, 28, 29, 30, 31] f = a1
      match iq, hiq, hdep with
      | 0, _, hdep0 =>
        have E5 : a1.tmps[5]?.getD undef = .pointer (some ⟨bC, 0, none⟩) := by rw [← ha1]; exact (putsL_out2 _ _ _ _ (by decide)).trans rfl
        exact wpOp_val rfl rfl (v := .pointer (some ⟨bC, 2, none⟩)) (w' := W) (by simp [execOp, go_sem, E5]) ⟨hIW, fun _ h => h, _, by decide, rfl, RP.set ((HPI0.out _ _).2 rfl)⟩
      | 1, _, hdep0 =>
        have hd0 := (HPI0.out _ _).1 (hdep0 0 (by kernel_rfl))
        have E17 : a1.tmps[17]?.getD undef = .pointer (some ⟨bC, 2, none⟩) := by rw [← ha1]; exact (putsL_in2 _ _ _ _ (by decide) (show 17 < 33 from by decide)).trans hd0
        have v2 : W.cell? ⟨bC, 2, none⟩ = some (.slice av m cv) := by simpa using HMC.out W hIW 2
        exact wpOp_val rfl rfl (v := .slice av m cv) (w' := W) (by simp [execOp, go_sem, E17, v2]) ⟨hIW, fun _ h => h, _, by decide, rfl, RP.set ((HPI1.out _ _).2 rfl)⟩
      | 2, _, hdep0 =>
        have E0 : a1.tmps[0]?.getD undef = .pointer (some ⟨tb, 0, none⟩) := by rw [← ha1]; exact (putsL_out2 _ _ _ _ (by decide)).trans rfl
        exact wpOp_val rfl rfl (v := .pointer (some ⟨tb, 0, none⟩)) (w' := W) (by simp [execOp, go_sem, E0]) ⟨hIW, fun _ h => h, _, by decide, rfl, RP.set ((HPI2.out _ _).2 rfl)⟩
      | 3, _, hdep0 =>
        have E0 : a1.tmps[0]?.getD undef = .pointer (some ⟨tb, 0, none⟩) := by rw [← ha1]; exact (putsL_out2 _ _ _ _ (by decide)).trans rfl
        exact wpOp_val rfl rfl (v := .pointer (some ⟨tb, 0, none⟩)) (w' := W) (by simp [execOp, go_sem, E0]) ⟨hIW, fun _ h => h, _, by decide, rfl, RP.set ((HPI3.out _ _).2 rfl)⟩
      | 4, _, hdep0 =>
        have hd3 := (HPI3.out _ _).1 (hdep0 3 (by kernel_rfl))
        have E20 : a1.tmps[20]?.getD undef = .pointer (some ⟨tb, 0, none⟩) := by rw [← ha1]; exact (putsL_in2 _ _ _ _ (by decide) (show 20 < 33 from by decide)).trans hd3
        refine wpOp_call rfl rfl (n := 36) (vs := #[.pointer (some ⟨tb, 0, none⟩), .int .i64 1, .int .i64 9]) (by have := egR #[.pointer (some ⟨tb, 0, none⟩), .int .i64 1, .int .i64 9] W; simp [execOp, E20, resolve, invoke, go_sem] <;> exact this) ((HRG.out W hIW).mono fun e w' hh => (by obtain ⟨rn, rfl, p0, hJ', hb'⟩ := hh; exact ⟨_, rfl, (HPI4.out _ _).2 ⟨_, rfl, p0⟩, hJ', hb'⟩ : ∃ v, e = .returned v ∧ (P 4 v w' ∧ J w' ∧ SrcAt W tb ∧ W.grownBy w' (some tb)))) ?_
        rintro v w' ⟨hv, hI', hb'⟩
        exact ⟨hI', fun j h => HKT.out j _ _ _ hb'.1 hb'.2 h, _, by decide, rfl, RP.set hv⟩
      | 5, _, hdep0 =>
        have E5 : a1.tmps[5]?.getD undef = .pointer (some ⟨bC, 0, none⟩) := by rw [← ha1]; exact (putsL_out2 _ _ _ _ (by decide)).trans rfl
        exact wpOp_val rfl rfl (v := .pointer (some ⟨bC, 0, none⟩)) (w' := W) (by simp [execOp, go_sem, E5]) ⟨hIW, fun _ h => h, _, by decide, rfl, RP.set ((HPI5.out _ _).2 rfl)⟩
      | 6, _, hdep0 =>
        have hd5 := (HPI5.out _ _).1 (hdep0 5 (by kernel_rfl))
        have E22 : a1.tmps[22]?.getD undef = .pointer (some ⟨bC, 0, none⟩) := by rw [← ha1]; exact (putsL_in2 _ _ _ _ (by decide) (show 22 < 33 from by decide)).trans hd5
        have v0 : W.cell? ⟨bC, 0, none⟩ = some (.int .i64 y) := by simpa using HMC.out W hIW 0
        exact wpOp_val rfl rfl (v := .int .i64 y) (w' := W) (by simp [execOp, go_sem, E22, v0]) ⟨hIW, fun _ h => h, _, by decide, rfl, RP.set ((HPI6.out _ _).2 rfl)⟩
      | 7, _, hdep0 =>
        have hd6 := (HPI6.out _ _).1 (hdep0 6 (by kernel_rfl))
        have E23 : a1.tmps[23]?.getD undef = .int .i64 y := by rw [← ha1]; exact (putsL_in2 _ _ _ _ (by decide) (show 23 < 33 from by decide)).trans hd6
        exact wpOp_val rfl rfl (v := .int .i64 y36) (w' := W) (by simp [execOp, go_sem, E23, hw36, hw37]) ⟨hIW, fun _ h => h, _, by decide, rfl, RP.set ((HPI7.out _ _).2 rfl)⟩
      | 8, _, hdep0 =>
        have E0 : a1.tmps[0]?.getD undef = .pointer (some ⟨tb, 0, none⟩) := by rw [← ha1]; exact (putsL_out2 _ _ _ _ (by decide)).trans rfl
        exact wpOp_val rfl rfl (v := .pointer (some ⟨tb, 0, none⟩)) (w' := W) (by simp [execOp, go_sem, E0]) ⟨hIW, fun _ h => h, _, by decide, rfl, RP.set ((HPI8.out _ _).2 rfl)⟩
      | 9, _, hdep0 =>
        have hd8 := (HPI8.out _ _).1 (hdep0 8 (by kernel_rfl))
        have E25 : a1.tmps[25]?.getD undef = .pointer (some ⟨tb, 0, none⟩) := by rw [← ha1]; exact (putsL_in2 _ _ _ _ (by decide) (show 25 < 33 from by decide)).trans hd8
        refine wpOp_call rfl rfl (n := 21) (vs := #[.pointer (some ⟨tb, 0, none⟩), .int .i64 360]) (by have := egN #[.pointer (some ⟨tb, 0, none⟩), .int .i64 360] W; simp [execOp, E25, resolve, invoke, go_sem] <;> exact this) ((HNN.out W hIW).mono fun e w' hh => (by obtain ⟨dd, rfl, p0, hJ', hb'⟩ := hh; exact ⟨_, rfl, (HPI9.out _ _).2 ⟨_, rfl, p0⟩, hJ', hb'⟩ : ∃ v, e = .returned v ∧ (P 9 v w' ∧ J w' ∧ SrcAt W tb ∧ W.grownBy w' (some tb)))) ?_
        rintro v w' ⟨hv, hI', hb'⟩
        exact ⟨hI', fun j h => HKT.out j _ _ _ hb'.1 hb'.2 h, _, by decide, rfl, RP.set hv⟩
      | 10, _, hdep0 =>
        have hd7 := (HPI7.out _ _).1 (hdep0 7 (by kernel_rfl))
        have hd9 := (HPI9.out _ _).1 (hdep0 9 (by kernel_rfl))
        have E24 : a1.tmps[24]?.getD undef = .int .i64 y36 := by rw [← ha1]; exact (putsL_in2 _ _ _ _ (by decide) (show 24 < 33 from by decide)).trans hd7
        obtain ⟨dd, q9, r9_0⟩ := hd9
        have E26 : a1.tmps[26]?.getD undef = .int .i64 dd := by rw [← ha1]; exact (putsL_in2 _ _ _ _ (by decide) (show 26 < 33 from by decide)).trans q9
        have hwd := HWD.out dd r9_0
        exact wpOp_val rfl rfl (v := .int .i64 (y36 + dd)) (w' := W) (by simp [execOp, go_sem, E24, E26, hwd]) ⟨hIW, fun _ h => h, _, by decide, rfl, RP.set ((HPI10.out _ _).2 ⟨_, rfl, r9_0⟩)⟩
      | 11, _, hdep0 =>
        have hd2 := (HPI2.out _ _).1 (hdep0 2 (by kernel_rfl))
        have hd4 := (HPI4.out _ _).1 (hdep0 4 (by kernel_rfl))
        have hd10 := (HPI10.out _ _).1 (hdep0 10 (by kernel_rfl))
        have E19 : a1.tmps[19]?.getD undef = .pointer (some ⟨tb, 0, none⟩) := by rw [← ha1]; exact (putsL_in2 _ _ _ _ (by decide) (show 19 < 33 from by decide)).trans hd2
        obtain ⟨rn, q4, r4_0⟩ := hd4
        have E21 : a1.tmps[21]?.getD undef = .int .i64 rn := by rw [← ha1]; exact (putsL_in2 _ _ _ _ (by decide) (show 21 < 33 from by decide)).trans q4
        obtain ⟨dd, q10, r10_0⟩ := hd10
        have E27 : a1.tmps[27]?.getD undef = .int .i64 (y36 + dd) := by rw [← ha1]; exact (putsL_in2 _ _ _ _ (by decide) (show 27 < 33 from by decide)).trans q10
        refine wpOp_call rfl rfl (n := 37) (vs := #[.pointer (some ⟨tb, 0, none⟩), .int .i64 rn, .int .i64 (y36 + dd), .int .i64 2]) (by have := egP #[.pointer (some ⟨tb, 0, none⟩), .int .i64 rn, .int .i64 (y36 + dd), .int .i64 2] W; simp [execOp, E19, E21, E27, resolve, invoke, go_sem] <;> exact this) ((HPO.out rn dd W hIW r4_0 r10_0).mono fun e w' hh => (by obtain ⟨z0, z1, z2, z3, z4, z5, z6, z7, rfl, p0, hJ', hb'⟩ := hh; exact ⟨_, rfl, (HPI11.out _ _).2 ⟨_, _, _, _, _, _, _, _, rfl, p0⟩, hJ', hb'⟩ : ∃ v, e = .returned v ∧ (P 11 v w' ∧ J w' ∧ SrcAt W tb ∧ W.grownBy w' (some tb)))) ?_
        rintro v w' ⟨hv, hI', hb'⟩
        exact ⟨hI', fun j h => HKT.out j _ _ _ hb'.1 hb'.2 h, _, by decide, rfl, RP.set hv⟩
      | 12, _, hdep0 =>
        have hd11 := (HPI11.out _ _).1 (hdep0 11 (by kernel_rfl))
        obtain ⟨z0, z1, z2, z3, z4, z5, z6, z7, q11, r11_0⟩ := hd11
        have E28 : a1.tmps[28]?.getD undef = .agg #[.int .i64 z0, .int .i64 z1, .int .i64 z2, .int .i64 z3, .int .i64 z4, .int .i64 z5, .int .i64 z6, .int .i64 z7] := by rw [← ha1]; exact (putsL_in2 _ _ _ _ (by decide) (show 28 < 33 from by decide)).trans q11
        exact wpOp_val rfl rfl (v := .slice (some ⟨W.heap.size, 0, none⟩) 1 1) (w' := W.alloc (.cells #[.int .i64 z0, .int .i64 z1, .int .i64 z2, .int .i64 z3, .int .i64 z4, .int .i64 z5, .int .i64 z6, .int .i64 z7] 55)) (by simp [execOp, go_sem, E28]) ⟨(HJA.out _ _ hIW), fun j h => HKP.out j _ _ _ (below_alloc _ _) h, _, by decide, rfl, RP.set ((HPI12.out _ _).2 ⟨_, _, _, _, _, _, _, _, _, rfl, ⟨Nat.ne_of_gt (HTL.out W hIW), heap_alloc_new _ _⟩, r11_0⟩)⟩
      | iq + 13, h, _ => exact absurd h (by omega)
    case refine_2 =>
      intro f W hIW hR
      have h18 := (HPI1.out _ _).1 (hR 1 (by decide))
      have h29 := (HPI12.out _ _).1 (hR 12 (by decide))
      obtain ⟨bq, z0, z1, z2, z3, z4, z5, z6, z7, h29, hbq, hpy⟩ := h29
      exact ⟨bq, z0, z1, z2, z3, z4, z5, z6, z7, h18, h29, hIW, hbq.2, hpy⟩
    case refine_3 =>
      intro iq hsq hiq f W hIt0
      have hiq2 : iq < 16 := hiq
      have hIt := hIt0
      clear hIt0
      rcases (show iq = 13 ∨ iq = 14 ∨ iq = 15 by omega) with rfl | rfl | rfl
      · clear hsq hiq hiq2
        obtain ⟨bq, z0, z1, z2, z3, z4, z5, z6, z7, h23, h26, hIW, hbq, hpy⟩ := hIt
        refine wpOp_append rfl rfl (.tmp 18) (.tmp 29) 25 rfl w.heap.size 55 i0 (.agg #[.int .i64 0, .int .i64 0, .int .i64 0, .int .i64 0, .int .i64 0, .int .i64 0, .int .i64 0, .int .i64 0]) 8 64 Try.underlying25 hi0 hz0 hz1 hz2 rfl (by decide) (.slice av m cv) m (cellsL pstC ps) ?_ (HOW.out W hIW) ⟨bq, 0, none⟩ 1 1 [.int .i64 z0, .int .i64 z1, .int .i64 z2, .int .i64 z3, .int .i64 z4, .int .i64 z5, .int .i64 z6, .int .i64 z7] ?_ rfl (obj_new_cells hbq) (HONE.out z0 z1 z2 z3 z4 z5 z6 z7) (by unfold maxLen; omega) (by omega) (HJW.out W hIW) ?_
        · exact (putsL_in _ _ _ _ (by decide) (show 18 < 33 from by decide)).trans h23
        · exact (putsL_in _ _ _ _ (by decide) (show 29 < 33 from by decide)).trans h26
        · intro v' w' h2 h3
          rw [HSN.out] at h2
          have hkk := HKN.out W w' hIW h3
          exact ⟨updF f 30 v', putsL_put _ _ _ _ _ (by decide), (⟨v', z0, z1, z2, z3, z4, z5, z6, z7, updF_same _ _ _, hkk, h2, hpy⟩ : ∃ uq z0 z1 z2 z3 z4 z5 z6 z7, updF f 30 v' 30 = uq ∧ CoB w tb bC bR y fnd (.slice av m cv) w' ∧ w'.ownsRow w.heap.size 55 8 (uq) (m + 1) (cellsL pstC (ps ++ [⟨z0, z1, z2, z3, z4, z5, z6, z7⟩])) ∧ PstY y ⟨z0, z1, z2, z3, z4, z5, z6, z7⟩)⟩
      · clear hsq hiq hiq2
        obtain ⟨uq, z0, z1, z2, z3, z4, z5, z6, z7, h27, hkn, hrw, hpy⟩ := hIt
        generalize ha1 : putsL _ [17, 18, 19, 20, 21, 22, 23, 24, 25, 26, 27, 28, 29, 30, 31] f = a1
        have EH : a1.tmps[5]?.getD undef = .pointer (some ⟨bC, 0, none⟩) := by rw [← ha1]; exact (putsL_out2 _ _ _ _ (by decide)).trans rfl
        exact wpOp_val rfl rfl (v := .pointer (some ⟨bC, 2, none⟩)) (w' := W) (by simp [execOp, go_sem, EH]) ⟨updF f 31 (.pointer (some ⟨bC, 2, none⟩)), by rw [← ha1]; exact putsL_put _ _ _ _ _ (by decide), (⟨uq, z0, z1, z2, z3, z4, z5, z6, z7, (updF_other _ _ (by decide)).trans h27, updF_same _ _ _, hkn, hrw, hpy⟩ : ∃ uq z0 z1 z2 z3 z4 z5 z6 z7, updF f 31 (.pointer (some ⟨bC, 2, none⟩)) 30 = uq ∧ updF f 31 (.pointer (some ⟨bC, 2, none⟩)) 31 = .pointer (some ⟨bC, 2, none⟩) ∧ CoB w tb bC bR y fnd (.slice av m cv) W ∧ W.ownsRow w.heap.size 55 8 (uq) (m + 1) (cellsL pstC (ps ++ [⟨z0, z1, z2, z3, z4, z5, z6, z7⟩])) ∧ PstY y ⟨z0, z1, z2, z3, z4, z5, z6, z7⟩)⟩
      · clear hsq hiq hiq2
        obtain ⟨uq, z0, z1, z2, z3, z4, z5, z6, z7, h27, h28, hkn, hrw, hpy⟩ := hIt
        obtain ⟨au', cu', rfl, -, -⟩ := owns_gen hrw
        generalize ha1 : putsL _ [17, 18, 19, 20, 21, 22, 23, 24, 25, 26, 27, 28, 29, 30, 31] f = a1
        have E30 : a1.tmps[30]?.getD undef = .slice au' (m + 1) cu' := by rw [← ha1]; exact (putsL_in2 _ _ _ _ (by decide) (show 30 < 33 from by decide)).trans h27
        have E31 : a1.tmps[31]?.getD undef = .pointer (some ⟨bC, 2, none⟩) := by rw [← ha1]; exact (putsL_in2 _ _ _ _ (by decide) (show 31 < 33 from by decide)).trans h28
        have hbn := hkn.box
        have p0 := obj_cell hbn 2
        have f0 := obj_free hbn 2
        simp at p0
        have hst := HST.out _ _ _ hkn hrw hpy
        exact wpOp_skip rfl rfl (w' := W.setCell ⟨bC, 2, none⟩ (.slice au' (m + 1) cu')) (by simp [execOp, go_sem, E30, E31, p0, f0]) ⟨f, ha1.symm, (⟨_, z0, z1, z2, z3, z4, z5, z6, z7, hst⟩ : ∃ uq z0 z1 z2 z3 z4 z5 z6 z7, CoI w tb bC bR y fnd uq (ps ++ [⟨z0, z1, z2, z3, z4, z5, z6, z7⟩]) (W.setCell ⟨bC, 2, none⟩ (.slice au' (m + 1) cu')))⟩
    case refine_4 =>
      intro f W hIt
      simp only [putsL, List.foldl_cons, List.foldl_nil, Act.put, List.setIfInBounds_toArray, List.set_cons_zero, List.set_cons_succ]
      obtain ⟨uq, z0, z1, z2, z3, z4, z5, z6, z7, hkn⟩ := hIt
      obtain ⟨au', cu', rfl, -, -⟩ := owns_gen hkn.row
      have HB9 := Lib.hid hkn
      clear hkn HST HKN HOW HMC HRG HNN HPO HSN HONE HJ0 HJD HJO HJI HJA HJW HTL
      go_wp2
      go_roundw
      case rel => exact ⟨kk - 1, (ps ++ [⟨z0, z1, z2, z3, z4, z5, z6, z7⟩]), au', cu', _, rfl, by omega, by exact HLQ.out.1 ⟨z0, z1, z2, z3, z4, z5, z6, z7⟩, by exact HLQ.out.2.1 ⟨z0, z1, z2, z3, z4, z5, z6, z7⟩, Lib.hid rfl, HB9⟩
      case measure => simp [RowKit.intOf]; omega
  · obtain hkz : kk = 0 := by omega
    subst hkz
    have HLEN : Hid (1 ≤ ps.length ∧ ps.length ≤ 3) := Lib.hid (by rw [← HM.out]; omega)
    have hbx := HI.out.b.box
    have hre := HI.out.b.res
    have HRF := Lib.hid hre
    have ub0 := obj_cell hbx 0
    have ub1 := obj_cell hbx 1
    have ub2 := obj_cell hbx 2
    simp at ub0 ub1 ub2
    have r0 := obj_cell hre 0
    have r1 := obj_cell hre 1
    have r2 := obj_cell hre 2
    simp at r0 r1 r2
    have fr0 := obj_free hre 0
    have fr1 := obj_free hre 1
    have fr2 := obj_free hre 2
    clear hbx hre
    go_wp2
    refine ret3 HRF.out rfl _ _ _ (v := .agg #[.int .i64 y, .int .i64 fnd, .slice av m cv]) (fun F hF => ?_) rfl ⟨⟨y, fnd, ps⟩, ⟨av, m, cv⟩, rfl, ⟨⟨y0, by show y ≤ 99; omega⟩, ⟨by show 360 * y + 360 ≤ fnd; omega, hf.2⟩, HLEN.out, HI.out.ok⟩, ⟨y1, rfl⟩, ?_, ?_⟩
    · have q0 := obj_cell hF 0
      have q1 := obj_cell hF 1
      have q2 := obj_cell hF 2
      simp at q0 q1 q2
      simp [results, Try.results16, go_sem, q0, q1, q2]
    · exact psts_owns (owns_keep HI.out.row (put3_grown2 _ _ _ _ _) (notOf_box HRF.out (by decide)))
    · exact HI.out.b.si.grown (put3_grown2 _ _ _ _ _) fun r e => by injection e with e; have := HLR.out.1; omega

end Go.Proofs.Ytoccnindkimjdaa
