/- register.copyOf: a register in memory of its own. -/
import Derived.Test.YtnfllgeneehjjaaMG5
import Derived.Test.YtnfllgeneehjjaaMClnHld
import Derived.Test.YtnfllgeneehjjaaMG6
import Derived.Test.YtnfllgeneehjjaaMClnSec
import Derived.Test.YtnfllgeneehjjaaMRegInv
import Derived.Deep.DeepCutAuto
set_option linter.unusedSimpArgs false
set_option linter.unusedVariables false
set_option linter.unusedSimpArgs false
set_option linter.unusedVariables false
namespace Go.Proofs.Ytnfllgeneehjjaa
open Go.RowKit Go.Lib Go.Proofs

/-- A register's copy in its place. -/
structure CpI (w : World) (n0 bR : Nat) (x y z : Value) (nS nH nM : Nat) (kS kH kM : List Value) (W : World) : Prop where
  old : Below w.heap.size w W
  res : W.heap[bR]? = some (.cells #[x, y, z] 29 (0, 0))
  secs : W.ownsRow n0 34 7 x nS kS
  hs : W.ownsRow n0 51 3 y nH kH
  ms : W.ownsRow n0 36 7 z nM kM
theorem owns_put3 {W : World} {base : Nat} {e : TypeId} {size : Nat} {v : Value} {n : Nat} {xs : List Value} (h : W.ownsRow base e size v n xs) {b : Nat} (hb : b < base) (v0 v1 v2 : Value) : (put3 W b v0 v1 v2).ownsRow base e size v n xs := by
  unfold put3
  exact ownsRow_setCell_below (ownsRow_setCell_below (ownsRow_setCell_below h hb _) hb _) hb _

set_option maxRecDepth 100000 in
set_option maxHeartbeats 16000000 in
theorem rxcopy_any (r : Reg) (x y z : Value) (w : World) (hr : RegAt w x y z r) (h1 : r.secs.length ≤ 1000000) (h2 : r.hs.length ≤ 1000000) (h3 : r.ms.length ≤ 1000000) :
    Calls Try.prog 68 #[.agg #[x, y, z]] w fun e w' => ∃ x' y' z', e = .returned (.agg #[x', y', z']) ∧ Below w.heap.size w w' ∧ w'.ownsRow w.heap.size 34 7 x' r.secs.length (cellsL Sec.cells r.secs) ∧ w'.ownsRow w.heap.size 51 3 y' r.hs.length (cellsL hldC r.hs) ∧ w'.ownsRow w.heap.size 36 7 z' r.ms.length (cellsL mvC r.ms) := by
  obtain ⟨aS, cS, rfl, -, -⟩ := hr.secs.shape secF
  obtain ⟨aH, cH, rfl, -, -⟩ := hr.hs.shape hldF
  obtain ⟨aM, cM, rfl, -, -⟩ := hr.ms.shape mvF
  have HRG := Lib.hid hr
  clear hr
  obtain ⟨secs, hs, ms⟩ := r
  simp only at HRG h1 h2 h3 ⊢
  obtain ⟨nS, hnS⟩ : ∃ n, n = secs.length := ⟨_, rfl⟩
  obtain ⟨nH, hnH⟩ : ∃ n, n = hs.length := ⟨_, rfl⟩
  obtain ⟨nM, hnM⟩ : ∃ n, n = ms.length := ⟨_, rfl⟩
  obtain ⟨kS, hkS⟩ : ∃ k, k = cellsL Sec.cells secs := ⟨_, rfl⟩
  obtain ⟨kH, hkH⟩ : ∃ k, k = cellsL hldC hs := ⟨_, rfl⟩
  obtain ⟨kM, hkM⟩ : ∃ k, k = cellsL mvC ms := ⟨_, rfl⟩
  obtain ⟨w1, hw1⟩ : ∃ w1, w1 = (w.alloc (.cells #[.slice aS secs.length cS, .slice aH hs.length cH, .slice aM ms.length cM] 29)).alloc (.cells #[.slice none 0 0, .slice none 0 0, .slice none 0 0] 29) := ⟨_, rfl⟩
  have HB1 : Hid (Below w.heap.size w w1) := Lib.hid (by rw [hw1]; exact below2 w _ _)
  have HBX : Hid (w1.heap[w.heap.size]? = some (.cells #[.slice aS nS cS, .slice aH nH cH, .slice aM nM cM] 29 (0, 0))) := Lib.hid (by rw [hw1, hnS, hnH, hnM]; exact alloc1_at w _ _)
  have HRX : Hid (w1.heap[w.heap.size + 1]? = some (.cells #[.slice none 0 0, .slice none 0 0, .slice none 0 0] 29 (0, 0))) := Lib.hid (by rw [hw1]; exact alloc2_at w _ _)
  obtain ⟨J, hJ⟩ : ∃ J, J = fun W : World => Below w1.heap.size w1 W := ⟨_, rfl⟩
  have HJO : Hid (∀ W, J W → Below w1.heap.size w1 W) := Lib.hid fun W hW => by rw [hJ] at hW; exact hW
  have HJI : Hid (∀ W, Below w1.heap.size w1 W → J W) := Lib.hid fun W hW => by rw [hJ]; exact hW
  have HJD : Hid (∀ W, J W → J W.drew) := Lib.hid fun W hW => HJI.out _ ((HJO.out W hW).drew)
  have HJ0 : Hid (J w1) := Lib.hid (HJI.out _ (Below.refl _ _))
  have HJW : Hid (∀ W, J W → Below w.heap.size w W) := Lib.hid fun W hW => HB1.out.trans ((HJO.out W hW).mono HB1.out.size)
  obtain ⟨bA, hbA⟩ : ∃ b, b = w.heap.size := ⟨_, rfl⟩
  obtain ⟨bR, hbR⟩ : ∃ b, b = w.heap.size + 1 := ⟨_, rfl⟩
  obtain ⟨n0, hn0⟩ : ∃ n, n = w1.heap.size := ⟨_, rfl⟩
  have HLO : Hid (bR < n0) := Lib.hid (by rw [hbR, hn0, hw1]; simp)
  have HN0 := Lib.hid hn0
  have HWN : Hid (w.heap.size ≤ n0) := Lib.hid (by rw [hn0]; exact HB1.out.size)
  have HRB : Hid (w.heap.size ≤ bR) := Lib.hid (by omega)
  rw [← hbA] at HBX
  rw [← hbR] at HRX
  have HCL : Hid (∀ W, J W → ∀ i, W.cell? ⟨bA, i, none⟩ = #[.slice aS nS cS, .slice aH nH cH, .slice aM nM cM][i]?) := Lib.hid fun W hW i => obj_cell (obj_below HBX.out (HJO.out W hW)) i
  have HRC : Hid (∀ W, J W → ∀ i, W.cell? ⟨bR, i, none⟩ = #[.slice none 0 0, .slice none 0 0, .slice none 0 0][i]?) := Lib.hid fun W hW i => obj_cell (obj_below HRX.out (HJO.out W hW)) i
  have HFR : Hid (∀ W, J W → ∀ i, W.frozen? ⟨bR, i, none⟩ = false) := Lib.hid fun W hW i => obj_free (obj_below HRX.out (HJO.out W hW)) i
  have HC1 : Hid (∀ W, J W → Calls Try.prog 94 #[.slice aS nS cS] W fun e w' => ∃ aU cU, e = .returned (.slice aU nS cU) ∧ w'.ownsRow n0 34 7 (.slice aU nS cU) nS kS ∧ J w' ∧ Below W.heap.size W w') := Lib.hid fun W hW => by
    have hRG := HRG.out.below (HJW.out W hW)
    rw [hnS]
    refine (cloneSec_any Sec.cells secF secs (.slice aS secs.length cS) W hRG.secs (by omega)).mono ?_
    rintro e w' ⟨v, rfl, ho, hb⟩
    obtain ⟨ao, cap, rfl, -, -⟩ := owns_gen ho
    exact ⟨ao, cap, rfl, by rw [hkS]; exact ownsRow_mono ho (by rw [HN0.out]; exact (HJO.out W hW).size), HJI.out _ ((HJO.out W hW).trans (hb.mono (HJO.out W hW).size)), hb⟩
  have HC2 : Hid (∀ W, J W → Calls Try.prog 95 #[.slice aH nH cH] W fun e w' => ∃ aV cV, e = .returned (.slice aV nH cV) ∧ w'.ownsRow n0 51 3 (.slice aV nH cV) nH kH ∧ J w' ∧ Below W.heap.size W w') := Lib.hid fun W hW => by
    have hRG := HRG.out.below (HJW.out W hW)
    rw [hnH]
    refine (cloneHld_any hldC hldF hs (.slice aH hs.length cH) W hRG.hs (by omega)).mono ?_
    rintro e w' ⟨v, rfl, ho, hb⟩
    obtain ⟨ao, cap, rfl, -, -⟩ := owns_gen ho
    exact ⟨ao, cap, rfl, by rw [hkH]; exact ownsRow_mono ho (by rw [HN0.out]; exact (HJO.out W hW).size), HJI.out _ ((HJO.out W hW).trans (hb.mono (HJO.out W hW).size)), hb⟩
  have HC3 : Hid (∀ W, J W → Calls Try.prog 89 #[.slice aM nM cM] W fun e w' => ∃ aT cT, e = .returned (.slice aT nM cT) ∧ w'.ownsRow n0 36 7 (.slice aT nM cT) nM kM ∧ J w' ∧ Below W.heap.size W w') := Lib.hid fun W hW => by
    have hRG := HRG.out.below (HJW.out W hW)
    rw [hnM]
    refine (cloneMv_any mvC mvF ms (.slice aM ms.length cM) W hRG.ms (by omega)).mono ?_
    rintro e w' ⟨v, rfl, ho, hb⟩
    obtain ⟨ao, cap, rfl, -, -⟩ := owns_gen ho
    exact ⟨ao, cap, rfl, by rw [hkM]; exact ownsRow_mono ho (by rw [HN0.out]; exact (HJO.out W hW).size), HJI.out _ ((HJO.out W hW).trans (hb.mono (HJO.out W hW).size)), hb⟩
  have HEND : Hid (∀ W aU cU aV cV aT cT, J W → W.ownsRow n0 34 7 (.slice aU nS cU) nS kS → W.ownsRow n0 51 3 (.slice aV nH cV) nH kH → W.ownsRow n0 36 7 (.slice aT nM cT) nM kM → CpI w n0 bR (.slice aU nS cU) (.slice aV nH cV) (.slice aT nM cT) nS nH nM kS kH kM (put3 W bR (.slice aU nS cU) (.slice aV nH cV) (.slice aT nM cT))) := Lib.hid fun W aU cU aV cV aT cT hW q1 q2 q3 =>
    ⟨put3_below (HJW.out W hW) HRB.out _ _ _, put3_at (obj_below HRX.out (HJO.out W hW)) rfl _ _ _, owns_put3 q1 HLO.out _ _ _, owns_put3 q2 HLO.out _ _ _, owns_put3 q3 HLO.out _ _ _⟩
  have egS := enters_of Try.func94 (by kernel_rfl) rfl
  have egH := enters_of Try.func95 (by kernel_rfl) rfl
  have egM := enters_of Try.func89 (by kernel_rfl) rfl
  rw [← hnS, ← hnH, ← hnM] at hw1
  rw [← hnS, ← hnH, ← hnM, ← hkS, ← hkH, ← hkM]
  clear hJ h1 h2 h3 hnS hnH hnM hkS hkH hkM hn0
  go_enter Try.func68, Try.ntmps68
  go_upto_region 1 with fail
  rw [← hw1, ← hbR, ← hbA]
  clear hw1 hbR hbA
  obtain ⟨P, hP⟩ : ∃ P : Nat → Value → World → Prop, P = fun j v W => match j with | 0 => (v = .pointer (some ⟨bA, 0, none⟩)) | 1 => (v = .slice aS nS cS) | 2 => (∃ aU cU, v = .slice aU nS cU ∧ W.ownsRow n0 34 7 (.slice aU nS cU) nS kS) | 3 => (v = .pointer (some ⟨bA, 1, none⟩)) | 4 => (v = .slice aH nH cH) | 5 => (∃ aV cV, v = .slice aV nH cV ∧ W.ownsRow n0 51 3 (.slice aV nH cV) nH kH) | 6 => (v = .pointer (some ⟨bA, 2, none⟩)) | 7 => (v = .slice aM nM cM) | 8 => (∃ aT cT, v = .slice aT nM cT ∧ W.ownsRow n0 36 7 (.slice aT nM cT) nM kM) | 9 => (∃ aU cU aV cV aT cT, v = .agg #[.slice aU nS cU, .slice aV nH cV, .slice aT nM cT] ∧ W.ownsRow n0 34 7 (.slice aU nS cU) nS kS ∧ W.ownsRow n0 51 3 (.slice aV nH cV) nH kH ∧ W.ownsRow n0 36 7 (.slice aT nM cT) nM kM) | _ => True := ⟨_, rfl⟩
  have HPI0 : Hid (∀ v W, P 0 v W ↔ (v = .pointer (some ⟨bA, 0, none⟩))) := Lib.hid fun v W => by rw [hP] <;> exact Iff.rfl
  have HPI1 : Hid (∀ v W, P 1 v W ↔ (v = .slice aS nS cS)) := Lib.hid fun v W => by rw [hP] <;> exact Iff.rfl
  have HPI2 : Hid (∀ v W, P 2 v W ↔ (∃ aU cU, v = .slice aU nS cU ∧ W.ownsRow n0 34 7 (.slice aU nS cU) nS kS)) := Lib.hid fun v W => by rw [hP] <;> exact Iff.rfl
  have HPI3 : Hid (∀ v W, P 3 v W ↔ (v = .pointer (some ⟨bA, 1, none⟩))) := Lib.hid fun v W => by rw [hP] <;> exact Iff.rfl
  have HPI4 : Hid (∀ v W, P 4 v W ↔ (v = .slice aH nH cH)) := Lib.hid fun v W => by rw [hP] <;> exact Iff.rfl
  have HPI5 : Hid (∀ v W, P 5 v W ↔ (∃ aV cV, v = .slice aV nH cV ∧ W.ownsRow n0 51 3 (.slice aV nH cV) nH kH)) := Lib.hid fun v W => by rw [hP] <;> exact Iff.rfl
  have HPI6 : Hid (∀ v W, P 6 v W ↔ (v = .pointer (some ⟨bA, 2, none⟩))) := Lib.hid fun v W => by rw [hP] <;> exact Iff.rfl
  have HPI7 : Hid (∀ v W, P 7 v W ↔ (v = .slice aM nM cM)) := Lib.hid fun v W => by rw [hP] <;> exact Iff.rfl
  have HPI8 : Hid (∀ v W, P 8 v W ↔ (∃ aT cT, v = .slice aT nM cT ∧ W.ownsRow n0 36 7 (.slice aT nM cT) nM kM)) := Lib.hid fun v W => by rw [hP] <;> exact Iff.rfl
  have HPI9 : Hid (∀ v W, P 9 v W ↔ (∃ aU cU aV cV aT cT, v = .agg #[.slice aU nS cU, .slice aV nH cV, .slice aT nM cT] ∧ W.ownsRow n0 34 7 (.slice aU nS cU) nS kS ∧ W.ownsRow n0 51 3 (.slice aV nH cV) nH kH ∧ W.ownsRow n0 36 7 (.slice aT nM cT) nM kM)) := Lib.hid fun v W => by rw [hP] <;> exact Iff.rfl
  have HKP : Hid (∀ (j : Nat) v W W', Below W.heap.size W W' → P j v W → P j v W') := Lib.hid (by
    rw [hP]
    intro j v W W' hb h
    match j, h with
    | 0, h => exact h
    | 1, h => exact h
    | 2, ⟨aU, cU, e, s0⟩ => exact ⟨aU, cU, e, ownsRow_below s0 hb⟩
    | 3, h => exact h
    | 4, h => exact h
    | 5, ⟨aV, cV, e, s0⟩ => exact ⟨aV, cV, e, ownsRow_below s0 hb⟩
    | 6, h => exact h
    | 7, h => exact h
    | 8, ⟨aT, cT, e, s0⟩ => exact ⟨aT, cT, e, ownsRow_below s0 hb⟩
    | 9, ⟨aU, cU, aV, cV, aT, cT, e, s0, s1, s2⟩ => exact ⟨aU, cU, aV, cV, aT, cT, e, ownsRow_below s0 hb, ownsRow_below s1 hb, ownsRow_below s2 hb⟩
    | j + 10, _ => trivial)
  clear hP
  go_cut [] (fun wx => ∃ aU cU aV cV aT cT, Hid (CpI w n0 bR (.slice aU nS cU) (.slice aV nH cV) (.slice aT nM cT) nS nH nM kS kH kM wx))
  case first =>
    refine wp_region_last [3, 4, 5, 6, 7, 8, 9, 10, 11, 12] (slotS [3, 4, 5, 6, 7, 8, 9, 10, 11, 12]) (readsS [3, 4, 5, 6, 7, 8, 9, 10, 11, 12]) (RP [3, 4, 5, 6, 7, 8, 9, 10, 11, 12] P) J (fun _ W => ∃ aU cU aV cV aT cT, CpI w n0 bR (.slice aU nS cU) (.slice aV nH cV) (.slice aT nM cT) nS nH nM kS kH kM W) 10 8 rfl (by kernel_rfl) (by kernel_rfl) (by kernel_rfl) (by kernel_rfl) (HJD.out _ HJ0.out) (fun j f q v W hq h => RP.upd hq h) ?_ ?_ ?_
    case refine_1 =>
      intro iq hiq f W hIW hdep0
      have hiq' : iq < 10 := hiq
      have hdep : ∀ j, j < 10 → depB _ iq j = true → P j (f (slotS [3, 4, 5, 6, 7, 8, 9, 10, 11, 12] j)) W := hdep0
      clear hdep0
      generalize ha1 : putsL _ [3, 4, 5, 6, 7, 8, 9, 10, 11, 12] f = a1
      match iq, hiq', hdep with
      | 0, _, hdep0 =>
        have E1 : a1.tmps[1]?.getD undef = .pointer (some ⟨bA, 0, none⟩) := by rw [← ha1]; exact (putsL_out2 _ _ _ _ (by decide)).trans rfl
        exact wpOp_val rfl rfl (v := .pointer (some ⟨bA, 0, none⟩)) (w' := W) (by simp [execOp, go_sem, E1]) ⟨hIW, fun _ h => h, _, by decide, rfl, RP.set ((HPI0.out _ _).2 rfl)⟩
      | 1, _, hdep0 =>
        have hd0 := (HPI0.out _ _).1 (hdep0 0 (by decide) (by kernel_rfl))
        have E3 : a1.tmps[3]?.getD undef = .pointer (some ⟨bA, 0, none⟩) := by rw [← ha1]; exact (putsL_in2 _ _ _ _ (by decide) (show 3 < 13 from by decide)).trans hd0
        have v0 : W.cell? ⟨bA, 0, none⟩ = some (.slice aS nS cS) := by simpa using HCL.out W hIW 0
        exact wpOp_val rfl rfl (v := .slice aS nS cS) (w' := W) (by simp [execOp, go_sem, E3, v0]) ⟨hIW, fun _ h => h, _, by decide, rfl, RP.set ((HPI1.out _ _).2 rfl)⟩
      | 2, _, hdep0 =>
        have hd1 := (HPI1.out _ _).1 (hdep0 1 (by decide) (by kernel_rfl))
        have E4 : a1.tmps[4]?.getD undef = .slice aS nS cS := by rw [← ha1]; exact (putsL_in2 _ _ _ _ (by decide) (show 4 < 13 from by decide)).trans hd1
        refine wpOp_call rfl rfl (n := 94) (vs := #[.slice aS nS cS]) (by have := egS #[.slice aS nS cS] W; simp [execOp, E4, resolve, invoke, go_sem] <;> exact this) ((HC1.out W hIW).mono fun e w' hh => (by obtain ⟨aU, cU, rfl, p0, hJ', hb'⟩ := hh; exact ⟨_, rfl, (HPI2.out _ _).2 ⟨_, _, rfl, p0⟩, hJ', hb'⟩ : ∃ v, e = .returned v ∧ (P 2 v w' ∧ J w' ∧ Below W.heap.size W w'))) ?_
        rintro v w' ⟨hv, hI', hb'⟩
        exact ⟨hI', fun j h => HKP.out j _ _ _ hb' h, _, by decide, rfl, RP.set hv⟩
      | 3, _, hdep0 =>
        have E1 : a1.tmps[1]?.getD undef = .pointer (some ⟨bA, 0, none⟩) := by rw [← ha1]; exact (putsL_out2 _ _ _ _ (by decide)).trans rfl
        exact wpOp_val rfl rfl (v := .pointer (some ⟨bA, 1, none⟩)) (w' := W) (by simp [execOp, go_sem, E1]) ⟨hIW, fun _ h => h, _, by decide, rfl, RP.set ((HPI3.out _ _).2 rfl)⟩
      | 4, _, hdep0 =>
        have hd3 := (HPI3.out _ _).1 (hdep0 3 (by decide) (by kernel_rfl))
        have E6 : a1.tmps[6]?.getD undef = .pointer (some ⟨bA, 1, none⟩) := by rw [← ha1]; exact (putsL_in2 _ _ _ _ (by decide) (show 6 < 13 from by decide)).trans hd3
        have v1 : W.cell? ⟨bA, 1, none⟩ = some (.slice aH nH cH) := by simpa using HCL.out W hIW 1
        exact wpOp_val rfl rfl (v := .slice aH nH cH) (w' := W) (by simp [execOp, go_sem, E6, v1]) ⟨hIW, fun _ h => h, _, by decide, rfl, RP.set ((HPI4.out _ _).2 rfl)⟩
      | 5, _, hdep0 =>
        have hd4 := (HPI4.out _ _).1 (hdep0 4 (by decide) (by kernel_rfl))
        have E7 : a1.tmps[7]?.getD undef = .slice aH nH cH := by rw [← ha1]; exact (putsL_in2 _ _ _ _ (by decide) (show 7 < 13 from by decide)).trans hd4
        refine wpOp_call rfl rfl (n := 95) (vs := #[.slice aH nH cH]) (by have := egH #[.slice aH nH cH] W; simp [execOp, E7, resolve, invoke, go_sem] <;> exact this) ((HC2.out W hIW).mono fun e w' hh => (by obtain ⟨aV, cV, rfl, p0, hJ', hb'⟩ := hh; exact ⟨_, rfl, (HPI5.out _ _).2 ⟨_, _, rfl, p0⟩, hJ', hb'⟩ : ∃ v, e = .returned v ∧ (P 5 v w' ∧ J w' ∧ Below W.heap.size W w'))) ?_
        rintro v w' ⟨hv, hI', hb'⟩
        exact ⟨hI', fun j h => HKP.out j _ _ _ hb' h, _, by decide, rfl, RP.set hv⟩
      | 6, _, hdep0 =>
        have E1 : a1.tmps[1]?.getD undef = .pointer (some ⟨bA, 0, none⟩) := by rw [← ha1]; exact (putsL_out2 _ _ _ _ (by decide)).trans rfl
        exact wpOp_val rfl rfl (v := .pointer (some ⟨bA, 2, none⟩)) (w' := W) (by simp [execOp, go_sem, E1]) ⟨hIW, fun _ h => h, _, by decide, rfl, RP.set ((HPI6.out _ _).2 rfl)⟩
      | 7, _, hdep0 =>
        have hd6 := (HPI6.out _ _).1 (hdep0 6 (by decide) (by kernel_rfl))
        have E9 : a1.tmps[9]?.getD undef = .pointer (some ⟨bA, 2, none⟩) := by rw [← ha1]; exact (putsL_in2 _ _ _ _ (by decide) (show 9 < 13 from by decide)).trans hd6
        have v2 : W.cell? ⟨bA, 2, none⟩ = some (.slice aM nM cM) := by simpa using HCL.out W hIW 2
        exact wpOp_val rfl rfl (v := .slice aM nM cM) (w' := W) (by simp [execOp, go_sem, E9, v2]) ⟨hIW, fun _ h => h, _, by decide, rfl, RP.set ((HPI7.out _ _).2 rfl)⟩
      | 8, _, hdep0 =>
        have hd7 := (HPI7.out _ _).1 (hdep0 7 (by decide) (by kernel_rfl))
        have E10 : a1.tmps[10]?.getD undef = .slice aM nM cM := by rw [← ha1]; exact (putsL_in2 _ _ _ _ (by decide) (show 10 < 13 from by decide)).trans hd7
        refine wpOp_call rfl rfl (n := 89) (vs := #[.slice aM nM cM]) (by have := egM #[.slice aM nM cM] W; simp [execOp, E10, resolve, invoke, go_sem] <;> exact this) ((HC3.out W hIW).mono fun e w' hh => (by obtain ⟨aT, cT, rfl, p0, hJ', hb'⟩ := hh; exact ⟨_, rfl, (HPI8.out _ _).2 ⟨_, _, rfl, p0⟩, hJ', hb'⟩ : ∃ v, e = .returned v ∧ (P 8 v w' ∧ J w' ∧ Below W.heap.size W w'))) ?_
        rintro v w' ⟨hv, hI', hb'⟩
        exact ⟨hI', fun j h => HKP.out j _ _ _ hb' h, _, by decide, rfl, RP.set hv⟩
      | 9, _, hdep0 =>
        have hd2 := (HPI2.out _ _).1 (hdep0 2 (by decide) (by kernel_rfl))
        have hd5 := (HPI5.out _ _).1 (hdep0 5 (by decide) (by kernel_rfl))
        have hd8 := (HPI8.out _ _).1 (hdep0 8 (by decide) (by kernel_rfl))
        obtain ⟨aU, cU, q2, r2_0⟩ := hd2
        have E5 : a1.tmps[5]?.getD undef = .slice aU nS cU := by rw [← ha1]; exact (putsL_in2 _ _ _ _ (by decide) (show 5 < 13 from by decide)).trans q2
        obtain ⟨aV, cV, q5, r5_0⟩ := hd5
        have E8 : a1.tmps[8]?.getD undef = .slice aV nH cV := by rw [← ha1]; exact (putsL_in2 _ _ _ _ (by decide) (show 8 < 13 from by decide)).trans q5
        obtain ⟨aT, cT, q8, r8_0⟩ := hd8
        have E11 : a1.tmps[11]?.getD undef = .slice aT nM cT := by rw [← ha1]; exact (putsL_in2 _ _ _ _ (by decide) (show 11 < 13 from by decide)).trans q8
        exact wpOp_val rfl rfl (v := .agg #[.slice aU nS cU, .slice aV nH cV, .slice aT nM cT]) (w' := W) (by simp [execOp, go_sem, E5, E8, E11]) ⟨hIW, fun _ h => h, _, by decide, rfl, RP.set ((HPI9.out _ _).2 ⟨_, _, _, _, _, _, rfl, r2_0, r5_0, r8_0⟩)⟩
      | iq + 10, h, _ => exact absurd h (by omega)
    case refine_2 =>
      intro f W hIW hdep0
      have hdep : ∀ j, j < 10 → P j (f (slotS [3, 4, 5, 6, 7, 8, 9, 10, 11, 12] j)) W := hdep0
      clear hdep0
      generalize ha1 : putsL _ [3, 4, 5, 6, 7, 8, 9, 10, 11, 12] f = a1
      have E2 : a1.tmps[2]?.getD undef = .pointer (some ⟨bR, 0, none⟩) := by rw [← ha1]; exact (putsL_out2 _ _ _ _ (by decide)).trans rfl
      obtain ⟨aU, cU, aV, cV, aT, cT, q9, r9_0, r9_1, r9_2⟩ := ((HPI9.out _ _).1 (hdep 9 (by decide)))
      have E12 : a1.tmps[12]?.getD undef = .agg #[.slice aU nS cU, .slice aV nH cV, .slice aT nM cT] := by rw [← ha1]; exact (putsL_in2 _ _ _ _ (by decide) (show 12 < 13 from by decide)).trans q9
      have p0 := HRC.out W hIW 0
      have p1 := HRC.out W hIW 1
      have p2 := HRC.out W hIW 2
      have f0 := HFR.out W hIW 0
      have f1 := HFR.out W hIW 1
      have f2 := HFR.out W hIW 2
      simp at p0 p1 p2
      exact wpOp_skip rfl rfl (w' := put3 W bR (.slice aU nS cU) (.slice aV nH cV) (.slice aT nM cT)) (by unfold put3; simp [execOp, go_sem, E2, E12, p0, p1, p2, f0, f1, f2]) ⟨rfl, aU, cU, aV, cV, aT, cT, HEND.out _ _ _ _ _ _ _ hIW r9_0 r9_1 r9_2⟩
    case refine_3 =>
      intro f W hIW
      simp only [putsL, List.foldl_cons, List.foldl_nil, Act.put, List.setIfInBounds_toArray, List.set_cons_zero, List.set_cons_succ]
      obtain ⟨aU, cU, aV, cV, aT, cT, hsw⟩ := hIW
      go_wp2
      go_meet
      exact ⟨aU, cU, aV, cV, aT, cT, Lib.hid hsw⟩
  case rest =>
    obtain ⟨aU, cU, aV, cV, aT, cT, HCP⟩ := hcut
    clear HEND HC1 HC2 HC3 HFR HCL HRC HJ0 HJD HJI HJO egS egH egM
    go_wp2
    exact retB HCP.out.res (fun F hF => by
      have q0 := obj_cell hF 0
      have q1 := obj_cell hF 1
      have q2 := obj_cell hF 2
      simp [results, Try.results68, go_sem, q0, q1, q2]) rfl ⟨_, _, _, rfl, HCP.out.old, ownsRow_mono HCP.out.secs HWN.out, ownsRow_mono HCP.out.hs HWN.out, ownsRow_mono HCP.out.ms HWN.out⟩

end Go.Proofs.Ytnfllgeneehjjaa
