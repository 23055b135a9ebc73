/- The first year in which most falls due, and how many hundredths of the debt that is: of every right register. -/
import Derived.Test.YtblidmkkbcobgaaMG12
import Derived.Test.YtblidmkkbcobgaaMG6
import Derived.Test.YtblidmkkbcobgaaMRzD
import Derived.Test.YtblidmkkbcobgaaMRegInv
set_option linter.unusedSimpArgs false
set_option linter.unusedVariables false
set_option linter.unusedSimpArgs false
set_option linter.unusedVariables false
namespace Go.Proofs.Ytblidmkkbcobgaa
open Go.RowKit Go.Lib Go.Proofs

set_option maxRecDepth 100000 in
set_option maxHeartbeats 16000000 in
theorem riGreatest_ok (r : Reg) (x y z : Value) (first : Int) (n : Nat) (w : World) (h : RegOk r) (hr : RegAt w x y z r) (hf : 0 ≤ first ∧ first ≤ 100) (hn : 1 ≤ n ∧ n ≤ 60) :
    Calls Try.prog 21 #[.agg #[x, y, z], .int .i64 first, .int .i64 (n : Int)] w fun e w' => ∃ yq pq : Int, e = .returned (.tuple #[.int .i64 yq, .int .i64 pq, .int .i64 0]) ∧
      ((maxM (fallsL r first n) = 0 ∧ yq = 0 ∧ pq = 0) ∨ (0 < maxM (fallsL r first n) ∧ ∃ k : Nat, yq = first + (k : Int) ∧ (fallsL r first n)[k]? = some (maxM (fallsL r first n)) ∧ 0 ≤ pq ∧ pq ≤ 100)) ∧ Below w.heap.size w w' := by
  obtain ⟨a0, n0, c0, b0, m0, d0, e0, k0, f0, rfl, rfl, rfl⟩ := hr.slices
  have HB0 := Lib.hid (below_alloc w (.cells #[.slice a0 n0 c0, .slice b0 m0 d0, .slice e0 k0 f0] 29))
  have HX0 := Lib.hid (heap_alloc_new w (.cells #[.slice a0 n0 c0, .slice b0 m0 d0, .slice e0 k0 f0] 29))
  obtain ⟨bR, hbR⟩ : ∃ b, b = w.heap.size := ⟨_, rfl⟩
  obtain ⟨w0, hw0⟩ : ∃ w0, w0 = w.alloc (.cells #[.slice a0 n0 c0, .slice b0 m0 d0, .slice e0 k0 f0] 29) := ⟨_, rfl⟩
  rw [← hw0] at HB0 HX0
  rw [← hbR] at HX0
  have HFL := Lib.hid (riFalls_ok r _ _ _ first n w0 h (hr.below HB0.out) hf hn)
  have HD0 := Lib.hid (fun W (hW : Below w.heap.size w W) => rxDebt_any r _ _ _ W h.regS (hr.below hW))
  have hdi := h.debt_in
  have hpi := fallsL_in h first n
  have hlen := fallsL_len r first n
  have hne : fallsL r first n ≠ [] := fun e => by rw [e] at hlen; simp at hlen; omega
  have hm0 := maxM_nonneg (fallsL r first n)
  have hm1 := maxM_le (l := fallsL r first n) hdi.1 fun q hq => (hpi q hq).2
  have hmm := maxM_mem hne fun q hq => (hpi q hq).1
  have hdr : debtR r = debtM r.hs := by unfold debtR; rw [if_pos (checkR_ok h)]
  obtain ⟨db, hdb⟩ : ∃ q, q = debtM r.hs := ⟨_, rfl⟩
  rw [hdr, ← hdb] at HD0
  rw [← hdb] at hdi hm1
  obtain ⟨PL, hPL⟩ : ∃ PL, PL = fallsL r first n := ⟨_, rfl⟩
  rw [← hPL] at HFL hpi hlen hm0 hm1 hmm ⊢
  have HMX := Lib.hid (fun W v (ho : W.ownsRow w.heap.size 3 1 v n (cellsI PL)) => slMaxI_ok w.heap.size PL v W (by rw [hlen]; exact ho) (by omega) fun q hq => (hpi q hq).1)
  have HIX0 := Lib.hid (fun W v (q : Int) (ho : W.ownsRow w.heap.size 3 1 v n (cellsI PL)) => slIxJ_any w.heap.size PL q v W (by rw [hlen]; exact ho) (by omega))
  obtain ⟨M, hM⟩ : ∃ M, M = maxM PL := ⟨_, rfl⟩
  rw [← hM] at HMX hm0 hm1 hmm ⊢
  have HMM := Lib.hid hmm
  have HLN := Lib.hid hlen
  have hx := HX0.out
  have s0 := obj_cell hx 0
  have s1 := obj_cell hx 1
  have s2 := obj_cell hx 2
  simp at s0 s1 s2
  clear h hr hpi hlen hne hmm hdr hdb hPL hM hx
  go_enter Try.func21, Try.ntmps21
  go_upto_region 1 with fail
  rw [← hw0, ← hbR]
  clear hw0 hbR
  go_wp2_with fail
  refine HFL.out.mono ?_
  rintro e w1 ⟨v, rfl, ho, hb1⟩
  have HO := Lib.hid (ownsRow_mono ho HB0.out.size)
  obtain ⟨fo, fc, rfl, hfc, -⟩ := owns_gen ho
  have HX1 := Lib.hid (obj_below HX0.out hb1)
  have HB1 := Lib.hid (HB0.out.trans (hb1.mono HB0.out.size))
  clear ho hb1 s0 s1 s2 HX0 HB0 HFL
  go_wp2_with fail
  refine (HMX.out _ _ HO.out).mono ?_
  rintro e w' ⟨rfl, rfl⟩
  clear HMX
  by_cases hz : M = 0
  · have hzb : (M == 0) = true := by rw [hz]; rfl
    have HE := HB1.out
    go_wp2
    go_ret3
    exact ⟨_, _, rfl, Or.inl ⟨hz, rfl, rfl⟩, HB1.out⟩
  · have hzb : (M == 0) = false := by rw [beq_eq_false_iff_ne]; exact hz
    have HM1 : Hid (0 < M) := Lib.hid (by omega)
    have hdb0 : ¬ (db = 0) := by omega
    have hwm : IntKind.i64.wrap (M * 100) = M * 100 := IntWalk.i64_in _ (by omega)
    have hp0 : 0 ≤ M * 100 / db := Int.ediv_nonneg (by omega) (by omega)
    have hp1 : M * 100 / db ≤ 100 := by
      refine Int.ediv_le_of_le_mul (by omega) ?_
      rw [Int.mul_comm 100 db]
      omega
    have hwq : IntKind.i64.wrap ((M * 100).tdiv db) = M * 100 / db := by rw [Int.tdiv_eq_ediv_of_nonneg (by omega)]; exact IntWalk.i64_in _ (by omega)
    have HPC : Hid (0 ≤ M * 100 / db ∧ M * 100 / db ≤ 100) := Lib.hid ⟨hp0, hp1⟩
    have HWK : Hid (∀ k : Nat, PL[k]? = some M → IntKind.i64.wrap (first + (k : Int)) = first + (k : Int)) := Lib.hid fun k hk => by
      have : k < PL.length := by
        rcases Nat.lt_or_ge k PL.length with a | a
        · exact a
        · rw [List.getElem?_eq_none a] at hk; cases hk
      have := HLN.out
      exact IntWalk.i64_in _ (by omega)
    clear hp0 hp1
    go_upto_region 7 with fail
    generalize w1 = w9 at *
    obtain ⟨J, hJ⟩ : ∃ J, J = fun W : World => Below w9.heap.size w9 W := ⟨_, rfl⟩
    have HJO : Hid (∀ W, J W → Below w9.heap.size w9 W) := Lib.hid fun W hW => by rw [hJ] at hW; exact hW
    have HJI : Hid (∀ W, Below w9.heap.size w9 W → J W) := Lib.hid fun W hW => by rw [hJ]; exact hW
    have HJD : Hid (∀ W, J W → J W.drew) := Lib.hid fun W hW => HJI.out _ ((HJO.out W hW).drew)
    have HJ0 : Hid (J w9) := Lib.hid (HJI.out _ (Below.refl _ _))
    have HJB : Hid (∀ W W', J W → Below W.heap.size W W' → J W') := Lib.hid fun W W' hW hb => HJI.out _ ((HJO.out W hW).trans (hb.mono (HJO.out W hW).size))
    have HJW : Hid (∀ W, J W → Below w.heap.size w W) := Lib.hid fun W hW => HB1.out.trans ((HJO.out W hW).mono HB1.out.size)
    have HCR : Hid (∀ W, J W → ∀ j, W.cell? ⟨bR, j, none⟩ = #[.slice a0 n0 c0, .slice b0 m0 d0, .slice e0 k0 f0][j]?) := Lib.hid fun W hW j => obj_cell (obj_below HX1.out (HJO.out W hW)) j
    have HIX : Hid (∀ W, J W → Calls Try.prog 60 #[.slice fo n fc, .int .i64 M] W fun e w' => ∃ k, e = .returned (.int .i64 (((k : Nat)) : Int)) ∧ PL[k]? = some M ∧ J w' ∧ Below W.heap.size W w') := Lib.hid fun W hW =>
      (HIX0.out W _ M (ownsRow_below HO.out (HJO.out W hW))).mono fun e w' ⟨i, h1, h2, h3⟩ => by
        rcases h2 with ⟨_, h2⟩ | ⟨k, rfl, h2⟩
        · exact absurd HMM.out h2
        · exact ⟨k, h1, h2, HJB.out _ _ hW h3, h3⟩
    have HDB : Hid (∀ W, J W → Calls Try.prog 61 #[.agg #[.slice a0 n0 c0, .slice b0 m0 d0, .slice e0 k0 f0]] W fun e w' => e = .returned (.int .i64 db) ∧ J w' ∧ Below W.heap.size W w') := Lib.hid fun W hW =>
      (HD0.out W (HJW.out W hW)).mono fun e w' ⟨h1, h2⟩ => ⟨h1, HJB.out _ _ hW h2, h2⟩
    have egI := enters_of Try.func60 (by kernel_rfl) rfl
    have egD := enters_of Try.func61 (by kernel_rfl) rfl
    clear hJ HJI HIX0 HD0 HMM HLN HO HX1
    obtain ⟨P, hP⟩ : ∃ P : Nat → Value → World → Prop, P = fun j v W => match j with | 0 => (v = .int .i64 first) | 1 => (v = .slice fo n fc) | 2 => (v = .int .i64 M) | 3 => (∃ k, v = .int .i64 (((k : Nat)) : Int) ∧ PL[k]? = some M) | 4 => (∃ k, v = .int .i64 (first + (((k : Nat)) : Int)) ∧ PL[k]? = some M) | 5 => (v = .int .i64 M) | 6 => (v = .int .i64 (M * 100)) | 7 => (v = .agg #[.slice a0 n0 c0, .slice b0 m0 d0, .slice e0 k0 f0]) | 8 => (v = .int .i64 db) | 9 => (v = .int .i64 (M * 100 / db)) | 10 => (∃ k, v = .int .i64 (first + (((k : Nat)) : Int)) ∧ PL[k]? = some M) | 11 => (v = .int .i64 (M * 100 / db)) | 12 => (v = .int .i64 0) | _ => True := ⟨_, rfl⟩
    have HPI0 : Hid (∀ v W, P 0 v W ↔ (v = .int .i64 first)) := Lib.hid fun v W => by rw [hP] <;> exact Iff.rfl
    have HPI1 : Hid (∀ v W, P 1 v W ↔ (v = .slice fo n fc)) := Lib.hid fun v W => by rw [hP] <;> exact Iff.rfl
    have HPI2 : Hid (∀ v W, P 2 v W ↔ (v = .int .i64 M)) := Lib.hid fun v W => by rw [hP] <;> exact Iff.rfl
    have HPI3 : Hid (∀ v W, P 3 v W ↔ (∃ k, v = .int .i64 (((k : Nat)) : Int) ∧ PL[k]? = some M)) := Lib.hid fun v W => by rw [hP] <;> exact Iff.rfl
    have HPI4 : Hid (∀ v W, P 4 v W ↔ (∃ k, v = .int .i64 (first + (((k : Nat)) : Int)) ∧ PL[k]? = some M)) := Lib.hid fun v W => by rw [hP] <;> exact Iff.rfl
    have HPI5 : Hid (∀ v W, P 5 v W ↔ (v = .int .i64 M)) := Lib.hid fun v W => by rw [hP] <;> exact Iff.rfl
    have HPI6 : Hid (∀ v W, P 6 v W ↔ (v = .int .i64 (M * 100))) := Lib.hid fun v W => by rw [hP] <;> exact Iff.rfl
    have HPI7 : Hid (∀ v W, P 7 v W ↔ (v = .agg #[.slice a0 n0 c0, .slice b0 m0 d0, .slice e0 k0 f0])) := Lib.hid fun v W => by rw [hP] <;> exact Iff.rfl
    have HPI8 : Hid (∀ v W, P 8 v W ↔ (v = .int .i64 db)) := Lib.hid fun v W => by rw [hP] <;> exact Iff.rfl
    have HPI9 : Hid (∀ v W, P 9 v W ↔ (v = .int .i64 (M * 100 / db))) := Lib.hid fun v W => by rw [hP] <;> exact Iff.rfl
    have HPI10 : Hid (∀ v W, P 10 v W ↔ (∃ k, v = .int .i64 (first + (((k : Nat)) : Int)) ∧ PL[k]? = some M)) := Lib.hid fun v W => by rw [hP] <;> exact Iff.rfl
    have HPI11 : Hid (∀ v W, P 11 v W ↔ (v = .int .i64 (M * 100 / db))) := Lib.hid fun v W => by rw [hP] <;> exact Iff.rfl
    have HPI12 : Hid (∀ v W, P 12 v W ↔ (v = .int .i64 0)) := Lib.hid fun v W => by rw [hP] <;> exact Iff.rfl
    have HKP : Hid (∀ (j : Nat) v W W', Below W.heap.size W W' → P j v W → P j v W') := Lib.hid (by
      rw [hP]
      intro j v W W' hb h
      match j, h with
      | 0, h => exact h
      | 1, h => exact h
      | 2, h => exact h
      | 3, ⟨k, e, s0⟩ => exact ⟨k, e, s0⟩
      | 4, ⟨k, e, s0⟩ => exact ⟨k, e, s0⟩
      | 5, h => exact h
      | 6, h => exact h
      | 7, h => exact h
      | 8, h => exact h
      | 9, h => exact h
      | 10, ⟨k, e, s0⟩ => exact ⟨k, e, s0⟩
      | 11, h => exact h
      | 12, h => exact h
      | j + 13, _ => trivial)
    clear hP
    refine wp_region_props [25, 26, 27, 28, 29, 30, 31, 32, 33, 34, 6, 7, 8] (slotS [25, 26, 27, 28, 29, 30, 31, 32, 33, 34, 6, 7, 8]) (readsS [25, 26, 27, 28, 29, 30, 31, 32, 33, 34, 6, 7, 8]) (RP [25, 26, 27, 28, 29, 30, 31, 32, 33, 34, 6, 7, 8] P) J (by kernel_rfl) (by kernel_rfl) (by kernel_rfl) (HJD.out _ HJ0.out) (fun j f q v W hq h => RP.upd hq h) ?_ ?_
    case refine_1 =>
      intro iq hiq f W hIW hdep0
      have hiq' : iq < 13 := hiq
      have hdep : ∀ j, depB _ iq j = true → P j (f (slotS [25, 26, 27, 28, 29, 30, 31, 32, 33, 34, 6, 7, 8] j)) W := hdep0
      clear hdep0
      generalize ha1 : putsL _ [25, 26, 27, 28, 29, 30, 31, 32, 33, 34, 6, 7, 8] f = a1
      match iq, hiq', hdep with
      | 0, _, hdep0 =>
        have E1 : a1.tmps[1]?.getD undef = .int .i64 first := by rw [← ha1]; exact (putsL_out2 _ _ _ _ (by decide)).trans rfl
        exact wpOp_val rfl rfl (v := .int .i64 first) (w' := W) (by simp [execOp, go_sem, E1]) ⟨hIW, fun _ h => h, Or.inl ⟨_, by decide, rfl, RP.set ((HPI0.out _ _).2 rfl)⟩⟩
      | 1, _, hdep0 =>
        have E9 : a1.tmps[9]?.getD undef = .slice fo n fc := by rw [← ha1]; exact (putsL_out2 _ _ _ _ (by decide)).trans rfl
        exact wpOp_val rfl rfl (v := .slice fo n fc) (w' := W) (by simp [execOp, go_sem, E9]) ⟨hIW, fun _ h => h, Or.inl ⟨_, by decide, rfl, RP.set ((HPI1.out _ _).2 rfl)⟩⟩
      | 2, _, hdep0 =>
        have E10 : a1.tmps[10]?.getD undef = .int .i64 M := by rw [← ha1]; exact (putsL_out2 _ _ _ _ (by decide)).trans rfl
        exact wpOp_val rfl rfl (v := .int .i64 M) (w' := W) (by simp [execOp, go_sem, E10]) ⟨hIW, fun _ h => h, Or.inl ⟨_, by decide, rfl, RP.set ((HPI2.out _ _).2 rfl)⟩⟩
      | 3, _, hdep0 =>
        have hd1 := (HPI1.out _ _).1 (hdep0 1 (by kernel_rfl))
        have hd2 := (HPI2.out _ _).1 (hdep0 2 (by kernel_rfl))
        have E26 : a1.tmps[26]?.getD undef = .slice fo n fc := by rw [← ha1]; exact (putsL_in2 _ _ _ _ (by decide) (show 26 < 35 from by decide)).trans hd1
        have E27 : a1.tmps[27]?.getD undef = .int .i64 M := by rw [← ha1]; exact (putsL_in2 _ _ _ _ (by decide) (show 27 < 35 from by decide)).trans hd2
        refine wpOp_call rfl rfl (n := 60) (vs := #[.slice fo n fc, .int .i64 M]) (by have := egI #[.slice fo n fc, .int .i64 M] W; simp [execOp, E26, E27, resolve, invoke, go_sem] <;> exact this) ((HIX.out W hIW).mono fun e w' hh => (by obtain ⟨k, rfl, p0, hJ', hb'⟩ := hh; exact ⟨_, rfl, (HPI3.out _ _).2 ⟨_, rfl, p0⟩, hJ', hb'⟩ : ∃ v, e = .returned v ∧ (P 3 v w' ∧ J w' ∧ Below W.heap.size W w'))) ?_
        rintro v w' ⟨hv, hI', hb'⟩
        exact ⟨hI', fun j h => HKP.out j _ _ _ hb' h, Or.inl ⟨_, by decide, rfl, RP.set hv⟩⟩
      | 4, _, hdep0 =>
        have hd0 := (HPI0.out _ _).1 (hdep0 0 (by kernel_rfl))
        have hd3 := (HPI3.out _ _).1 (hdep0 3 (by kernel_rfl))
        have E25 : a1.tmps[25]?.getD undef = .int .i64 first := by rw [← ha1]; exact (putsL_in2 _ _ _ _ (by decide) (show 25 < 35 from by decide)).trans hd0
        obtain ⟨k, q3, r3_0⟩ := hd3
        have E28 : a1.tmps[28]?.getD undef = .int .i64 (((k : Nat)) : Int) := by rw [← ha1]; exact (putsL_in2 _ _ _ _ (by decide) (show 28 < 35 from by decide)).trans q3
        have hwk := HWK.out _ r3_0
        exact wpOp_val rfl rfl (v := .int .i64 (first + (((k : Nat)) : Int))) (w' := W) (by simp [execOp, go_sem, E25, E28, hwk]) ⟨hIW, fun _ h => h, Or.inl ⟨_, by decide, rfl, RP.set ((HPI4.out _ _).2 ⟨_, rfl, r3_0⟩)⟩⟩
      | 5, _, hdep0 =>
        have E10 : a1.tmps[10]?.getD undef = .int .i64 M := by rw [← ha1]; exact (putsL_out2 _ _ _ _ (by decide)).trans rfl
        exact wpOp_val rfl rfl (v := .int .i64 M) (w' := W) (by simp [execOp, go_sem, E10]) ⟨hIW, fun _ h => h, Or.inl ⟨_, by decide, rfl, RP.set ((HPI5.out _ _).2 rfl)⟩⟩
      | 6, _, hdep0 =>
        have hd5 := (HPI5.out _ _).1 (hdep0 5 (by kernel_rfl))
        have E30 : a1.tmps[30]?.getD undef = .int .i64 M := by rw [← ha1]; exact (putsL_in2 _ _ _ _ (by decide) (show 30 < 35 from by decide)).trans hd5
        exact wpOp_val rfl rfl (v := .int .i64 (M * 100)) (w' := W) (by simp [execOp, go_sem, E30, hwm]) ⟨hIW, fun _ h => h, Or.inl ⟨_, by decide, rfl, RP.set ((HPI6.out _ _).2 rfl)⟩⟩
      | 7, _, hdep0 =>
        have E3 : a1.tmps[3]?.getD undef = .pointer (some ⟨bR, 0, none⟩) := by rw [← ha1]; exact (putsL_out2 _ _ _ _ (by decide)).trans rfl
        have v0 : W.cell? ⟨bR, 0, none⟩ = some (.slice a0 n0 c0) := by simpa using HCR.out W hIW 0
        have v1 : W.cell? ⟨bR, 1, none⟩ = some (.slice b0 m0 d0) := by simpa using HCR.out W hIW 1
        have v2 : W.cell? ⟨bR, 2, none⟩ = some (.slice e0 k0 f0) := by simpa using HCR.out W hIW 2
        exact wpOp_val rfl rfl (v := .agg #[.slice a0 n0 c0, .slice b0 m0 d0, .slice e0 k0 f0]) (w' := W) (by simp [execOp, go_sem, E3, v0, v1, v2]) ⟨hIW, fun _ h => h, Or.inl ⟨_, by decide, rfl, RP.set ((HPI7.out _ _).2 rfl)⟩⟩
      | 8, _, hdep0 =>
        have hd7 := (HPI7.out _ _).1 (hdep0 7 (by kernel_rfl))
        have E32 : a1.tmps[32]?.getD undef = .agg #[.slice a0 n0 c0, .slice b0 m0 d0, .slice e0 k0 f0] := by rw [← ha1]; exact (putsL_in2 _ _ _ _ (by decide) (show 32 < 35 from by decide)).trans hd7
        refine wpOp_call rfl rfl (n := 61) (vs := #[.agg #[.slice a0 n0 c0, .slice b0 m0 d0, .slice e0 k0 f0]]) (by have := egD #[.agg #[.slice a0 n0 c0, .slice b0 m0 d0, .slice e0 k0 f0]] W; simp [execOp, E32, resolve, invoke, go_sem] <;> exact this) ((HDB.out W hIW).mono fun e w' hh => (by obtain ⟨rfl, hJ', hb'⟩ := hh; exact ⟨_, rfl, (HPI8.out _ _).2 rfl, hJ', hb'⟩ : ∃ v, e = .returned v ∧ (P 8 v w' ∧ J w' ∧ Below W.heap.size W w'))) ?_
        rintro v w' ⟨hv, hI', hb'⟩
        exact ⟨hI', fun j h => HKP.out j _ _ _ hb' h, Or.inl ⟨_, by decide, rfl, RP.set hv⟩⟩
      | 9, _, hdep0 =>
        have hd6 := (HPI6.out _ _).1 (hdep0 6 (by kernel_rfl))
        have hd8 := (HPI8.out _ _).1 (hdep0 8 (by kernel_rfl))
        have E31 : a1.tmps[31]?.getD undef = .int .i64 (M * 100) := by rw [← ha1]; exact (putsL_in2 _ _ _ _ (by decide) (show 31 < 35 from by decide)).trans hd6
        have E33 : a1.tmps[33]?.getD undef = .int .i64 db := by rw [← ha1]; exact (putsL_in2 _ _ _ _ (by decide) (show 33 < 35 from by decide)).trans hd8
        exact wpOp_val rfl rfl (v := .int .i64 (M * 100 / db)) (w' := W) (by simp [execOp, go_sem, E31, E33, hwq, hdb0]) ⟨hIW, fun _ h => h, Or.inl ⟨_, by decide, rfl, RP.set ((HPI9.out _ _).2 rfl)⟩⟩
      | 10, _, hdep0 =>
        have hd4 := (HPI4.out _ _).1 (hdep0 4 (by kernel_rfl))
        obtain ⟨k, q4, r4_0⟩ := hd4
        have E29 : a1.tmps[29]?.getD undef = .int .i64 (first + (((k : Nat)) : Int)) := by rw [← ha1]; exact (putsL_in2 _ _ _ _ (by decide) (show 29 < 35 from by decide)).trans q4
        exact wpOp_val rfl rfl (v := .int .i64 (first + (((k : Nat)) : Int))) (w' := W) (by simp [execOp, go_sem, E29]) ⟨hIW, fun _ h => h, Or.inl ⟨_, by decide, rfl, RP.set ((HPI10.out _ _).2 ⟨_, rfl, r4_0⟩)⟩⟩
      | 11, _, hdep0 =>
        have hd9 := (HPI9.out _ _).1 (hdep0 9 (by kernel_rfl))
        have E34 : a1.tmps[34]?.getD undef = .int .i64 (M * 100 / db) := by rw [← ha1]; exact (putsL_in2 _ _ _ _ (by decide) (show 34 < 35 from by decide)).trans hd9
        exact wpOp_val rfl rfl (v := .int .i64 (M * 100 / db)) (w' := W) (by simp [execOp, go_sem, E34]) ⟨hIW, fun _ h => h, Or.inl ⟨_, by decide, rfl, RP.set ((HPI11.out _ _).2 rfl)⟩⟩
      | 12, _, hdep0 =>
        exact wpOp_val rfl rfl (v := .int .i64 0) (w' := W) (by simp [execOp, go_sem]) ⟨hIW, fun _ h => h, Or.inl ⟨_, by decide, rfl, RP.set ((HPI12.out _ _).2 rfl)⟩⟩
      | iq + 13, h, _ => exact absurd h (by omega)
    case refine_2 =>
      intro f W hIW hR
      have h6 := (HPI10.out _ _).1 (hR 10 (show 10 < 13 from by decide))
      have h7 := (HPI11.out _ _).1 (hR 11 (show 11 < 13 from by decide))
      have h8 := (HPI12.out _ _).1 (hR 12 (show 12 < 13 from by decide))
      simp only [putsL, List.foldl_cons, List.foldl_nil, Act.put, List.setIfInBounds_toArray, List.set_cons_zero, List.set_cons_succ]
      obtain ⟨k, e1, l1⟩ := h6
      have e1' : f 6 = .int .i64 (first + (k : Int)) := e1
      have e2' : f 7 = .int .i64 (M * 100 / db) := h7
      have e3' : f 8 = .int .i64 0 := h8
      rw [e1', e2', e3']
      go_wp2
      go_ret3
      exact ⟨_, _, rfl, Or.inr ⟨HM1.out, k, rfl, l1, HPC.out.1, HPC.out.2⟩, HJW.out _ hIW⟩

end Go.Proofs.Ytblidmkkbcobgaa
