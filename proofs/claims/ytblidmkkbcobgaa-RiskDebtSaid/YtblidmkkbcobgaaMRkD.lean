/- The debt of a projection from the beginning on is always what is outstanding: for every tape. -/
import Derived.Test.YtblidmkkbcobgaaMRkS
import Derived.Test.YtblidmkkbcobgaaMRkR
import Derived.Test.YtblidmkkbcobgaaMRoK
import Derived.Test.YtblidmkkbcobgaaMRegInv
set_option linter.unusedSimpArgs false
set_option linter.unusedVariables false
set_option linter.unusedSimpArgs false
set_option linter.unusedVariables false
namespace Go.Proofs.Ytblidmkkbcobgaa
open Go.RowKit Go.Lib Go.Proofs

set_option maxRecDepth 100000 in
set_option maxHeartbeats 16000000 in
theorem ridebt_any (v : Value) (l : Nat) (w : World) (hi : IntsAt w v l w.heap.size) (hn : l ≤ 9223372036854775807) :
    Calls Try.prog 3 #[v] w fun e w' => e = .returned (.bool true) ∧ Below w.heap.size w w' := by
  have HNEW := Lib.hid (sNew_any v l w hi hn)
  have HSN := Lib.hid sane39_any
  clear hi hn
  go_enter Try.func3, Try.ntmps3
  go_wp2_with fail
  refine (HNEW.out).mono ?_
  rintro e w1 ⟨rfl, t1, b1⟩
  obtain ⟨tb, htb⟩ : ∃ tb, tb = w.heap.size := ⟨_, rfl⟩
  rw [← htb] at t1 ⊢
  have HRS := Lib.hid (sRegister_any tb 8 w1 t1 (by omega))
  have HFIN : Hid (∀ W, SI w1 tb W → Below w.heap.size w W) := Lib.hid fun W hW => b1.grown hW.old b1.size (fun q e => by injection e with e; omega)
  clear t1 b1 HNEW htb
  go_wp2_with fail
  with_reducible refine Calls.mono HRS.out ?_
  rintro e w2 ⟨x, y, z, r, d, rfl, hG, hs0, hs1, hml, hd, hra, hsi⟩
  obtain ⟨a0, n0, c0, b0, m0, d0, e0, k0, f0, rfl, rfl, rfl⟩ := hra.slices
  obtain ⟨bR, hbR⟩ : ∃ b, b = w2.heap.size := ⟨_, rfl⟩
  obtain ⟨w3, hw3⟩ : ∃ W, W = w2.alloc (.cells #[.slice a0 n0 c0, .slice b0 m0 d0, .slice e0 k0 f0] 29) := ⟨_, rfl⟩
  have HI3 : Hid (RgI w1 tb bR (.slice a0 n0 c0) (.slice b0 m0 d0) (.slice e0 k0 f0) r w3) := Lib.hid (by
    rw [hw3, hbR]
    have hlt := hsi.lt
    have hsz := hsi.old.size
    exact ⟨hsi.alloc _, heap_alloc_new _ _, hra.below (below_alloc _ _), by omega, hsz⟩)
  have HG := Lib.hid hG
  clear hG hra hsi HRS hs0 hs1 hml
  go_upto_region 3 with fail
  rw [← hw3, ← hbR]
  clear hw3 hbR
  obtain ⟨I, hI⟩ : ∃ I, I = fun W : World => RgI w1 tb bR (.slice a0 n0 c0) (.slice b0 m0 d0) (.slice e0 k0 f0) r W := ⟨_, rfl⟩
  have HIO : Hid (∀ W, I W → RgI w1 tb bR (.slice a0 n0 c0) (.slice b0 m0 d0) (.slice e0 k0 f0) r W) := Lib.hid fun W hW => by rw [hI] at hW; exact hW
  have HII : Hid (∀ W, RgI w1 tb bR (.slice a0 n0 c0) (.slice b0 m0 d0) (.slice e0 k0 f0) r W → I W) := Lib.hid fun W hW => by rw [hI]; exact hW
  have HI0 : Hid (I w3) := Lib.hid (HII.out _ HI3.out)
  have HID : Hid (∀ W, I W → I W.drew) := Lib.hid fun W hW => HII.out _ ((HIO.out W hW).below (Below.refl _ _).drew)
  have HCR : Hid (∀ W, I W → ∀ i, W.cell? ⟨bR, i, none⟩ = #[.slice a0 n0 c0, .slice b0 m0 d0, .slice e0 k0 f0][i]?) := Lib.hid fun W hW i => obj_cell (HIO.out W hW).box i
  have HRT : Hid (∀ W, I W → Calls Try.prog 14 #[.pointer (some ⟨tb, 0, none⟩)] W fun e w' => ∃ (vl : Value) (ql : List Int), e = .returned vl ∧ (1 ≤ ql.length ∧ ql.length ≤ 6 ∧ RatesOk ql ∧ w'.ownsRow (tb + 1) 3 1 vl ql.length (cellsI ql)) ∧ I w' ∧ (SrcAt W tb ∧ W.grownBy w' (some tb))) := Lib.hid fun W hW =>
    (sRates_any tb W (HIO.out W hW).si.src).mono fun e w' ⟨u, ql, h1, h2, h3, h4, h5, h6, h7⟩ => ⟨u, ql, h1, ⟨h2, h3, h4, ownsRow_mono h5 (HIO.out W hW).si.src.lt⟩, HII.out _ ((HIO.out W hW).turn h6.src h7), (HIO.out W hW).si.src, h7⟩
  have HPJ : Hid (∀ (vl : Value) (ql : List Int) W, I W → (1 ≤ ql.length ∧ ql.length ≤ 6 ∧ RatesOk ql ∧ W.ownsRow (tb + 1) 3 1 vl ql.length (cellsI ql)) → Calls Try.prog 13 #[.agg #[.slice a0 n0 c0, .slice b0 m0 d0, .slice e0 k0 f0], .int .i64 0, vl] W fun e w' => ∃ (u : Value) (ql : List Int), e = .returned (.tuple #[u, .int .i64 0]) ∧ (1 ≤ ql.length ∧ ql.length ≤ 6 ∧ RatesOk ql ∧ w'.ownsRow (tb + 1) 38 4 u ql.length (cellsL srvC (projL r 0 ql ql.length))) ∧ I w' ∧ Below W.heap.size W w') := Lib.hid fun vl ql W hW h => by
    obtain ⟨h1, h2, h3, h4⟩ := h
    refine (riProject_ok r _ _ _ vl 0 ql W HG.out.ok (HIO.out W hW).reg (by unfold ListAt; rw [cellsL_int]; exact RowG.owns h4) (by omega) (by omega) h3).mono ?_
    rintro e w' ⟨u, rfl, h6, h7⟩
    exact ⟨u, ql, rfl, ⟨h1, h2, h3, ownsRow_mono h6 (HIO.out W hW).si.src.lt⟩, HII.out _ ((HIO.out W hW).below h7), h7⟩
  have egR := enters_of Try.func14 (by kernel_rfl) rfl
  have egP := enters_of Try.func13 (by kernel_rfl) rfl
  clear hI HII
  obtain ⟨P, hP⟩ : ∃ P : Nat → Value → World → Prop, P = fun j v W => match j with | 0 => (v = .agg #[.slice a0 n0 c0, .slice b0 m0 d0, .slice e0 k0 f0]) | 1 => (v = .pointer (some ⟨tb, 0, none⟩)) | 2 => (∃ vl ql, v = vl ∧ (1 ≤ ql.length ∧ ql.length ≤ 6 ∧ RatesOk ql ∧ W.ownsRow (tb + 1) 3 1 vl ql.length (cellsI ql))) | 3 => (∃ u ql, v = .tuple #[u, .int .i64 0] ∧ (1 ≤ ql.length ∧ ql.length ≤ 6 ∧ RatesOk ql ∧ W.ownsRow (tb + 1) 38 4 u ql.length (cellsL srvC (projL r 0 ql ql.length)))) | 4 => (∃ u ql, v = .tuple #[u, .int .i64 0] ∧ (1 ≤ ql.length ∧ ql.length ≤ 6 ∧ RatesOk ql ∧ W.ownsRow (tb + 1) 38 4 u ql.length (cellsL srvC (projL r 0 ql ql.length)))) | 5 => (∃ u ql, v = u ∧ (1 ≤ ql.length ∧ ql.length ≤ 6 ∧ RatesOk ql ∧ W.ownsRow (tb + 1) 38 4 u ql.length (cellsL srvC (projL r 0 ql ql.length)))) | 6 => (v = .int .i64 0) | 7 => (∃ u ql, v = u ∧ (1 ≤ ql.length ∧ ql.length ≤ 6 ∧ RatesOk ql ∧ W.ownsRow (tb + 1) 38 4 u ql.length (cellsL srvC (projL r 0 ql ql.length)))) | 8 => (v = .int .i64 0) | _ => True := ⟨_, rfl⟩
  have HPI0 : Hid (∀ v W, P 0 v W ↔ (v = .agg #[.slice a0 n0 c0, .slice b0 m0 d0, .slice e0 k0 f0])) := Lib.hid fun v W => by rw [hP] <;> exact Iff.rfl
  have HPI1 : Hid (∀ v W, P 1 v W ↔ (v = .pointer (some ⟨tb, 0, none⟩))) := Lib.hid fun v W => by rw [hP] <;> exact Iff.rfl
  have HPI2 : Hid (∀ v W, P 2 v W ↔ (∃ vl ql, v = vl ∧ (1 ≤ ql.length ∧ ql.length ≤ 6 ∧ RatesOk ql ∧ W.ownsRow (tb + 1) 3 1 vl ql.length (cellsI ql)))) := Lib.hid fun v W => by rw [hP] <;> exact Iff.rfl
  have HPI3 : Hid (∀ v W, P 3 v W ↔ (∃ u ql, v = .tuple #[u, .int .i64 0] ∧ (1 ≤ ql.length ∧ ql.length ≤ 6 ∧ RatesOk ql ∧ W.ownsRow (tb + 1) 38 4 u ql.length (cellsL srvC (projL r 0 ql ql.length))))) := Lib.hid fun v W => by rw [hP] <;> exact Iff.rfl
  have HPI4 : Hid (∀ v W, P 4 v W ↔ (∃ u ql, v = .tuple #[u, .int .i64 0] ∧ (1 ≤ ql.length ∧ ql.length ≤ 6 ∧ RatesOk ql ∧ W.ownsRow (tb + 1) 38 4 u ql.length (cellsL srvC (projL r 0 ql ql.length))))) := Lib.hid fun v W => by rw [hP] <;> exact Iff.rfl
  have HPI5 : Hid (∀ v W, P 5 v W ↔ (∃ u ql, v = u ∧ (1 ≤ ql.length ∧ ql.length ≤ 6 ∧ RatesOk ql ∧ W.ownsRow (tb + 1) 38 4 u ql.length (cellsL srvC (projL r 0 ql ql.length))))) := Lib.hid fun v W => by rw [hP] <;> exact Iff.rfl
  have HPI6 : Hid (∀ v W, P 6 v W ↔ (v = .int .i64 0)) := Lib.hid fun v W => by rw [hP] <;> exact Iff.rfl
  have HPI7 : Hid (∀ v W, P 7 v W ↔ (∃ u ql, v = u ∧ (1 ≤ ql.length ∧ ql.length ≤ 6 ∧ RatesOk ql ∧ W.ownsRow (tb + 1) 38 4 u ql.length (cellsL srvC (projL r 0 ql ql.length))))) := Lib.hid fun v W => by rw [hP] <;> exact Iff.rfl
  have HPI8 : Hid (∀ v W, P 8 v W ↔ (v = .int .i64 0)) := Lib.hid fun v W => by rw [hP] <;> exact Iff.rfl
  have HKP : Hid (∀ (j : Nat) v W W', Below W.heap.size W W' → P j v W → P j v W') := Lib.hid (by
    rw [hP]
    intro j v W W' hb h
    match j, h with
    | 0, h => exact h
    | 1, h => exact h
    | 2, ⟨vl, ql, e, s0⟩ => exact ⟨vl, ql, e, ⟨s0.1, s0.2.1, s0.2.2.1, ownsRow_below s0.2.2.2 hb⟩⟩
    | 3, ⟨u, ql, e, s0⟩ => exact ⟨u, ql, e, ⟨s0.1, s0.2.1, s0.2.2.1, ownsRow_below s0.2.2.2 hb⟩⟩
    | 4, ⟨u, ql, e, s0⟩ => exact ⟨u, ql, e, ⟨s0.1, s0.2.1, s0.2.2.1, ownsRow_below s0.2.2.2 hb⟩⟩
    | 5, ⟨u, ql, e, s0⟩ => exact ⟨u, ql, e, ⟨s0.1, s0.2.1, s0.2.2.1, ownsRow_below s0.2.2.2 hb⟩⟩
    | 6, h => exact h
    | 7, ⟨u, ql, e, s0⟩ => exact ⟨u, ql, e, ⟨s0.1, s0.2.1, s0.2.2.1, ownsRow_below s0.2.2.2 hb⟩⟩
    | 8, h => exact h
    | j + 9, _ => trivial)
  have HKT : Hid (∀ (j : Nat) v W W', SrcAt W tb → W.grownBy W' (some tb) → P j v W → P j v W') := Lib.hid (by
    rw [hP]
    intro j v W W' hs hg h
    match j, h with
    | 0, h => exact h
    | 1, h => exact h
    | 2, ⟨vl, ql, e, s0⟩ => exact ⟨vl, ql, e, ⟨s0.1, s0.2.1, s0.2.2.1, s0.2.2.2.kept hg (ownBlock_ne s0.2.2.2 tb (Nat.lt_succ_self _))⟩⟩
    | 3, ⟨u, ql, e, s0⟩ => exact ⟨u, ql, e, ⟨s0.1, s0.2.1, s0.2.2.1, s0.2.2.2.kept hg (ownBlock_ne s0.2.2.2 tb (Nat.lt_succ_self _))⟩⟩
    | 4, ⟨u, ql, e, s0⟩ => exact ⟨u, ql, e, ⟨s0.1, s0.2.1, s0.2.2.1, s0.2.2.2.kept hg (ownBlock_ne s0.2.2.2 tb (Nat.lt_succ_self _))⟩⟩
    | 5, ⟨u, ql, e, s0⟩ => exact ⟨u, ql, e, ⟨s0.1, s0.2.1, s0.2.2.1, s0.2.2.2.kept hg (ownBlock_ne s0.2.2.2 tb (Nat.lt_succ_self _))⟩⟩
    | 6, h => exact h
    | 7, ⟨u, ql, e, s0⟩ => exact ⟨u, ql, e, ⟨s0.1, s0.2.1, s0.2.2.1, s0.2.2.2.kept hg (ownBlock_ne s0.2.2.2 tb (Nat.lt_succ_self _))⟩⟩
    | 8, h => exact h
    | j + 9, _ => trivial)
  clear hP
  go_cut [6, 7] (fun lv ev wx => ev = .int .i64 0 ∧ Hid (I wx) ∧ Hid (∃ ql : List Int, 1 ≤ ql.length ∧ ql.length ≤ 6 ∧ RatesOk ql ∧ ListAt srvC 4 wx lv (projL r 0 ql ql.length)))
  case first =>
    refine wp_region_props [18, 19, 20, 21, 17, 22, 23, 6, 7] (slotS [18, 19, 20, 21, 17, 22, 23, 6, 7]) (readsS [18, 19, 20, 21, 17, 22, 23, 6, 7]) (RP [18, 19, 20, 21, 17, 22, 23, 6, 7] P) I (by kernel_rfl) (by kernel_rfl) (by kernel_rfl) (HID.out _ HI0.out) (fun j f q v W hq h => RP.upd hq h) ?_ ?_
    case refine_1 =>
      intro iq hiq f W hIW hdep0
      have hiq' : iq < 9 := hiq
      have hdep : ∀ j, depB _ iq j = true → P j (f (slotS [18, 19, 20, 21, 17, 22, 23, 6, 7] j)) W := hdep0
      clear hdep0
      generalize ha1 : putsL _ [18, 19, 20, 21, 17, 22, 23, 6, 7] f = a1
      match iq, hiq', hdep with
      | 0, _, hdep0 =>
        have E4 : a1.tmps[4]?.getD undef = .pointer (some ⟨bR, 0, none⟩) := by rw [← ha1]; exact (putsL_out2 _ _ _ _ (by decide)).trans rfl
        have v0 : W.cell? ⟨bR, 0, none⟩ = some (.slice a0 n0 c0) := by simpa using HCR.out W hIW 0
        have v1 : W.cell? ⟨bR, 1, none⟩ = some (.slice b0 m0 d0) := by simpa using HCR.out W hIW 1
        have v2 : W.cell? ⟨bR, 2, none⟩ = some (.slice e0 k0 f0) := by simpa using HCR.out W hIW 2
        exact wpOp_val rfl rfl (v := .agg #[.slice a0 n0 c0, .slice b0 m0 d0, .slice e0 k0 f0]) (w' := W) (by simp [execOp, go_sem, E4, v0, v1, v2]) ⟨hIW, fun _ h => h, Or.inl ⟨_, by decide, rfl, RP.set ((HPI0.out _ _).2 rfl)⟩⟩
      | 1, _, hdep0 =>
        have E3 : a1.tmps[3]?.getD undef = .pointer (some ⟨tb, 0, none⟩) := by rw [← ha1]; exact (putsL_out2 _ _ _ _ (by decide)).trans rfl
        exact wpOp_val rfl rfl (v := .pointer (some ⟨tb, 0, none⟩)) (w' := W) (by simp [execOp, go_sem, E3]) ⟨hIW, fun _ h => h, Or.inl ⟨_, by decide, rfl, RP.set ((HPI1.out _ _).2 rfl)⟩⟩
      | 2, _, hdep0 =>
        have hd1 := (HPI1.out _ _).1 (hdep0 1 (by kernel_rfl))
        have E19 : a1.tmps[19]?.getD undef = .pointer (some ⟨tb, 0, none⟩) := by rw [← ha1]; exact (putsL_in2 _ _ _ _ (by decide) (show 19 < 71 from by decide)).trans hd1
        refine wpOp_call rfl rfl (n := 14) (vs := #[.pointer (some ⟨tb, 0, none⟩)]) (by have := egR #[.pointer (some ⟨tb, 0, none⟩)] W; simp [execOp, E19, resolve, invoke, go_sem] <;> exact this) ((HRT.out W hIW).mono fun e w' hh => (by obtain ⟨vl, ql, rfl, p0, hJ', hb'⟩ := hh; exact ⟨_, rfl, (HPI2.out _ _).2 ⟨_, _, rfl, p0⟩, hJ', hb'⟩ : ∃ v, e = .returned v ∧ (P 2 v w' ∧ I w' ∧ SrcAt W tb ∧ W.grownBy w' (some tb)))) ?_
        rintro v w' ⟨hv, hI', hb'⟩
        exact ⟨hI', fun j h => HKT.out j _ _ _ hb'.1 hb'.2 h, Or.inl ⟨_, by decide, rfl, RP.set hv⟩⟩
      | 3, _, hdep0 =>
        have hd0 := (HPI0.out _ _).1 (hdep0 0 (by kernel_rfl))
        have hd2 := (HPI2.out _ _).1 (hdep0 2 (by kernel_rfl))
        have E18 : a1.tmps[18]?.getD undef = .agg #[.slice a0 n0 c0, .slice b0 m0 d0, .slice e0 k0 f0] := by rw [← ha1]; exact (putsL_in2 _ _ _ _ (by decide) (show 18 < 71 from by decide)).trans hd0
        obtain ⟨vl, ql, q2, r2_0⟩ := hd2
        have E20 : a1.tmps[20]?.getD undef = vl := by rw [← ha1]; exact (putsL_in2 _ _ _ _ (by decide) (show 20 < 71 from by decide)).trans q2
        refine wpOp_call rfl rfl (n := 13) (vs := #[.agg #[.slice a0 n0 c0, .slice b0 m0 d0, .slice e0 k0 f0], .int .i64 0, vl]) (by have := egP #[.agg #[.slice a0 n0 c0, .slice b0 m0 d0, .slice e0 k0 f0], .int .i64 0, vl] W; simp [execOp, E18, E20, resolve, invoke, go_sem] <;> exact this) ((HPJ.out _ _ W hIW r2_0).mono fun e w' hh => (by obtain ⟨u, ql, rfl, p0, hJ', hb'⟩ := hh; exact ⟨_, rfl, (HPI3.out _ _).2 ⟨_, _, rfl, p0⟩, hJ', hb'⟩ : ∃ v, e = .returned v ∧ (P 3 v w' ∧ I w' ∧ Below W.heap.size W w'))) ?_
        rintro v w' ⟨hv, hI', hb'⟩
        exact ⟨hI', fun j h => HKP.out j _ _ _ hb' h, Or.inl ⟨_, by decide, rfl, RP.set hv⟩⟩
      | 4, _, hdep0 =>
        have hd3 := (HPI3.out _ _).1 (hdep0 3 (by kernel_rfl))
        obtain ⟨u, ql, q3, r3_0⟩ := hd3
        have E21 : a1.tmps[21]?.getD undef = .tuple #[u, .int .i64 0] := by rw [← ha1]; exact (putsL_in2 _ _ _ _ (by decide) (show 21 < 71 from by decide)).trans q3
        exact wpOp_val rfl rfl (v := .tuple #[u, .int .i64 0]) (w' := W) (by simp [execOp, go_sem, E21]) ⟨hIW, fun _ h => h, Or.inl ⟨_, by decide, rfl, RP.set ((HPI4.out _ _).2 ⟨_, _, rfl, r3_0⟩)⟩⟩
      | 5, _, hdep0 =>
        have hd4 := (HPI4.out _ _).1 (hdep0 4 (by kernel_rfl))
        obtain ⟨u, ql, q4, r4_0⟩ := hd4
        have E17 : a1.tmps[17]?.getD undef = .tuple #[u, .int .i64 0] := by rw [← ha1]; exact (putsL_in2 _ _ _ _ (by decide) (show 17 < 71 from by decide)).trans q4
        exact wpOp_val rfl rfl (v := u) (w' := W) (by simp [execOp, go_sem, E17]) ⟨hIW, fun _ h => h, Or.inl ⟨_, by decide, rfl, RP.set ((HPI5.out _ _).2 ⟨_, _, rfl, r4_0⟩)⟩⟩
      | 6, _, hdep0 =>
        have hd4 := (HPI4.out _ _).1 (hdep0 4 (by kernel_rfl))
        obtain ⟨u, ql, q4, r4_0⟩ := hd4
        have E17 : a1.tmps[17]?.getD undef = .tuple #[u, .int .i64 0] := by rw [← ha1]; exact (putsL_in2 _ _ _ _ (by decide) (show 17 < 71 from by decide)).trans q4
        exact wpOp_val rfl rfl (v := .int .i64 0) (w' := W) (by simp [execOp, go_sem, E17]) ⟨hIW, fun _ h => h, Or.inl ⟨_, by decide, rfl, RP.set ((HPI6.out _ _).2 rfl)⟩⟩
      | 7, _, hdep0 =>
        have hd5 := (HPI5.out _ _).1 (hdep0 5 (by kernel_rfl))
        obtain ⟨u, ql, q5, r5_0⟩ := hd5
        have E22 : a1.tmps[22]?.getD undef = u := by rw [← ha1]; exact (putsL_in2 _ _ _ _ (by decide) (show 22 < 71 from by decide)).trans q5
        exact wpOp_val rfl rfl (v := u) (w' := W) (by simp [execOp, go_sem, E22]) ⟨hIW, fun _ h => h, Or.inl ⟨_, by decide, rfl, RP.set ((HPI7.out _ _).2 ⟨_, _, rfl, r5_0⟩)⟩⟩
      | 8, _, hdep0 =>
        have hd6 := (HPI6.out _ _).1 (hdep0 6 (by kernel_rfl))
        have E23 : a1.tmps[23]?.getD undef = .int .i64 0 := by rw [← ha1]; exact (putsL_in2 _ _ _ _ (by decide) (show 23 < 71 from by decide)).trans hd6
        exact wpOp_val rfl rfl (v := .int .i64 0) (w' := W) (by simp [execOp, go_sem, E23]) ⟨hIW, fun _ h => h, Or.inl ⟨_, by decide, rfl, RP.set ((HPI8.out _ _).2 rfl)⟩⟩
      | iq + 9, h, _ => exact absurd h (by omega)
    case refine_2 =>
      intro f W hIW hR
      have h6 := (HPI7.out _ _).1 (hR 7 (show 7 < 9 from by decide))
      have h7 := (HPI8.out _ _).1 (hR 8 (show 8 < 9 from by decide))
      simp only [putsL, List.foldl_cons, List.foldl_nil, Act.put, List.setIfInBounds_toArray, List.set_cons_zero, List.set_cons_succ]
      obtain ⟨u, ql, e1, l1, l2, l3, l4⟩ := h6
      have e1' : f 6 = u := e1
      go_wp2
      go_meet
      exact ⟨(by first | exact h7 | rfl), Lib.hid hIW, Lib.hid ⟨ql, l1, l2, l3, by rw [e1']; unfold ListAt; rw [projL_len]; exact RowG.owns l4⟩⟩
  case rest =>
    obtain ⟨rfl, HI9, HL9⟩ := hcut
    generalize wc = w9 at *
    obtain ⟨ql, hq1, hq2, hq3, hl9⟩ := HL9.out
    have HR9 := Lib.hid (HIO.out _ HI9.out)
    clear HRT HPJ HCR HID HI0 HI9 HIO HL9 egR egP
    obtain ⟨ao, cl, rfl, hcl, hsh⟩ := hl9.shape srvF
    rw [projL_len] at hcl ⊢
    obtain ⟨bl, ol, rfl, hbl, hcc⟩ := hsh (by rw [projL_len]; omega)
    have HQ3 := Lib.hid hq3
    obtain ⟨m, hm⟩ : ∃ m, m = ql.length := ⟨_, rfl⟩
    have HCC : Hid (∀ k, k < m → ∀ i, i < 4 → w9.cell? ⟨bl, ol + k * 4 + i, none⟩ = (srvC (srvM r 0 ql k))[i]?) := Lib.hid fun k hk i hi => by
      rw [hm] at hk
      have := hcc k (by rw [projL_len]; exact hk) i hi
      rw [this, projL_get]
    rw [← hm] at hq1 hq2 hcl ⊢
    have hm0 : ((m : Int) == 0) = false := beq_eq_false_iff_ne.2 (by omega)
    have HRG : Hid (∀ W, Below w9.heap.size w9 W → RgI w1 tb bR (.slice a0 n0 c0) (.slice b0 m0 d0) (.slice e0 k0 f0) r W) := Lib.hid fun W hW => HR9.out.below hW
    clear hsh hcc hl9 hq3 hm
    go_wp2
    go_loopw [33] (fun iv wr => ∃ k : Nat, iv = .int .i64 (k : Int) ∧ k ≤ m ∧ Hid (Below w9.heap.size w9 wr)) (fun iv _ => m - (RowKit.intOf iv).toNat)
    case atStart => exact ⟨0, rfl, by omega, Lib.hid (Below.refl _ _)⟩
    case round =>
      obtain ⟨k, rfl, hkm, HBW⟩ := hrel
      by_cases hlk : k < m
      · have g0 : wr.cell? ⟨bl, ol + k * 4, none⟩ = some (.int .i64 (srvM r 0 ql k).year) := (HBW.out.cell (p := ⟨bl, ol + k * 4, none⟩) hbl).trans (HCC.out k hlk 0 (by omega))
        have g1 : wr.cell? ⟨bl, ol + k * 4 + 1, none⟩ = some (.int .i64 (srvM r 0 ql k).int) := (HBW.out.cell (p := ⟨bl, ol + k * 4 + 1, none⟩) hbl).trans (HCC.out k hlk 1 (by omega))
        have g2 : wr.cell? ⟨bl, ol + k * 4 + 2, none⟩ = some (.int .i64 (srvM r 0 ql k).prin) := (HBW.out.cell (p := ⟨bl, ol + k * 4 + 2, none⟩) hbl).trans (HCC.out k hlk 2 (by omega))
        have g3 : wr.cell? ⟨bl, ol + k * 4 + 3, none⟩ = some (.int .i64 (srvM r 0 ql k).debt) := (HBW.out.cell (p := ⟨bl, ol + k * 4 + 3, none⟩) hbl).trans (HCC.out k hlk 3 (by omega))
        rw [debt_same HG.out.ok ql k] at g3
        obtain ⟨yq, hyq⟩ : ∃ yq, yq = (srvM r 0 ql k).year := ⟨_, rfl⟩
        obtain ⟨tq, htq0⟩ : ∃ tq, tq = (srvM r 0 ql k).int := ⟨_, rfl⟩
        obtain ⟨pq, hpq⟩ : ∃ pq, pq = (srvM r 0 ql k).prin := ⟨_, rfl⟩
        obtain ⟨db, hdb⟩ : ∃ db, db = debtM r.hs := ⟨_, rfl⟩
        have htq : ¬ tq < 0 := by have := (srv_in HG.out.ok (first := 0) HQ3.out k).1; omega
        rw [← hyq] at g0
        rw [← htq0] at g1
        rw [← hpq] at g2
        rw [← hdb] at g3
        have HDE := Lib.hid hdb.symm
        have HPQ := Lib.hid hpq
        replace hyq : yq = 0 + (k : Int) := hyq
        have hk0 : (0 : Int) ≤ (k : Int) := by omega
        have hk1 : (k : Int) < (m : Int) := by omega
        have hwk : IntKind.i64.wrap ((k : Int) + 1) = (k : Int) + 1 := IntWalk.i64_in _ (by omega)
        clear hdb hpq htq0
        rcases Nat.eq_zero_or_pos k with rfl | hkpos
        · simp only [Nat.zero_mul, Nat.add_zero, Int.natCast_zero] at g0 g1 g2 g3 hyq hk1 hwk ⊢
          obtain rfl : yq = 0 := by rw [hyq]; first | rfl | omega
          obtain ⟨bE, hbE⟩ : ∃ b, b = wr.heap.size := ⟨_, rfl⟩
          obtain ⟨w8, hw8⟩ : ∃ W, W = wr.alloc (.cells #[.int .i64 (0), .int .i64 tq, .int .i64 pq, .int .i64 db] 38) := ⟨_, rfl⟩
          have HE8 : Hid (w8.heap[bE]? = some (.cells #[.int .i64 (0), .int .i64 tq, .int .i64 pq, .int .i64 db] 38 (0, 0))) := Lib.hid (by rw [hw8, hbE]; exact heap_alloc_new _ _)
          have HB8 : Hid (Below w9.heap.size w9 w8) := Lib.hid (by rw [hw8]; exact HBW.out.alloc HBW.out.size _)
          clear hyq
          go_upto_region 9 with fail
          rw [← hw8, ← hbE]
          clear hw8 hbE
          obtain ⟨J, hJ⟩ : ∃ J, J = fun W : World => Below w8.heap.size w8 W := ⟨_, rfl⟩
          have HJO : Hid (∀ W, J W → Below w8.heap.size w8 W) := Lib.hid fun W hW => by rw [hJ] at hW; exact hW
          have HJI : Hid (∀ W, Below w8.heap.size w8 W → J W) := Lib.hid fun W hW => by rw [hJ]; exact hW
          have HJD : Hid (∀ W, J W → J W.drew) := Lib.hid fun W hW => HJI.out _ ((HJO.out W hW).drew)
          have HJ0 : Hid (J w8) := Lib.hid (HJI.out _ (Below.refl _ _))
          have HJ9 : Hid (∀ W, J W → Below w9.heap.size w9 W) := Lib.hid fun W hW => HB8.out.trans ((HJO.out W hW).mono HB8.out.size)
          have HCE : Hid (∀ W, J W → ∀ i, W.cell? ⟨bE, i, none⟩ = #[.int .i64 (0), .int .i64 tq, .int .i64 pq, .int .i64 db][i]?) := Lib.hid fun W hW i => obj_cell (obj_below HE8.out (HJO.out W hW)) i
          have HCR : Hid (∀ W, J W → ∀ i, W.cell? ⟨bR, i, none⟩ = #[.slice a0 n0 c0, .slice b0 m0 d0, .slice e0 k0 f0][i]?) := Lib.hid fun W hW i => obj_cell (HRG.out _ (HJ9.out W hW)).box i
          have HDB : Hid (∀ W, J W → Calls Try.prog 15 #[.agg #[.slice a0 n0 c0, .slice b0 m0 d0, .slice e0 k0 f0]] W fun e w' => e = .returned (.int .i64 db) ∧ J w') := Lib.hid fun W hW =>
            (ryDebt_ok r _ _ _ W HG.out.ok (HRG.out _ (HJ9.out W hW)).reg).mono fun e w' ⟨h1, h2⟩ => ⟨by rw [h1, HDE.out], HJI.out _ ((HJO.out W hW).trans (h2.mono (HJO.out W hW).size))⟩
          have egD := enters_of Try.func15 (by kernel_rfl) rfl
          clear hJ HJI
          go_cut [68] (fun gv wx => gv = .bool false ∧ Hid (J wx))
          case first =>
            refine wp_region_props [38, 39, 40, 41, 42, 43, 44, 45, 46, 47, 48, 49, 50, 51, 52, 53, 54, 55, 56, 57, 58, 59, 60, 61, 62, 63, 64, 65, 66, 67, 68] (slotS [38, 39, 40, 41, 42, 43, 44, 45, 46, 47, 48, 49, 50, 51, 52, 53, 54, 55, 56, 57, 58, 59, 60, 61, 62, 63, 64, 65, 66, 67, 68]) (readsS [38, 39, 40, 41, 42, 43, 44, 45, 46, 47, 48, 49, 50, 51, 52, 53, 54, 55, 56, 57, 58, 59, 60, 61, 62, 63, 64, 65, 66, 67, 68]) (RTs [38, 39, 40, 41, 42, 43, 44, 45, 46, 47, 48, 49, 50, 51, 52, 53, 54, 55, 56, 57, 58, 59, 60, 61, 62, 63, 64, 65, 66, 67, 68] [.pointer (some ⟨bE, 0, none⟩), .int .i64 0, .int .i64 0, .bool false, .bool false, .pointer (some ⟨bE, 3, none⟩), .int .i64 db, .agg #[.slice a0 n0 c0, .slice b0 m0 d0, .slice e0 k0 f0], .int .i64 db, .bool false, .bool false, .bool false, .pointer (some ⟨bE, 1, none⟩), .int .i64 tq, .bool false, .bool false, .bool false, .int .i64 0, .bool false, .bool false, undef, undef, undef, undef, undef, undef, undef, undef, undef, .bool false, .bool false]) J (by kernel_rfl) (by kernel_rfl) (by kernel_rfl) (HJD.out _ HJ0.out) (fun j f q v W hq h => RTs.upd hq h) ?_ ?_
            case refine_1 =>
              intro iq hiq f W hIW hdep
              have hiq' : iq < 31 := hiq
              generalize ha1 : putsL _ [38, 39, 40, 41, 42, 43, 44, 45, 46, 47, 48, 49, 50, 51, 52, 53, 54, 55, 56, 57, 58, 59, 60, 61, 62, 63, 64, 65, 66, 67, 68] f = a1
              match iq, hiq', hdep with
              | 0, _, hdep =>
                have E9 : a1.tmps[9]?.getD undef = .pointer (some ⟨bE, 0, none⟩) := by rw [← ha1]; exact (putsL_out2 _ _ _ _ (by decide)).trans rfl
                exact wpOp_val rfl rfl (v := .pointer (some ⟨bE, 0, none⟩)) (w' := W) (by simp [execOp, go_sem, E9]) ⟨hIW, fun _ h => h, Or.inl ⟨_, by decide, rfl, updF_same _ _ _⟩⟩
              | 1, _, hdep =>
                have E38 : a1.tmps[38]?.getD undef = .pointer (some ⟨bE, 0, none⟩) := by rw [← ha1]; exact (putsL_in2 _ _ _ _ (by decide) (show 38 < 71 from by decide)).trans (hdep 0 (by kernel_rfl))
                have v0 : W.cell? ⟨bE, 0, none⟩ = some (.int .i64 0) := by simpa using HCE.out W hIW 0
                exact wpOp_val rfl rfl (v := .int .i64 0) (w' := W) (by simp [execOp, go_sem, E38, v0]) ⟨hIW, fun _ h => h, Or.inl ⟨_, by decide, rfl, updF_same _ _ _⟩⟩
              | 2, _, hdep =>
                have E8 : a1.tmps[8]?.getD undef = .int .i64 0 := by rw [← ha1]; exact (putsL_out2 _ _ _ _ (by decide)).trans rfl
                exact wpOp_val rfl rfl (v := .int .i64 0) (w' := W) (by simp [execOp, go_sem, E8]) ⟨hIW, fun _ h => h, Or.inl ⟨_, by decide, rfl, updF_same _ _ _⟩⟩
              | 3, _, hdep =>
                have E39 : a1.tmps[39]?.getD undef = .int .i64 0 := by rw [← ha1]; exact (putsL_in2 _ _ _ _ (by decide) (show 39 < 71 from by decide)).trans (hdep 1 (by kernel_rfl))
                have E40 : a1.tmps[40]?.getD undef = .int .i64 0 := by rw [← ha1]; exact (putsL_in2 _ _ _ _ (by decide) (show 40 < 71 from by decide)).trans (hdep 2 (by kernel_rfl))
                exact wpOp_val rfl rfl (v := .bool false) (w' := W) (by simp [execOp, go_sem, E39, E40]) ⟨hIW, fun _ h => h, Or.inl ⟨_, by decide, rfl, updF_same _ _ _⟩⟩
              | 4, _, hdep =>
                have E41 : a1.tmps[41]?.getD undef = .bool false := by rw [← ha1]; exact (putsL_in2 _ _ _ _ (by decide) (show 41 < 71 from by decide)).trans (hdep 3 (by kernel_rfl))
                exact wpOp_val rfl rfl (v := .bool false) (w' := W) (by simp [execOp, go_sem, E41]) ⟨hIW, fun _ h => h, Or.inl ⟨_, by decide, rfl, updF_same _ _ _⟩⟩
              | 5, _, hdep =>
                have G4 : a1.tmps[42]? = some (.bool false) := by rw [← ha1]; exact (putsL_some _ _ _ _ (by decide) (show 42 < 71 from by decide)).trans (congrArg some (hdep 4 (by kernel_rfl)))
                have E9 : a1.tmps[9]?.getD undef = .pointer (some ⟨bE, 0, none⟩) := by rw [← ha1]; exact (putsL_out2 _ _ _ _ (by decide)).trans rfl
                exact wpOp_valG rfl rfl (yielded_of rfl G4) (v := .pointer (some ⟨bE, 3, none⟩)) (w' := W) (by simp [execOp, go_sem, E9]) ⟨hIW, fun _ h => h, Or.inl ⟨_, by decide, rfl, updF_same _ _ _⟩⟩
              | 6, _, hdep =>
                have G4 : a1.tmps[42]? = some (.bool false) := by rw [← ha1]; exact (putsL_some _ _ _ _ (by decide) (show 42 < 71 from by decide)).trans (congrArg some (hdep 4 (by kernel_rfl)))
                have E43 : a1.tmps[43]?.getD undef = .pointer (some ⟨bE, 3, none⟩) := by rw [← ha1]; exact (putsL_in2 _ _ _ _ (by decide) (show 43 < 71 from by decide)).trans (hdep 5 (by kernel_rfl))
                have v3 : W.cell? ⟨bE, 3, none⟩ = some (.int .i64 db) := by simpa using HCE.out W hIW 3
                exact wpOp_valG rfl rfl (yielded_of rfl G4) (v := .int .i64 db) (w' := W) (by simp [execOp, go_sem, E43, v3]) ⟨hIW, fun _ h => h, Or.inl ⟨_, by decide, rfl, updF_same _ _ _⟩⟩
              | 7, _, hdep =>
                have G4 : a1.tmps[42]? = some (.bool false) := by rw [← ha1]; exact (putsL_some _ _ _ _ (by decide) (show 42 < 71 from by decide)).trans (congrArg some (hdep 4 (by kernel_rfl)))
                have E4 : a1.tmps[4]?.getD undef = .pointer (some ⟨bR, 0, none⟩) := by rw [← ha1]; exact (putsL_out2 _ _ _ _ (by decide)).trans rfl
                have v0 : W.cell? ⟨bR, 0, none⟩ = some (.slice a0 n0 c0) := by simpa using HCR.out W hIW 0
                have v1 : W.cell? ⟨bR, 1, none⟩ = some (.slice b0 m0 d0) := by simpa using HCR.out W hIW 1
                have v2 : W.cell? ⟨bR, 2, none⟩ = some (.slice e0 k0 f0) := by simpa using HCR.out W hIW 2
                exact wpOp_valG rfl rfl (yielded_of rfl G4) (v := .agg #[.slice a0 n0 c0, .slice b0 m0 d0, .slice e0 k0 f0]) (w' := W) (by simp [execOp, go_sem, E4, v0, v1, v2]) ⟨hIW, fun _ h => h, Or.inl ⟨_, by decide, rfl, updF_same _ _ _⟩⟩
              | 8, _, hdep =>
                have G4 : a1.tmps[42]? = some (.bool false) := by rw [← ha1]; exact (putsL_some _ _ _ _ (by decide) (show 42 < 71 from by decide)).trans (congrArg some (hdep 4 (by kernel_rfl)))
                have E45 : a1.tmps[45]?.getD undef = .agg #[.slice a0 n0 c0, .slice b0 m0 d0, .slice e0 k0 f0] := by rw [← ha1]; exact (putsL_in2 _ _ _ _ (by decide) (show 45 < 71 from by decide)).trans (hdep 7 (by kernel_rfl))
                refine wpOp_callG rfl rfl (yielded_of rfl G4) (n := 15) (vs := #[.agg #[.slice a0 n0 c0, .slice b0 m0 d0, .slice e0 k0 f0]]) (by have := egD #[.agg #[.slice a0 n0 c0, .slice b0 m0 d0, .slice e0 k0 f0]] W; simp [execOp, E45, resolve, invoke, go_sem] <;> exact this) ((HDB.out W hIW).mono fun e w' h => (⟨_, h.1, rfl, h.2⟩ : ∃ v, e = .returned v ∧ (v = .int .i64 db ∧ J w'))) ?_
                rintro v w' ⟨rfl, hI'⟩
                exact ⟨hI', fun _ h => h, Or.inl ⟨_, by decide, rfl, updF_same _ _ _⟩⟩
              | 9, _, hdep =>
                have G4 : a1.tmps[42]? = some (.bool false) := by rw [← ha1]; exact (putsL_some _ _ _ _ (by decide) (show 42 < 71 from by decide)).trans (congrArg some (hdep 4 (by kernel_rfl)))
                have E44 : a1.tmps[44]?.getD undef = .int .i64 db := by rw [← ha1]; exact (putsL_in2 _ _ _ _ (by decide) (show 44 < 71 from by decide)).trans (hdep 6 (by kernel_rfl))
                have E46 : a1.tmps[46]?.getD undef = .int .i64 db := by rw [← ha1]; exact (putsL_in2 _ _ _ _ (by decide) (show 46 < 71 from by decide)).trans (hdep 8 (by kernel_rfl))
                exact wpOp_valG rfl rfl (yielded_of rfl G4) (v := .bool false) (w' := W) (by simp [execOp, go_sem, E44, E46]) ⟨hIW, fun _ h => h, Or.inl ⟨_, by decide, rfl, updF_same _ _ _⟩⟩
              | 10, _, hdep =>
                have E42 : a1.tmps[42]?.getD undef = .bool false := by rw [← ha1]; exact (putsL_in2 _ _ _ _ (by decide) (show 42 < 71 from by decide)).trans (hdep 4 (by kernel_rfl))
                have E47 : a1.tmps[47]?.getD undef = .bool false := by rw [← ha1]; exact (putsL_in2 _ _ _ _ (by decide) (show 47 < 71 from by decide)).trans (hdep 9 (by kernel_rfl))
                exact wpOp_val rfl rfl (v := .bool false) (w' := W) (by simp [execOp, go_sem, E42, E47]) ⟨hIW, fun _ h => h, Or.inl ⟨_, by decide, rfl, updF_same _ _ _⟩⟩
              | 11, _, hdep =>
                have E48 : a1.tmps[48]?.getD undef = .bool false := by rw [← ha1]; exact (putsL_in2 _ _ _ _ (by decide) (show 48 < 71 from by decide)).trans (hdep 10 (by kernel_rfl))
                exact wpOp_val rfl rfl (v := .bool false) (w' := W) (by simp [execOp, go_sem, E48]) ⟨hIW, fun _ h => h, Or.inl ⟨_, by decide, rfl, updF_same _ _ _⟩⟩
              | 12, _, hdep =>
                have G11 : a1.tmps[49]? = some (.bool false) := by rw [← ha1]; exact (putsL_some _ _ _ _ (by decide) (show 49 < 71 from by decide)).trans (congrArg some (hdep 11 (by kernel_rfl)))
                have E9 : a1.tmps[9]?.getD undef = .pointer (some ⟨bE, 0, none⟩) := by rw [← ha1]; exact (putsL_out2 _ _ _ _ (by decide)).trans rfl
                exact wpOp_valG rfl rfl (yielded_of rfl G11) (v := .pointer (some ⟨bE, 1, none⟩)) (w' := W) (by simp [execOp, go_sem, E9]) ⟨hIW, fun _ h => h, Or.inl ⟨_, by decide, rfl, updF_same _ _ _⟩⟩
              | 13, _, hdep =>
                have G11 : a1.tmps[49]? = some (.bool false) := by rw [← ha1]; exact (putsL_some _ _ _ _ (by decide) (show 49 < 71 from by decide)).trans (congrArg some (hdep 11 (by kernel_rfl)))
                have E50 : a1.tmps[50]?.getD undef = .pointer (some ⟨bE, 1, none⟩) := by rw [← ha1]; exact (putsL_in2 _ _ _ _ (by decide) (show 50 < 71 from by decide)).trans (hdep 12 (by kernel_rfl))
                have v1 : W.cell? ⟨bE, 1, none⟩ = some (.int .i64 tq) := by simpa using HCE.out W hIW 1
                exact wpOp_valG rfl rfl (yielded_of rfl G11) (v := .int .i64 tq) (w' := W) (by simp [execOp, go_sem, E50, v1]) ⟨hIW, fun _ h => h, Or.inl ⟨_, by decide, rfl, updF_same _ _ _⟩⟩
              | 14, _, hdep =>
                have G11 : a1.tmps[49]? = some (.bool false) := by rw [← ha1]; exact (putsL_some _ _ _ _ (by decide) (show 49 < 71 from by decide)).trans (congrArg some (hdep 11 (by kernel_rfl)))
                have E51 : a1.tmps[51]?.getD undef = .int .i64 tq := by rw [← ha1]; exact (putsL_in2 _ _ _ _ (by decide) (show 51 < 71 from by decide)).trans (hdep 13 (by kernel_rfl))
                exact wpOp_valG rfl rfl (yielded_of rfl G11) (v := .bool false) (w' := W) (by simp [execOp, go_sem, E51, htq]) ⟨hIW, fun _ h => h, Or.inl ⟨_, by decide, rfl, updF_same _ _ _⟩⟩
              | 15, _, hdep =>
                have E49 : a1.tmps[49]?.getD undef = .bool false := by rw [← ha1]; exact (putsL_in2 _ _ _ _ (by decide) (show 49 < 71 from by decide)).trans (hdep 11 (by kernel_rfl))
                have E52 : a1.tmps[52]?.getD undef = .bool false := by rw [← ha1]; exact (putsL_in2 _ _ _ _ (by decide) (show 52 < 71 from by decide)).trans (hdep 14 (by kernel_rfl))
                exact wpOp_val rfl rfl (v := .bool false) (w' := W) (by simp [execOp, go_sem, E49, E52]) ⟨hIW, fun _ h => h, Or.inl ⟨_, by decide, rfl, updF_same _ _ _⟩⟩
              | 16, _, hdep =>
                have E53 : a1.tmps[53]?.getD undef = .bool false := by rw [← ha1]; exact (putsL_in2 _ _ _ _ (by decide) (show 53 < 71 from by decide)).trans (hdep 15 (by kernel_rfl))
                exact wpOp_val rfl rfl (v := .bool false) (w' := W) (by simp [execOp, go_sem, E53]) ⟨hIW, fun _ h => h, Or.inl ⟨_, by decide, rfl, updF_same _ _ _⟩⟩
              | 17, _, hdep =>
                have G16 : a1.tmps[54]? = some (.bool false) := by rw [← ha1]; exact (putsL_some _ _ _ _ (by decide) (show 54 < 71 from by decide)).trans (congrArg some (hdep 16 (by kernel_rfl)))
                have E8 : a1.tmps[8]?.getD undef = .int .i64 0 := by rw [← ha1]; exact (putsL_out2 _ _ _ _ (by decide)).trans rfl
                exact wpOp_valG rfl rfl (yielded_of rfl G16) (v := .int .i64 0) (w' := W) (by simp [execOp, go_sem, E8]) ⟨hIW, fun _ h => h, Or.inl ⟨_, by decide, rfl, updF_same _ _ _⟩⟩
              | 18, _, hdep =>
                have G16 : a1.tmps[54]? = some (.bool false) := by rw [← ha1]; exact (putsL_some _ _ _ _ (by decide) (show 54 < 71 from by decide)).trans (congrArg some (hdep 16 (by kernel_rfl)))
                have E55 : a1.tmps[55]?.getD undef = .int .i64 0 := by rw [← ha1]; exact (putsL_in2 _ _ _ _ (by decide) (show 55 < 71 from by decide)).trans (hdep 17 (by kernel_rfl))
                exact wpOp_valG rfl rfl (yielded_of rfl G16) (v := .bool false) (w' := W) (by simp [execOp, go_sem, E55]) ⟨hIW, fun _ h => h, Or.inl ⟨_, by decide, rfl, updF_same _ _ _⟩⟩
              | 19, _, hdep =>
                have G16 : a1.tmps[54]? = some (.bool false) := by rw [← ha1]; exact (putsL_some _ _ _ _ (by decide) (show 54 < 71 from by decide)).trans (congrArg some (hdep 16 (by kernel_rfl)))
                have E56 : a1.tmps[56]?.getD undef = .bool false := by rw [← ha1]; exact (putsL_in2 _ _ _ _ (by decide) (show 56 < 71 from by decide)).trans (hdep 18 (by kernel_rfl))
                exact wpOp_valG rfl rfl (yielded_of rfl G16) (v := .bool false) (w' := W) (by simp [execOp, go_sem, E56]) ⟨hIW, fun _ h => h, Or.inl ⟨_, by decide, rfl, updF_same _ _ _⟩⟩
              | 20, _, hdep =>
                have G19 : a1.tmps[57]? = some (.bool false) := by rw [← ha1]; exact (putsL_some _ _ _ _ (by decide) (show 57 < 71 from by decide)).trans (congrArg some (hdep 19 (by kernel_rfl)))
                exact wpOp_off rfl rfl (yielded_of rfl G19) ⟨hIW, fun _ h => h, Or.inl ⟨_, by decide, rfl, updF_same _ _ _⟩⟩
              | 21, _, hdep =>
                have G19 : a1.tmps[57]? = some (.bool false) := by rw [← ha1]; exact (putsL_some _ _ _ _ (by decide) (show 57 < 71 from by decide)).trans (congrArg some (hdep 19 (by kernel_rfl)))
                exact wpOp_off rfl rfl (yielded_of rfl G19) ⟨hIW, fun _ h => h, Or.inl ⟨_, by decide, rfl, updF_same _ _ _⟩⟩
              | 22, _, hdep =>
                have G19 : a1.tmps[57]? = some (.bool false) := by rw [← ha1]; exact (putsL_some _ _ _ _ (by decide) (show 57 < 71 from by decide)).trans (congrArg some (hdep 19 (by kernel_rfl)))
                exact wpOp_off rfl rfl (yielded_of rfl G19) ⟨hIW, fun _ h => h, Or.inl ⟨_, by decide, rfl, updF_same _ _ _⟩⟩
              | 23, _, hdep =>
                have G19 : a1.tmps[57]? = some (.bool false) := by rw [← ha1]; exact (putsL_some _ _ _ _ (by decide) (show 57 < 71 from by decide)).trans (congrArg some (hdep 19 (by kernel_rfl)))
                exact wpOp_off rfl rfl (yielded_of rfl G19) ⟨hIW, fun _ h => h, Or.inl ⟨_, by decide, rfl, updF_same _ _ _⟩⟩
              | 24, _, hdep =>
                have G19 : a1.tmps[57]? = some (.bool false) := by rw [← ha1]; exact (putsL_some _ _ _ _ (by decide) (show 57 < 71 from by decide)).trans (congrArg some (hdep 19 (by kernel_rfl)))
                exact wpOp_off rfl rfl (yielded_of rfl G19) ⟨hIW, fun _ h => h, Or.inl ⟨_, by decide, rfl, updF_same _ _ _⟩⟩
              | 25, _, hdep =>
                have G19 : a1.tmps[57]? = some (.bool false) := by rw [← ha1]; exact (putsL_some _ _ _ _ (by decide) (show 57 < 71 from by decide)).trans (congrArg some (hdep 19 (by kernel_rfl)))
                exact wpOp_off rfl rfl (yielded_of rfl G19) ⟨hIW, fun _ h => h, Or.inl ⟨_, by decide, rfl, updF_same _ _ _⟩⟩
              | 26, _, hdep =>
                have G19 : a1.tmps[57]? = some (.bool false) := by rw [← ha1]; exact (putsL_some _ _ _ _ (by decide) (show 57 < 71 from by decide)).trans (congrArg some (hdep 19 (by kernel_rfl)))
                exact wpOp_off rfl rfl (yielded_of rfl G19) ⟨hIW, fun _ h => h, Or.inl ⟨_, by decide, rfl, updF_same _ _ _⟩⟩
              | 27, _, hdep =>
                have G19 : a1.tmps[57]? = some (.bool false) := by rw [← ha1]; exact (putsL_some _ _ _ _ (by decide) (show 57 < 71 from by decide)).trans (congrArg some (hdep 19 (by kernel_rfl)))
                exact wpOp_off rfl rfl (yielded_of rfl G19) ⟨hIW, fun _ h => h, Or.inl ⟨_, by decide, rfl, updF_same _ _ _⟩⟩
              | 28, _, hdep =>
                have G19 : a1.tmps[57]? = some (.bool false) := by rw [← ha1]; exact (putsL_some _ _ _ _ (by decide) (show 57 < 71 from by decide)).trans (congrArg some (hdep 19 (by kernel_rfl)))
                exact wpOp_off rfl rfl (yielded_of rfl G19) ⟨hIW, fun _ h => h, Or.inl ⟨_, by decide, rfl, updF_same _ _ _⟩⟩
              | 29, _, hdep =>
                have G16 : a1.tmps[54]? = some (.bool false) := by rw [← ha1]; exact (putsL_some _ _ _ _ (by decide) (show 54 < 71 from by decide)).trans (congrArg some (hdep 16 (by kernel_rfl)))
                have E57 : a1.tmps[57]?.getD undef = .bool false := by rw [← ha1]; exact (putsL_in2 _ _ _ _ (by decide) (show 57 < 71 from by decide)).trans (hdep 19 (by kernel_rfl))
                exact wpOp_valG rfl rfl (yielded_of rfl G16) (v := .bool false) (w' := W) (by simp [execOp, go_sem, E57]) ⟨hIW, fun _ h => h, Or.inl ⟨_, by decide, rfl, updF_same _ _ _⟩⟩
              | 30, _, hdep =>
                have E54 : a1.tmps[54]?.getD undef = .bool false := by rw [← ha1]; exact (putsL_in2 _ _ _ _ (by decide) (show 54 < 71 from by decide)).trans (hdep 16 (by kernel_rfl))
                have E67 : a1.tmps[67]?.getD undef = .bool false := by rw [← ha1]; exact (putsL_in2 _ _ _ _ (by decide) (show 67 < 71 from by decide)).trans (hdep 29 (by kernel_rfl))
                exact wpOp_val rfl rfl (v := .bool false) (w' := W) (by simp [execOp, go_sem, E54, E67]) ⟨hIW, fun _ h => h, Or.inl ⟨_, by decide, rfl, updF_same _ _ _⟩⟩
              | iq + 31, h, _ => exact absurd h (by omega)
            case refine_2 =>
              intro f W hIW hR
              have h68 : f 68 = .bool false := hR 30 (show 30 < 31 from by decide)
              simp only [putsL, List.foldl_cons, List.foldl_nil, Act.put, List.setIfInBounds_toArray, List.set_cons_zero, List.set_cons_succ]
              go_wp2
              go_meet
              exact ⟨(by first | exact h68 | rfl), Lib.hid hIW⟩
          case rest =>
            obtain ⟨rfl, HJ10⟩ := hcut
            have HBN := Lib.hid (HJ9.out _ HJ10.out)
            clear HJ10 HJ9 HJ0 HJD HCE HCR HDB HJO egD
            go_wp2
            go_roundw
            case rel => exact ⟨1, by first | rfl | go_num, by omega, HBN⟩
            case measure => simp [RowKit.intOf]; omega
        · obtain ⟨j, rfl⟩ : ∃ j, k = j + 1 := ⟨k - 1, by omega⟩
          have hprev := HCC.out j (by omega) 2 (by omega)
          have hpm := prin_mono HG.out.ok 0 ql j
          replace hprev : w9.cell? ⟨bl, ol + j * 4 + 2, none⟩ = some (.int .i64 (srvM r 0 ql j).prin) := hprev
          rw [← HPQ.out] at hpm
          generalize (srvM r 0 ql j).prin = oq at hpm hprev
          have hpo : ¬ pq < oq := by omega
          simp only [Int.natCast_add, Int.natCast_one, Int.natCast_succ] at hyq hk0 hk1 hwk ⊢
          have hwj : IntKind.i64.wrap ((j : Int) + 1 - 1) = (j : Int) := by rw [show (j : Int) + 1 - 1 = (j : Int) by omega]; exact IntWalk.i64_in _ (by omega)
          have hwj2 : IntKind.i64.wrap (j : Int) = (j : Int) := IntWalk.i64_in _ (by omega)
          have hj0 : (0 : Int) ≤ (j : Int) := by omega
          have hj1 : (j : Int) < (m : Int) := by omega
          have hkp : (0 : Int) < (j : Int) + 1 := by omega
          clear hpm
          obtain rfl : yq = (j : Int) + 1 := by rw [hyq]; first | rfl | omega
          obtain ⟨bE, hbE⟩ : ∃ b, b = wr.heap.size := ⟨_, rfl⟩
          obtain ⟨w8, hw8⟩ : ∃ W, W = wr.alloc (.cells #[.int .i64 ((j : Int) + 1), .int .i64 tq, .int .i64 pq, .int .i64 db] 38) := ⟨_, rfl⟩
          have HE8 : Hid (w8.heap[bE]? = some (.cells #[.int .i64 ((j : Int) + 1), .int .i64 tq, .int .i64 pq, .int .i64 db] 38 (0, 0))) := Lib.hid (by rw [hw8, hbE]; exact heap_alloc_new _ _)
          have HB8 : Hid (Below w9.heap.size w9 w8) := Lib.hid (by rw [hw8]; exact HBW.out.alloc HBW.out.size _)
          clear hyq
          go_upto_region 9 with fail
          rw [← hw8, ← hbE]
          clear hw8 hbE
          obtain ⟨J, hJ⟩ : ∃ J, J = fun W : World => Below w8.heap.size w8 W := ⟨_, rfl⟩
          have HJO : Hid (∀ W, J W → Below w8.heap.size w8 W) := Lib.hid fun W hW => by rw [hJ] at hW; exact hW
          have HJI : Hid (∀ W, Below w8.heap.size w8 W → J W) := Lib.hid fun W hW => by rw [hJ]; exact hW
          have HJD : Hid (∀ W, J W → J W.drew) := Lib.hid fun W hW => HJI.out _ ((HJO.out W hW).drew)
          have HJ0 : Hid (J w8) := Lib.hid (HJI.out _ (Below.refl _ _))
          have HJ9 : Hid (∀ W, J W → Below w9.heap.size w9 W) := Lib.hid fun W hW => HB8.out.trans ((HJO.out W hW).mono HB8.out.size)
          have HCE : Hid (∀ W, J W → ∀ i, W.cell? ⟨bE, i, none⟩ = #[.int .i64 ((j : Int) + 1), .int .i64 tq, .int .i64 pq, .int .i64 db][i]?) := Lib.hid fun W hW i => obj_cell (obj_below HE8.out (HJO.out W hW)) i
          have HCR : Hid (∀ W, J W → ∀ i, W.cell? ⟨bR, i, none⟩ = #[.slice a0 n0 c0, .slice b0 m0 d0, .slice e0 k0 f0][i]?) := Lib.hid fun W hW i => obj_cell (HRG.out _ (HJ9.out W hW)).box i
          have HDB : Hid (∀ W, J W → Calls Try.prog 15 #[.agg #[.slice a0 n0 c0, .slice b0 m0 d0, .slice e0 k0 f0]] W fun e w' => e = .returned (.int .i64 db) ∧ J w') := Lib.hid fun W hW =>
            (ryDebt_ok r _ _ _ W HG.out.ok (HRG.out _ (HJ9.out W hW)).reg).mono fun e w' ⟨h1, h2⟩ => ⟨by rw [h1, HDE.out], HJI.out _ ((HJO.out W hW).trans (h2.mono (HJO.out W hW).size))⟩
          have egD := enters_of Try.func15 (by kernel_rfl) rfl
          clear hJ HJI
          have HLP : Hid (∀ W, J W → W.cell? ⟨bl, ol + j * 4 + 2, none⟩ = some (.int .i64 oq)) := Lib.hid fun W hW => ((HJ9.out W hW).cell (p := ⟨bl, ol + j * 4 + 2, none⟩) hbl).trans hprev
          go_cut [68] (fun gv wx => gv = .bool false ∧ Hid (J wx))
          case first =>
            refine wp_region_props [38, 39, 40, 41, 42, 43, 44, 45, 46, 47, 48, 49, 50, 51, 52, 53, 54, 55, 56, 57, 58, 59, 60, 61, 62, 63, 64, 65, 66, 67, 68] (slotS [38, 39, 40, 41, 42, 43, 44, 45, 46, 47, 48, 49, 50, 51, 52, 53, 54, 55, 56, 57, 58, 59, 60, 61, 62, 63, 64, 65, 66, 67, 68]) (readsS [38, 39, 40, 41, 42, 43, 44, 45, 46, 47, 48, 49, 50, 51, 52, 53, 54, 55, 56, 57, 58, 59, 60, 61, 62, 63, 64, 65, 66, 67, 68]) (RTs [38, 39, 40, 41, 42, 43, 44, 45, 46, 47, 48, 49, 50, 51, 52, 53, 54, 55, 56, 57, 58, 59, 60, 61, 62, 63, 64, 65, 66, 67, 68] [.pointer (some ⟨bE, 0, none⟩), .int .i64 ((j : Int) + 1), .int .i64 ((j : Int) + 1), .bool false, .bool false, .pointer (some ⟨bE, 3, none⟩), .int .i64 db, .agg #[.slice a0 n0 c0, .slice b0 m0 d0, .slice e0 k0 f0], .int .i64 db, .bool false, .bool false, .bool false, .pointer (some ⟨bE, 1, none⟩), .int .i64 tq, .bool false, .bool false, .bool false, .int .i64 ((j : Int) + 1), .bool true, .bool true, .pointer (some ⟨bE, 2, none⟩), .int .i64 pq, .slice (some ⟨bl, ol, none⟩) m cl, .int .i64 ((j : Int) + 1), .int .i64 (j : Int), .pointer (some ⟨bl, ol + j * 4, none⟩), .pointer (some ⟨bl, ol + j * 4 + 2, none⟩), .int .i64 oq, .bool false, .bool false, .bool false]) J (by kernel_rfl) (by kernel_rfl) (by kernel_rfl) (HJD.out _ HJ0.out) (fun j f q v W hq h => RTs.upd hq h) ?_ ?_
            case refine_1 =>
              intro iq hiq f W hIW hdep
              have hiq' : iq < 31 := hiq
              generalize ha1 : putsL _ [38, 39, 40, 41, 42, 43, 44, 45, 46, 47, 48, 49, 50, 51, 52, 53, 54, 55, 56, 57, 58, 59, 60, 61, 62, 63, 64, 65, 66, 67, 68] f = a1
              match iq, hiq', hdep with
              | 0, _, hdep =>
                have E9 : a1.tmps[9]?.getD undef = .pointer (some ⟨bE, 0, none⟩) := by rw [← ha1]; exact (putsL_out2 _ _ _ _ (by decide)).trans rfl
                exact wpOp_val rfl rfl (v := .pointer (some ⟨bE, 0, none⟩)) (w' := W) (by simp [execOp, go_sem, E9]) ⟨hIW, fun _ h => h, Or.inl ⟨_, by decide, rfl, updF_same _ _ _⟩⟩
              | 1, _, hdep =>
                have E38 : a1.tmps[38]?.getD undef = .pointer (some ⟨bE, 0, none⟩) := by rw [← ha1]; exact (putsL_in2 _ _ _ _ (by decide) (show 38 < 71 from by decide)).trans (hdep 0 (by kernel_rfl))
                have v0 : W.cell? ⟨bE, 0, none⟩ = some (.int .i64 ((j : Int) + 1)) := by simpa using HCE.out W hIW 0
                exact wpOp_val rfl rfl (v := .int .i64 ((j : Int) + 1)) (w' := W) (by simp [execOp, go_sem, E38, v0]) ⟨hIW, fun _ h => h, Or.inl ⟨_, by decide, rfl, updF_same _ _ _⟩⟩
              | 2, _, hdep =>
                have E8 : a1.tmps[8]?.getD undef = .int .i64 ((j : Int) + 1) := by rw [← ha1]; exact (putsL_out2 _ _ _ _ (by decide)).trans rfl
                exact wpOp_val rfl rfl (v := .int .i64 ((j : Int) + 1)) (w' := W) (by simp [execOp, go_sem, E8]) ⟨hIW, fun _ h => h, Or.inl ⟨_, by decide, rfl, updF_same _ _ _⟩⟩
              | 3, _, hdep =>
                have E39 : a1.tmps[39]?.getD undef = .int .i64 ((j : Int) + 1) := by rw [← ha1]; exact (putsL_in2 _ _ _ _ (by decide) (show 39 < 71 from by decide)).trans (hdep 1 (by kernel_rfl))
                have E40 : a1.tmps[40]?.getD undef = .int .i64 ((j : Int) + 1) := by rw [← ha1]; exact (putsL_in2 _ _ _ _ (by decide) (show 40 < 71 from by decide)).trans (hdep 2 (by kernel_rfl))
                exact wpOp_val rfl rfl (v := .bool false) (w' := W) (by simp [execOp, go_sem, E39, E40]) ⟨hIW, fun _ h => h, Or.inl ⟨_, by decide, rfl, updF_same _ _ _⟩⟩
              | 4, _, hdep =>
                have E41 : a1.tmps[41]?.getD undef = .bool false := by rw [← ha1]; exact (putsL_in2 _ _ _ _ (by decide) (show 41 < 71 from by decide)).trans (hdep 3 (by kernel_rfl))
                exact wpOp_val rfl rfl (v := .bool false) (w' := W) (by simp [execOp, go_sem, E41]) ⟨hIW, fun _ h => h, Or.inl ⟨_, by decide, rfl, updF_same _ _ _⟩⟩
              | 5, _, hdep =>
                have G4 : a1.tmps[42]? = some (.bool false) := by rw [← ha1]; exact (putsL_some _ _ _ _ (by decide) (show 42 < 71 from by decide)).trans (congrArg some (hdep 4 (by kernel_rfl)))
                have E9 : a1.tmps[9]?.getD undef = .pointer (some ⟨bE, 0, none⟩) := by rw [← ha1]; exact (putsL_out2 _ _ _ _ (by decide)).trans rfl
                exact wpOp_valG rfl rfl (yielded_of rfl G4) (v := .pointer (some ⟨bE, 3, none⟩)) (w' := W) (by simp [execOp, go_sem, E9]) ⟨hIW, fun _ h => h, Or.inl ⟨_, by decide, rfl, updF_same _ _ _⟩⟩
              | 6, _, hdep =>
                have G4 : a1.tmps[42]? = some (.bool false) := by rw [← ha1]; exact (putsL_some _ _ _ _ (by decide) (show 42 < 71 from by decide)).trans (congrArg some (hdep 4 (by kernel_rfl)))
                have E43 : a1.tmps[43]?.getD undef = .pointer (some ⟨bE, 3, none⟩) := by rw [← ha1]; exact (putsL_in2 _ _ _ _ (by decide) (show 43 < 71 from by decide)).trans (hdep 5 (by kernel_rfl))
                have v3 : W.cell? ⟨bE, 3, none⟩ = some (.int .i64 db) := by simpa using HCE.out W hIW 3
                exact wpOp_valG rfl rfl (yielded_of rfl G4) (v := .int .i64 db) (w' := W) (by simp [execOp, go_sem, E43, v3]) ⟨hIW, fun _ h => h, Or.inl ⟨_, by decide, rfl, updF_same _ _ _⟩⟩
              | 7, _, hdep =>
                have G4 : a1.tmps[42]? = some (.bool false) := by rw [← ha1]; exact (putsL_some _ _ _ _ (by decide) (show 42 < 71 from by decide)).trans (congrArg some (hdep 4 (by kernel_rfl)))
                have E4 : a1.tmps[4]?.getD undef = .pointer (some ⟨bR, 0, none⟩) := by rw [← ha1]; exact (putsL_out2 _ _ _ _ (by decide)).trans rfl
                have v0 : W.cell? ⟨bR, 0, none⟩ = some (.slice a0 n0 c0) := by simpa using HCR.out W hIW 0
                have v1 : W.cell? ⟨bR, 1, none⟩ = some (.slice b0 m0 d0) := by simpa using HCR.out W hIW 1
                have v2 : W.cell? ⟨bR, 2, none⟩ = some (.slice e0 k0 f0) := by simpa using HCR.out W hIW 2
                exact wpOp_valG rfl rfl (yielded_of rfl G4) (v := .agg #[.slice a0 n0 c0, .slice b0 m0 d0, .slice e0 k0 f0]) (w' := W) (by simp [execOp, go_sem, E4, v0, v1, v2]) ⟨hIW, fun _ h => h, Or.inl ⟨_, by decide, rfl, updF_same _ _ _⟩⟩
              | 8, _, hdep =>
                have G4 : a1.tmps[42]? = some (.bool false) := by rw [← ha1]; exact (putsL_some _ _ _ _ (by decide) (show 42 < 71 from by decide)).trans (congrArg some (hdep 4 (by kernel_rfl)))
                have E45 : a1.tmps[45]?.getD undef = .agg #[.slice a0 n0 c0, .slice b0 m0 d0, .slice e0 k0 f0] := by rw [← ha1]; exact (putsL_in2 _ _ _ _ (by decide) (show 45 < 71 from by decide)).trans (hdep 7 (by kernel_rfl))
                refine wpOp_callG rfl rfl (yielded_of rfl G4) (n := 15) (vs := #[.agg #[.slice a0 n0 c0, .slice b0 m0 d0, .slice e0 k0 f0]]) (by have := egD #[.agg #[.slice a0 n0 c0, .slice b0 m0 d0, .slice e0 k0 f0]] W; simp [execOp, E45, resolve, invoke, go_sem] <;> exact this) ((HDB.out W hIW).mono fun e w' h => (⟨_, h.1, rfl, h.2⟩ : ∃ v, e = .returned v ∧ (v = .int .i64 db ∧ J w'))) ?_
                rintro v w' ⟨rfl, hI'⟩
                exact ⟨hI', fun _ h => h, Or.inl ⟨_, by decide, rfl, updF_same _ _ _⟩⟩
              | 9, _, hdep =>
                have G4 : a1.tmps[42]? = some (.bool false) := by rw [← ha1]; exact (putsL_some _ _ _ _ (by decide) (show 42 < 71 from by decide)).trans (congrArg some (hdep 4 (by kernel_rfl)))
                have E44 : a1.tmps[44]?.getD undef = .int .i64 db := by rw [← ha1]; exact (putsL_in2 _ _ _ _ (by decide) (show 44 < 71 from by decide)).trans (hdep 6 (by kernel_rfl))
                have E46 : a1.tmps[46]?.getD undef = .int .i64 db := by rw [← ha1]; exact (putsL_in2 _ _ _ _ (by decide) (show 46 < 71 from by decide)).trans (hdep 8 (by kernel_rfl))
                exact wpOp_valG rfl rfl (yielded_of rfl G4) (v := .bool false) (w' := W) (by simp [execOp, go_sem, E44, E46]) ⟨hIW, fun _ h => h, Or.inl ⟨_, by decide, rfl, updF_same _ _ _⟩⟩
              | 10, _, hdep =>
                have E42 : a1.tmps[42]?.getD undef = .bool false := by rw [← ha1]; exact (putsL_in2 _ _ _ _ (by decide) (show 42 < 71 from by decide)).trans (hdep 4 (by kernel_rfl))
                have E47 : a1.tmps[47]?.getD undef = .bool false := by rw [← ha1]; exact (putsL_in2 _ _ _ _ (by decide) (show 47 < 71 from by decide)).trans (hdep 9 (by kernel_rfl))
                exact wpOp_val rfl rfl (v := .bool false) (w' := W) (by simp [execOp, go_sem, E42, E47]) ⟨hIW, fun _ h => h, Or.inl ⟨_, by decide, rfl, updF_same _ _ _⟩⟩
              | 11, _, hdep =>
                have E48 : a1.tmps[48]?.getD undef = .bool false := by rw [← ha1]; exact (putsL_in2 _ _ _ _ (by decide) (show 48 < 71 from by decide)).trans (hdep 10 (by kernel_rfl))
                exact wpOp_val rfl rfl (v := .bool false) (w' := W) (by simp [execOp, go_sem, E48]) ⟨hIW, fun _ h => h, Or.inl ⟨_, by decide, rfl, updF_same _ _ _⟩⟩
              | 12, _, hdep =>
                have G11 : a1.tmps[49]? = some (.bool false) := by rw [← ha1]; exact (putsL_some _ _ _ _ (by decide) (show 49 < 71 from by decide)).trans (congrArg some (hdep 11 (by kernel_rfl)))
                have E9 : a1.tmps[9]?.getD undef = .pointer (some ⟨bE, 0, none⟩) := by rw [← ha1]; exact (putsL_out2 _ _ _ _ (by decide)).trans rfl
                exact wpOp_valG rfl rfl (yielded_of rfl G11) (v := .pointer (some ⟨bE, 1, none⟩)) (w' := W) (by simp [execOp, go_sem, E9]) ⟨hIW, fun _ h => h, Or.inl ⟨_, by decide, rfl, updF_same _ _ _⟩⟩
              | 13, _, hdep =>
                have G11 : a1.tmps[49]? = some (.bool false) := by rw [← ha1]; exact (putsL_some _ _ _ _ (by decide) (show 49 < 71 from by decide)).trans (congrArg some (hdep 11 (by kernel_rfl)))
                have E50 : a1.tmps[50]?.getD undef = .pointer (some ⟨bE, 1, none⟩) := by rw [← ha1]; exact (putsL_in2 _ _ _ _ (by decide) (show 50 < 71 from by decide)).trans (hdep 12 (by kernel_rfl))
                have v1 : W.cell? ⟨bE, 1, none⟩ = some (.int .i64 tq) := by simpa using HCE.out W hIW 1
                exact wpOp_valG rfl rfl (yielded_of rfl G11) (v := .int .i64 tq) (w' := W) (by simp [execOp, go_sem, E50, v1]) ⟨hIW, fun _ h => h, Or.inl ⟨_, by decide, rfl, updF_same _ _ _⟩⟩
              | 14, _, hdep =>
                have G11 : a1.tmps[49]? = some (.bool false) := by rw [← ha1]; exact (putsL_some _ _ _ _ (by decide) (show 49 < 71 from by decide)).trans (congrArg some (hdep 11 (by kernel_rfl)))
                have E51 : a1.tmps[51]?.getD undef = .int .i64 tq := by rw [← ha1]; exact (putsL_in2 _ _ _ _ (by decide) (show 51 < 71 from by decide)).trans (hdep 13 (by kernel_rfl))
                exact wpOp_valG rfl rfl (yielded_of rfl G11) (v := .bool false) (w' := W) (by simp [execOp, go_sem, E51, htq]) ⟨hIW, fun _ h => h, Or.inl ⟨_, by decide, rfl, updF_same _ _ _⟩⟩
              | 15, _, hdep =>
                have E49 : a1.tmps[49]?.getD undef = .bool false := by rw [← ha1]; exact (putsL_in2 _ _ _ _ (by decide) (show 49 < 71 from by decide)).trans (hdep 11 (by kernel_rfl))
                have E52 : a1.tmps[52]?.getD undef = .bool false := by rw [← ha1]; exact (putsL_in2 _ _ _ _ (by decide) (show 52 < 71 from by decide)).trans (hdep 14 (by kernel_rfl))
                exact wpOp_val rfl rfl (v := .bool false) (w' := W) (by simp [execOp, go_sem, E49, E52]) ⟨hIW, fun _ h => h, Or.inl ⟨_, by decide, rfl, updF_same _ _ _⟩⟩
              | 16, _, hdep =>
                have E53 : a1.tmps[53]?.getD undef = .bool false := by rw [← ha1]; exact (putsL_in2 _ _ _ _ (by decide) (show 53 < 71 from by decide)).trans (hdep 15 (by kernel_rfl))
                exact wpOp_val rfl rfl (v := .bool false) (w' := W) (by simp [execOp, go_sem, E53]) ⟨hIW, fun _ h => h, Or.inl ⟨_, by decide, rfl, updF_same _ _ _⟩⟩
              | 17, _, hdep =>
                have G16 : a1.tmps[54]? = some (.bool false) := by rw [← ha1]; exact (putsL_some _ _ _ _ (by decide) (show 54 < 71 from by decide)).trans (congrArg some (hdep 16 (by kernel_rfl)))
                have E8 : a1.tmps[8]?.getD undef = .int .i64 ((j : Int) + 1) := by rw [← ha1]; exact (putsL_out2 _ _ _ _ (by decide)).trans rfl
                exact wpOp_valG rfl rfl (yielded_of rfl G16) (v := .int .i64 ((j : Int) + 1)) (w' := W) (by simp [execOp, go_sem, E8]) ⟨hIW, fun _ h => h, Or.inl ⟨_, by decide, rfl, updF_same _ _ _⟩⟩
              | 18, _, hdep =>
                have G16 : a1.tmps[54]? = some (.bool false) := by rw [← ha1]; exact (putsL_some _ _ _ _ (by decide) (show 54 < 71 from by decide)).trans (congrArg some (hdep 16 (by kernel_rfl)))
                have E55 : a1.tmps[55]?.getD undef = .int .i64 ((j : Int) + 1) := by rw [← ha1]; exact (putsL_in2 _ _ _ _ (by decide) (show 55 < 71 from by decide)).trans (hdep 17 (by kernel_rfl))
                exact wpOp_valG rfl rfl (yielded_of rfl G16) (v := .bool true) (w' := W) (by simp [execOp, go_sem, E55, hkp]) ⟨hIW, fun _ h => h, Or.inl ⟨_, by decide, rfl, updF_same _ _ _⟩⟩
              | 19, _, hdep =>
                have G16 : a1.tmps[54]? = some (.bool false) := by rw [← ha1]; exact (putsL_some _ _ _ _ (by decide) (show 54 < 71 from by decide)).trans (congrArg some (hdep 16 (by kernel_rfl)))
                have E56 : a1.tmps[56]?.getD undef = .bool true := by rw [← ha1]; exact (putsL_in2 _ _ _ _ (by decide) (show 56 < 71 from by decide)).trans (hdep 18 (by kernel_rfl))
                exact wpOp_valG rfl rfl (yielded_of rfl G16) (v := .bool true) (w' := W) (by simp [execOp, go_sem, E56]) ⟨hIW, fun _ h => h, Or.inl ⟨_, by decide, rfl, updF_same _ _ _⟩⟩
              | 20, _, hdep =>
                have G19 : a1.tmps[57]? = some (.bool true) := by rw [← ha1]; exact (putsL_some _ _ _ _ (by decide) (show 57 < 71 from by decide)).trans (congrArg some (hdep 19 (by kernel_rfl)))
                have E9 : a1.tmps[9]?.getD undef = .pointer (some ⟨bE, 0, none⟩) := by rw [← ha1]; exact (putsL_out2 _ _ _ _ (by decide)).trans rfl
                exact wpOp_valG rfl rfl (yielded_of rfl G19) (v := .pointer (some ⟨bE, 2, none⟩)) (w' := W) (by simp [execOp, go_sem, E9]) ⟨hIW, fun _ h => h, Or.inl ⟨_, by decide, rfl, updF_same _ _ _⟩⟩
              | 21, _, hdep =>
                have G19 : a1.tmps[57]? = some (.bool true) := by rw [← ha1]; exact (putsL_some _ _ _ _ (by decide) (show 57 < 71 from by decide)).trans (congrArg some (hdep 19 (by kernel_rfl)))
                have E58 : a1.tmps[58]?.getD undef = .pointer (some ⟨bE, 2, none⟩) := by rw [← ha1]; exact (putsL_in2 _ _ _ _ (by decide) (show 58 < 71 from by decide)).trans (hdep 20 (by kernel_rfl))
                have v2 : W.cell? ⟨bE, 2, none⟩ = some (.int .i64 pq) := by simpa using HCE.out W hIW 2
                exact wpOp_valG rfl rfl (yielded_of rfl G19) (v := .int .i64 pq) (w' := W) (by simp [execOp, go_sem, E58, v2]) ⟨hIW, fun _ h => h, Or.inl ⟨_, by decide, rfl, updF_same _ _ _⟩⟩
              | 22, _, hdep =>
                have G19 : a1.tmps[57]? = some (.bool true) := by rw [← ha1]; exact (putsL_some _ _ _ _ (by decide) (show 57 < 71 from by decide)).trans (congrArg some (hdep 19 (by kernel_rfl)))
                have E6 : a1.tmps[6]?.getD undef = .slice (some ⟨bl, ol, none⟩) m cl := by rw [← ha1]; exact (putsL_out2 _ _ _ _ (by decide)).trans rfl
                exact wpOp_valG rfl rfl (yielded_of rfl G19) (v := .slice (some ⟨bl, ol, none⟩) m cl) (w' := W) (by simp [execOp, go_sem, E6]) ⟨hIW, fun _ h => h, Or.inl ⟨_, by decide, rfl, updF_same _ _ _⟩⟩
              | 23, _, hdep =>
                have G19 : a1.tmps[57]? = some (.bool true) := by rw [← ha1]; exact (putsL_some _ _ _ _ (by decide) (show 57 < 71 from by decide)).trans (congrArg some (hdep 19 (by kernel_rfl)))
                have E8 : a1.tmps[8]?.getD undef = .int .i64 ((j : Int) + 1) := by rw [← ha1]; exact (putsL_out2 _ _ _ _ (by decide)).trans rfl
                exact wpOp_valG rfl rfl (yielded_of rfl G19) (v := .int .i64 ((j : Int) + 1)) (w' := W) (by simp [execOp, go_sem, E8]) ⟨hIW, fun _ h => h, Or.inl ⟨_, by decide, rfl, updF_same _ _ _⟩⟩
              | 24, _, hdep =>
                have G19 : a1.tmps[57]? = some (.bool true) := by rw [← ha1]; exact (putsL_some _ _ _ _ (by decide) (show 57 < 71 from by decide)).trans (congrArg some (hdep 19 (by kernel_rfl)))
                have E61 : a1.tmps[61]?.getD undef = .int .i64 ((j : Int) + 1) := by rw [← ha1]; exact (putsL_in2 _ _ _ _ (by decide) (show 61 < 71 from by decide)).trans (hdep 23 (by kernel_rfl))
                exact wpOp_valG rfl rfl (yielded_of rfl G19) (v := .int .i64 (j : Int)) (w' := W) (by simp [execOp, go_sem, E61, hwj, hwj2]) ⟨hIW, fun _ h => h, Or.inl ⟨_, by decide, rfl, updF_same _ _ _⟩⟩
              | 25, _, hdep =>
                have G19 : a1.tmps[57]? = some (.bool true) := by rw [← ha1]; exact (putsL_some _ _ _ _ (by decide) (show 57 < 71 from by decide)).trans (congrArg some (hdep 19 (by kernel_rfl)))
                have E60 : a1.tmps[60]?.getD undef = .slice (some ⟨bl, ol, none⟩) m cl := by rw [← ha1]; exact (putsL_in2 _ _ _ _ (by decide) (show 60 < 71 from by decide)).trans (hdep 22 (by kernel_rfl))
                have E62 : a1.tmps[62]?.getD undef = .int .i64 (j : Int) := by rw [← ha1]; exact (putsL_in2 _ _ _ _ (by decide) (show 62 < 71 from by decide)).trans (hdep 24 (by kernel_rfl))
                exact wpOp_valG rfl rfl (yielded_of rfl G19) (v := .pointer (some ⟨bl, ol + j * 4, none⟩)) (w' := W) (by simp [execOp, go_sem, E60, E62, hj0, hj1]) ⟨hIW, fun _ h => h, Or.inl ⟨_, by decide, rfl, updF_same _ _ _⟩⟩
              | 26, _, hdep =>
                have G19 : a1.tmps[57]? = some (.bool true) := by rw [← ha1]; exact (putsL_some _ _ _ _ (by decide) (show 57 < 71 from by decide)).trans (congrArg some (hdep 19 (by kernel_rfl)))
                have E63 : a1.tmps[63]?.getD undef = .pointer (some ⟨bl, ol + j * 4, none⟩) := by rw [← ha1]; exact (putsL_in2 _ _ _ _ (by decide) (show 63 < 71 from by decide)).trans (hdep 25 (by kernel_rfl))
                exact wpOp_valG rfl rfl (yielded_of rfl G19) (v := .pointer (some ⟨bl, ol + j * 4 + 2, none⟩)) (w' := W) (by simp [execOp, go_sem, E63]) ⟨hIW, fun _ h => h, Or.inl ⟨_, by decide, rfl, updF_same _ _ _⟩⟩
              | 27, _, hdep =>
                have G19 : a1.tmps[57]? = some (.bool true) := by rw [← ha1]; exact (putsL_some _ _ _ _ (by decide) (show 57 < 71 from by decide)).trans (congrArg some (hdep 19 (by kernel_rfl)))
                have E64 : a1.tmps[64]?.getD undef = .pointer (some ⟨bl, ol + j * 4 + 2, none⟩) := by rw [← ha1]; exact (putsL_in2 _ _ _ _ (by decide) (show 64 < 71 from by decide)).trans (hdep 26 (by kernel_rfl))
                have v65 := HLP.out W hIW
                exact wpOp_valG rfl rfl (yielded_of rfl G19) (v := .int .i64 oq) (w' := W) (by simp [execOp, go_sem, E64, v65]) ⟨hIW, fun _ h => h, Or.inl ⟨_, by decide, rfl, updF_same _ _ _⟩⟩
              | 28, _, hdep =>
                have G19 : a1.tmps[57]? = some (.bool true) := by rw [← ha1]; exact (putsL_some _ _ _ _ (by decide) (show 57 < 71 from by decide)).trans (congrArg some (hdep 19 (by kernel_rfl)))
                have E59 : a1.tmps[59]?.getD undef = .int .i64 pq := by rw [← ha1]; exact (putsL_in2 _ _ _ _ (by decide) (show 59 < 71 from by decide)).trans (hdep 21 (by kernel_rfl))
                have E65 : a1.tmps[65]?.getD undef = .int .i64 oq := by rw [← ha1]; exact (putsL_in2 _ _ _ _ (by decide) (show 65 < 71 from by decide)).trans (hdep 27 (by kernel_rfl))
                exact wpOp_valG rfl rfl (yielded_of rfl G19) (v := .bool false) (w' := W) (by simp [execOp, go_sem, E59, E65, hpo]) ⟨hIW, fun _ h => h, Or.inl ⟨_, by decide, rfl, updF_same _ _ _⟩⟩
              | 29, _, hdep =>
                have G16 : a1.tmps[54]? = some (.bool false) := by rw [← ha1]; exact (putsL_some _ _ _ _ (by decide) (show 54 < 71 from by decide)).trans (congrArg some (hdep 16 (by kernel_rfl)))
                have E57 : a1.tmps[57]?.getD undef = .bool true := by rw [← ha1]; exact (putsL_in2 _ _ _ _ (by decide) (show 57 < 71 from by decide)).trans (hdep 19 (by kernel_rfl))
                have E66 : a1.tmps[66]?.getD undef = .bool false := by rw [← ha1]; exact (putsL_in2 _ _ _ _ (by decide) (show 66 < 71 from by decide)).trans (hdep 28 (by kernel_rfl))
                exact wpOp_valG rfl rfl (yielded_of rfl G16) (v := .bool false) (w' := W) (by simp [execOp, go_sem, E57, E66]) ⟨hIW, fun _ h => h, Or.inl ⟨_, by decide, rfl, updF_same _ _ _⟩⟩
              | 30, _, hdep =>
                have E54 : a1.tmps[54]?.getD undef = .bool false := by rw [← ha1]; exact (putsL_in2 _ _ _ _ (by decide) (show 54 < 71 from by decide)).trans (hdep 16 (by kernel_rfl))
                have E67 : a1.tmps[67]?.getD undef = .bool false := by rw [← ha1]; exact (putsL_in2 _ _ _ _ (by decide) (show 67 < 71 from by decide)).trans (hdep 29 (by kernel_rfl))
                exact wpOp_val rfl rfl (v := .bool false) (w' := W) (by simp [execOp, go_sem, E54, E67]) ⟨hIW, fun _ h => h, Or.inl ⟨_, by decide, rfl, updF_same _ _ _⟩⟩
              | iq + 31, h, _ => exact absurd h (by omega)
            case refine_2 =>
              intro f W hIW hR
              have h68 : f 68 = .bool false := hR 30 (show 30 < 31 from by decide)
              simp only [putsL, List.foldl_cons, List.foldl_nil, Act.put, List.setIfInBounds_toArray, List.set_cons_zero, List.set_cons_succ]
              go_wp2
              go_meet
              exact ⟨(by first | exact h68 | rfl), Lib.hid hIW⟩
          case rest =>
            obtain ⟨rfl, HJ10⟩ := hcut
            have HBN := Lib.hid (HJ9.out _ HJ10.out)
            clear HJ10 HJ9 HJ0 HJD HCE HCR HDB HJO egD HLP
            go_wp2
            go_roundw
            case rel => exact ⟨j + 1 + 1, by first | rfl | go_num, by omega, HBN⟩
            case measure => simp [RowKit.intOf]; omega
      · obtain rfl : k = m := by omega
        go_wp2_with fail
        refine (HSN.out _).mono ?_
        rintro e w12 ⟨rfl, hb12⟩
        have HE := Lib.hid (HFIN.out _ (HRG.out _ (HBW.out.trans (hb12.mono HBW.out.size))).si)
        clear hb12
        go_wp2
        go_ret
        exact ⟨rfl, HE.out⟩

end Go.Proofs.Ytblidmkkbcobgaa
