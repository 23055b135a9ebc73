/- What is due on a day is due to who holds the security at its end: for every tape. -/
import Derived.Test.YtnfllgeneehjjaaMRzR
import Derived.Test.YtnfllgeneehjjaaMCpQ
import Derived.Test.YtnfllgeneehjjaaMRyI
import Derived.Test.YtnfllgeneehjjaaMRyJ
import Derived.Test.YtnfllgeneehjjaaMRyG
import Derived.Test.YtnfllgeneehjjaaMRegInv
import Derived.Laws.StructEq
set_option linter.unusedSimpArgs false
set_option linter.unusedVariables false
set_option linter.unusedSimpArgs false
set_option linter.unusedVariables false
namespace Go.Proofs.Ytnfllgeneehjjaa
open Go.RowKit Go.Lib Go.Proofs

/-! ### The register of the statement -/
def cxR1 : Reg := ⟨[halfS], [], []⟩
def cxR2 (n : Int) : Reg := ⟨[halfS], [⟨1, 1, n⟩], [⟨1, 0, 1, 1, 0, 1, n⟩]⟩
def cxR3 (n : Int) : Reg := ⟨[halfS], [⟨1, 2, n⟩], [⟨1, 0, 1, 1, 0, 1, n⟩, ⟨2, 179, 2, 1, 1, 2, n⟩]⟩
theorem secs_cx : SecsOk [halfS] := ⟨fun s hs => by rw [List.mem_singleton] at hs; rw [hs]; exact ⟨6, 4, half_ok⟩, List.pairwise_singleton _ _, by decide⟩
theorem ok_cx1 : RegOk cxR1 := ⟨secs_cx, by decide, rfl⟩
theorem kk_of {k : Int} (h0 : 1 ≤ k) (h1 : k ≤ 9) : k = 1 ∨ k = 2 ∨ k = 3 ∨ k = 4 ∨ k = 5 ∨ k = 6 ∨ k = 7 ∨ k = 8 ∨ k = 9 := by omega
theorem ok_cx2 {k : Int} (h0 : 1 ≤ k) (h1 : k ≤ 9) : RegOk (cxR2 (1000 * k)) := by
  rcases kk_of h0 h1 with rfl | rfl | rfl | rfl | rfl | rfl | rfl | rfl | rfl <;> exact ⟨secs_cx, by decide, by decide⟩
theorem ok_cx3 {k : Int} (h0 : 1 ≤ k) (h1 : k ≤ 9) : RegOk (cxR3 (1000 * k)) := by
  rcases kk_of h0 h1 with rfl | rfl | rfl | rfl | rfl | rfl | rfl | rfl | rfl <;> exact ⟨secs_cx, by decide, by decide⟩
theorem cx_add1 {k : Int} (h0 : 1 ≤ k) (h1 : k ≤ 9) : addE cxR1 ⟨0, 0, 1, 1, 0, 1, 1000 * k⟩ = 0 := by
  unfold addE; rw [checkR_ok ok_cx1]
  rcases kk_of h0 h1 with rfl | rfl | rfl | rfl | rfl | rfl | rfl | rfl | rfl <;> decide
theorem cx_add2 {k : Int} (h0 : 1 ≤ k) (h1 : k ≤ 9) : addE (cxR2 (1000 * k)) ⟨0, 179, 2, 1, 1, 2, 1000 * k⟩ = 0 := by
  unfold addE; rw [checkR_ok (ok_cx2 h0 h1)]
  rcases kk_of h0 h1 with rfl | rfl | rfl | rfl | rfl | rfl | rfl | rfl | rfl <;> decide
theorem cx_r2 {k : Int} (h0 : 1 ≤ k) (h1 : k ≤ 9) : addV cxR1 ⟨0, 0, 1, 1, 0, 1, 1000 * k⟩ = cxR2 (1000 * k) := by
  unfold addV; rw [if_pos (cx_add1 h0 h1)]
  rcases kk_of h0 h1 with rfl | rfl | rfl | rfl | rfl | rfl | rfl | rfl | rfl <;> rfl
theorem cx_r3 {k : Int} (h0 : 1 ≤ k) (h1 : k ≤ 9) : addV (cxR2 (1000 * k)) ⟨0, 179, 2, 1, 1, 2, 1000 * k⟩ = cxR3 (1000 * k) := by
  unfold addV; rw [if_pos (cx_add2 h0 h1)]
  rcases kk_of h0 h1 with rfl | rfl | rfl | rfl | rfl | rfl | rfl | rfl | rfl <;> rfl
theorem cx_at {k : Int} (h0 : 1 ≤ k) (h1 : k ≤ 9) {D : Int} (hD : 179 ≤ D) : ∀ q, replayM (cxR3 (1000 * k)).secs [] Mv.zero (tillM D (cxR3 (1000 * k)).ms) = some q → q = [⟨1, 2, 1000 * k⟩] := fun q hq => by
  rw [tillM_all (fun m hm => by simp only [cxR3, List.mem_cons, List.mem_nil_iff, or_false] at hm; rcases hm with rfl | rfl <;> simp only <;> omega), (ok_cx3 h0 h1).run] at hq
  injection hq with hq
  exact hq.symm

set_option maxRecDepth 100000 in
set_option maxHeartbeats 16000000 in
theorem cppending_any (v : Value) (n : Nat) (w : World) (hi : IntsAt w v n w.heap.size) (hn : n ≤ 9223372036854775807) :
    Calls Try.prog 9 #[v] w fun e w' => e = .returned (.bool true) ∧ Below w.heap.size w w' := by
  have HNEW := Lib.hid (sNew_any v n w hi hn)
  have HSN := Lib.hid sane34_any
  have HHF0 := Lib.hid half34_any
  simp only [halfS, Sec.cells] at HHF0
  clear hi hn
  go_enter Try.func9, Try.ntmps9
  go_wp2_with fail
  refine (HNEW.out).mono ?_
  rintro e w1 ⟨rfl, t1, b1⟩
  obtain ⟨tb, htb⟩ : ∃ tb, tb = w.heap.size := ⟨_, rfl⟩
  rw [← htb] at t1 ⊢
  have HFIN : Hid (∀ W, SI w1 tb W → Below w.heap.size w W) := Lib.hid fun W hW => b1.grown hW.old b1.size (fun q e => by injection e with e; omega)
  have HS1 := Lib.hid (si_start t1)
  clear t1 b1 HNEW htb
  obtain ⟨bR, hbR⟩ : ∃ b, b = w1.heap.size := ⟨_, rfl⟩
  obtain ⟨w2, hw2⟩ : ∃ W, W = w1.alloc (.cells #[.slice none 0 0, .slice none 0 0, .slice none 0 0] 29) := ⟨_, rfl⟩
  have HS2 : Hid (SI w1 tb w2) := Lib.hid (by rw [hw2]; exact HS1.out.alloc _)
  have HX2 : Hid (w2.heap[bR]? = some (.cells #[.slice none 0 0, .slice none 0 0, .slice none 0 0] 29 (0, 0))) := Lib.hid (by rw [hw2, hbR]; exact heap_alloc_new _ _)
  have HNE : Hid (tb < bR ∧ w1.heap.size ≤ bR) := Lib.hid ⟨by have := HS1.out.lt; omega, by omega⟩
  go_upto_region 3 with fail
  rw [← hw2, ← hbR]
  clear hw2 hbR
  obtain ⟨I, hJ⟩ : ∃ J, J = fun W : World => Below w2.heap.size w2 W := ⟨_, rfl⟩
  have HJO : Hid (∀ W, I W → Below w2.heap.size w2 W) := Lib.hid fun W hW => by rw [hJ] at hW; exact hW
  have HJI : Hid (∀ W, Below w2.heap.size w2 W → I W) := Lib.hid fun W hW => by rw [hJ]; exact hW
  have HID : Hid (∀ W, I W → I W.drew) := Lib.hid fun W hW => HJI.out _ ((HJO.out W hW).drew)
  have HI0 : Hid (I w2) := Lib.hid (HJI.out _ (Below.refl _ _))
  have HJB : Hid (∀ W W', I W → Below W.heap.size W W' → I W') := Lib.hid fun W W' hW hb => HJI.out _ ((HJO.out W hW).trans (hb.mono (HJO.out W hW).size))
  have HBX : Hid (∀ W, I W → W.heap[bR]? = some (.cells #[.slice none 0 0, .slice none 0 0, .slice none 0 0] 29 (0, 0))) := Lib.hid fun W hW => obj_below HX2.out (HJO.out W hW)
  have HCL : Hid (∀ W, I W → ∀ j, W.cell? ⟨bR, j, none⟩ = #[.slice none 0 0, .slice none 0 0, .slice none 0 0][j]?) := Lib.hid fun W hW j => obj_cell (HBX.out W hW) j
  have HGR : Hid (∀ W W', I W → W.grownBy W' (some bR) → SI w1 tb W') := Lib.hid fun W W' hW hg => (HS2.out.below (HJO.out W hW)).grown hg (fun q e => by injection e with e; have := HNE.out.2; omega)
  have HHF : Hid (∀ W, I W → Calls Try.prog 46 #[] W fun e w' => e = .returned (.agg #[.int .i64 1, .int .i64 1, .int .i64 0, .int .i64 720, .int .i64 5000, .int .i64 6, .bool false]) ∧ I w' ∧ Below W.heap.size W w') := Lib.hid fun W hW => (HHF0.out W).mono fun e w' ⟨h1, h2⟩ => ⟨by rw [h1], HJB.out _ _ hW h2, h2⟩
  have HAD : Hid (∀ W, I W → Calls Try.prog 33 #[.agg #[.slice none 0 0, .slice none 0 0, .slice none 0 0], .agg #[.int .i64 1, .int .i64 1, .int .i64 0, .int .i64 720, .int .i64 5000, .int .i64 6, .bool false]] W fun e w' => ∃ (xX : Option Addr) (nX : Nat) (cX : Nat) (yX : Option Addr) (mX : Nat) (dX : Nat) (zX : Option Addr) (kX : Nat) (eX : Nat), e = .returned (.tuple #[.agg #[.slice xX nX cX, .slice yX mX dX, .slice zX kX eX], .int .i64 0]) ∧ RegAt w' (.slice xX nX cX) (.slice yX mX dX) (.slice zX kX eX) cxR1 ∧ I w' ∧ Below W.heap.size W w') := Lib.hid fun W hW => by
    have h := ryAdd_ok Reg.none halfS (.slice none 0 0) (.slice none 0 0) (.slice none 0 0) W ok_none ⟨6, 4, half_ok⟩ (fun t ht => by simp [Reg.none] at ht) (by decide) (none_at W)
    refine h.mono fun e w' ⟨x', y', z', h1, h2, h3⟩ => ?_
    have h2' : RegAt w' x' y' z' cxR1 := h2
    obtain ⟨xX, nX, cX, yX, mX, dX, zX, kX, eX, rfl, rfl, rfl⟩ := h2'.slices
    exact ⟨xX, nX, cX, yX, mX, dX, zX, kX, eX, h1, h2', HJB.out _ _ hW h3, h3⟩
  have egH := enters_of Try.func46 (by kernel_rfl) rfl
  have egP := enters_of Try.func33 (by kernel_rfl) rfl
  clear hJ HS1
  obtain ⟨P, hP⟩ : ∃ P : Nat → Value → World → Prop, P = fun j v W => match j with | 0 => (v = .agg #[.slice none 0 0, .slice none 0 0, .slice none 0 0]) | 1 => (v = .agg #[.int .i64 1, .int .i64 1, .int .i64 0, .int .i64 720, .int .i64 5000, .int .i64 6, .bool false]) | 2 => (∃ xX nX cX yX mX dX zX kX eX, v = .tuple #[.agg #[.slice xX nX cX, .slice yX mX dX, .slice zX kX eX], .int .i64 0] ∧ RegAt W (.slice xX nX cX) (.slice yX mX dX) (.slice zX kX eX) cxR1) | 3 => (∃ xX nX cX yX mX dX zX kX eX, v = .tuple #[.agg #[.slice xX nX cX, .slice yX mX dX, .slice zX kX eX], .int .i64 0] ∧ RegAt W (.slice xX nX cX) (.slice yX mX dX) (.slice zX kX eX) cxR1) | 4 => (∃ xX nX cX yX mX dX zX kX eX, v = .agg #[.slice xX nX cX, .slice yX mX dX, .slice zX kX eX] ∧ RegAt W (.slice xX nX cX) (.slice yX mX dX) (.slice zX kX eX) cxR1) | 5 => (v = .int .i64 0) | _ => True := ⟨_, rfl⟩
  have HPI0 : Hid (∀ v W, P 0 v W ↔ (v = .agg #[.slice none 0 0, .slice none 0 0, .slice none 0 0])) := Lib.hid fun v W => by rw [hP] <;> exact Iff.rfl
  have HPI1 : Hid (∀ v W, P 1 v W ↔ (v = .agg #[.int .i64 1, .int .i64 1, .int .i64 0, .int .i64 720, .int .i64 5000, .int .i64 6, .bool false])) := Lib.hid fun v W => by rw [hP] <;> exact Iff.rfl
  have HPI2 : Hid (∀ v W, P 2 v W ↔ (∃ xX nX cX yX mX dX zX kX eX, v = .tuple #[.agg #[.slice xX nX cX, .slice yX mX dX, .slice zX kX eX], .int .i64 0] ∧ RegAt W (.slice xX nX cX) (.slice yX mX dX) (.slice zX kX eX) cxR1)) := Lib.hid fun v W => by rw [hP] <;> exact Iff.rfl
  have HPI3 : Hid (∀ v W, P 3 v W ↔ (∃ xX nX cX yX mX dX zX kX eX, v = .tuple #[.agg #[.slice xX nX cX, .slice yX mX dX, .slice zX kX eX], .int .i64 0] ∧ RegAt W (.slice xX nX cX) (.slice yX mX dX) (.slice zX kX eX) cxR1)) := Lib.hid fun v W => by rw [hP] <;> exact Iff.rfl
  have HPI4 : Hid (∀ v W, P 4 v W ↔ (∃ xX nX cX yX mX dX zX kX eX, v = .agg #[.slice xX nX cX, .slice yX mX dX, .slice zX kX eX] ∧ RegAt W (.slice xX nX cX) (.slice yX mX dX) (.slice zX kX eX) cxR1)) := Lib.hid fun v W => by rw [hP] <;> exact Iff.rfl
  have HPI5 : Hid (∀ v W, P 5 v W ↔ (v = .int .i64 0)) := Lib.hid fun v W => by rw [hP] <;> exact Iff.rfl
  have HKP : Hid (∀ (j : Nat) v W W', Below W.heap.size W W' → P j v W → P j v W') := Lib.hid (by
    rw [hP]
    intro j v W W' hb h
    match j, h with
    | 0, h => exact h
    | 1, h => exact h
    | 2, ⟨xX, nX, cX, yX, mX, dX, zX, kX, eX, e, s0⟩ => exact ⟨xX, nX, cX, yX, mX, dX, zX, kX, eX, e, s0.below hb⟩
    | 3, ⟨xX, nX, cX, yX, mX, dX, zX, kX, eX, e, s0⟩ => exact ⟨xX, nX, cX, yX, mX, dX, zX, kX, eX, e, s0.below hb⟩
    | 4, ⟨xX, nX, cX, yX, mX, dX, zX, kX, eX, e, s0⟩ => exact ⟨xX, nX, cX, yX, mX, dX, zX, kX, eX, e, s0.below hb⟩
    | 5, h => exact h
    | 6, _ => trivial
    | j + 7, _ => trivial)
  have HKL : Hid (∀ (j : Nat) v W W' b0, Lone W b0 → W.grownBy W' (some b0) → True → P j v W → P j v W') := Lib.hid (by
    rw [hP]
    intro j v W W' b0 hl hg hke h
    match j, h with
    | 0, h => exact h
    | 1, h => exact h
    | 2, ⟨xX, nX, cX, yX, mX, dX, zX, kX, eX, e, s0⟩ => exact ⟨xX, nX, cX, yX, mX, dX, zX, kX, eX, e, s0.keepL hl hg⟩
    | 3, ⟨xX, nX, cX, yX, mX, dX, zX, kX, eX, e, s0⟩ => exact ⟨xX, nX, cX, yX, mX, dX, zX, kX, eX, e, s0.keepL hl hg⟩
    | 4, ⟨xX, nX, cX, yX, mX, dX, zX, kX, eX, e, s0⟩ => exact ⟨xX, nX, cX, yX, mX, dX, zX, kX, eX, e, s0.keepL hl hg⟩
    | 5, h => exact h
    | 6, _ => trivial
    | j + 7, _ => trivial)
  clear hP
  go_cut [] (fun wx => ∃ (xX : Option Addr) (nX : Nat) (cX : Nat) (yX : Option Addr) (mX : Nat) (dX : Nat) (zX : Option Addr) (kX : Nat) (eX : Nat), Hid (RgI w1 tb bR (.slice xX nX cX) (.slice yX mX dX) (.slice zX kX eX) cxR1 wx))
  case first =>
    refine wp_region_store [17, 18, 19, 16, 20, 21] (slotS [17, 18, 19, 16, 20, 21, 9999]) (readsS [17, 18, 19, 16, 20, 21, 9999]) (RP [17, 18, 19, 16, 20, 21, 9999] P) I (fun _ W => ∃ (xX : Option Addr) (nX : Nat) (cX : Nat) (yX : Option Addr) (mX : Nat) (dX : Nat) (zX : Option Addr) (kX : Nat) (eX : Nat), RgI w1 tb bR (.slice xX nX cX) (.slice yX mX dX) (.slice zX kX eX) cxR1 W) 6 8 [5] (by decide) (by kernel_rfl) (by kernel_rfl) (by kernel_rfl) (by kernel_rfl) (HID.out _ HI0.out) (fun j f q v W hq h => RP.upd hq h) ?_ ?_ ?_ ?_
    case refine_1 =>
      intro iq hiq hne f W hIW hdep0
      have hiq' : iq < 7 := hiq
      have hdep : ∀ j, j ≠ 6 → depB _ iq j = true → P j (f (slotS [17, 18, 19, 16, 20, 21, 9999] j)) W := hdep0
      clear hdep0
      generalize ha1 : putsL _ [17, 18, 19, 16, 20, 21] f = a1
      match iq, hiq', hne, hdep with
      | 0, _, _, hdep0 =>
        have E4 : a1.tmps[4]?.getD undef = .pointer (some ⟨bR, 0, none⟩) := by rw [← ha1]; exact (putsL_out2 _ _ _ _ (by decide)).trans rfl
        have v0 : W.cell? ⟨bR, 0, none⟩ = some (.slice none 0 0) := by simpa using HCL.out W hIW 0
        have v1 : W.cell? ⟨bR, 1, none⟩ = some (.slice none 0 0) := by simpa using HCL.out W hIW 1
        have v2 : W.cell? ⟨bR, 2, none⟩ = some (.slice none 0 0) := by simpa using HCL.out W hIW 2
        exact wpOp_val rfl rfl (v := .agg #[.slice none 0 0, .slice none 0 0, .slice none 0 0]) (w' := W) (by simp [execOp, go_sem, E4, v0, v1, v2]) ⟨hIW, fun _ h => h, _, by decide, rfl, RP.set ((HPI0.out _ _).2 rfl)⟩
      | 1, _, _, hdep0 =>
        refine wpOp_call rfl rfl (n := 46) (vs := #[]) (by have := egH #[] W; simp [execOp, go_sem, resolve, invoke, go_sem] <;> exact this) ((HHF.out W hIW).mono fun e w' hh => (by obtain ⟨rfl, hJ', hb'⟩ := hh; exact ⟨_, rfl, (HPI1.out _ _).2 rfl, hJ', hb'⟩ : ∃ v, e = .returned v ∧ (P 1 v w' ∧ I w' ∧ Below W.heap.size W w'))) ?_
        rintro v w' ⟨hv, hI', hb'⟩
        exact ⟨hI', fun j h => HKP.out j _ _ _ hb' h, _, by decide, rfl, RP.set hv⟩
      | 2, _, _, hdep0 =>
        have hd0 := (HPI0.out _ _).1 (hdep0 0 (by decide) (by kernel_rfl))
        have hd1 := (HPI1.out _ _).1 (hdep0 1 (by decide) (by kernel_rfl))
        have E17 : a1.tmps[17]?.getD undef = .agg #[.slice none 0 0, .slice none 0 0, .slice none 0 0] := by rw [← ha1]; exact (putsL_in2 _ _ _ _ (by decide) (show 17 < 84 from by decide)).trans hd0
        have E18 : a1.tmps[18]?.getD undef = .agg #[.int .i64 1, .int .i64 1, .int .i64 0, .int .i64 720, .int .i64 5000, .int .i64 6, .bool false] := by rw [← ha1]; exact (putsL_in2 _ _ _ _ (by decide) (show 18 < 84 from by decide)).trans hd1
        refine wpOp_call rfl rfl (n := 33) (vs := #[.agg #[.slice none 0 0, .slice none 0 0, .slice none 0 0], .agg #[.int .i64 1, .int .i64 1, .int .i64 0, .int .i64 720, .int .i64 5000, .int .i64 6, .bool false]]) (by have := egP #[.agg #[.slice none 0 0, .slice none 0 0, .slice none 0 0], .agg #[.int .i64 1, .int .i64 1, .int .i64 0, .int .i64 720, .int .i64 5000, .int .i64 6, .bool false]] W; simp [execOp, E17, E18, resolve, invoke, go_sem] <;> exact this) ((HAD.out W hIW).mono fun e w' hh => (by obtain ⟨xX, nX, cX, yX, mX, dX, zX, kX, eX, rfl, p0, hJ', hb'⟩ := hh; exact ⟨_, rfl, (HPI2.out _ _).2 ⟨_, _, _, _, _, _, _, _, _, rfl, p0⟩, hJ', hb'⟩ : ∃ v, e = .returned v ∧ (P 2 v w' ∧ I w' ∧ Below W.heap.size W w'))) ?_
        rintro v w' ⟨hv, hI', hb'⟩
        exact ⟨hI', fun j h => HKP.out j _ _ _ hb' h, _, by decide, rfl, RP.set hv⟩
      | 3, _, _, hdep0 =>
        have hd2 := (HPI2.out _ _).1 (hdep0 2 (by decide) (by kernel_rfl))
        obtain ⟨xX, nX, cX, yX, mX, dX, zX, kX, eX, q2, r2_0⟩ := hd2
        have E19 : a1.tmps[19]?.getD undef = .tuple #[.agg #[.slice xX nX cX, .slice yX mX dX, .slice zX kX eX], .int .i64 0] := by rw [← ha1]; exact (putsL_in2 _ _ _ _ (by decide) (show 19 < 84 from by decide)).trans q2
        exact wpOp_val rfl rfl (v := .tuple #[.agg #[.slice xX nX cX, .slice yX mX dX, .slice zX kX eX], .int .i64 0]) (w' := W) (by simp [execOp, go_sem, E19]) ⟨hIW, fun _ h => h, _, by decide, rfl, RP.set ((HPI3.out _ _).2 ⟨_, _, _, _, _, _, _, _, _, rfl, r2_0⟩)⟩
      | 4, _, _, hdep0 =>
        have hd3 := (HPI3.out _ _).1 (hdep0 3 (by decide) (by kernel_rfl))
        obtain ⟨xX, nX, cX, yX, mX, dX, zX, kX, eX, q3, r3_0⟩ := hd3
        have E16 : a1.tmps[16]?.getD undef = .tuple #[.agg #[.slice xX nX cX, .slice yX mX dX, .slice zX kX eX], .int .i64 0] := by rw [← ha1]; exact (putsL_in2 _ _ _ _ (by decide) (show 16 < 84 from by decide)).trans q3
        exact wpOp_val rfl rfl (v := .agg #[.slice xX nX cX, .slice yX mX dX, .slice zX kX eX]) (w' := W) (by simp [execOp, go_sem, E16]) ⟨hIW, fun _ h => h, _, by decide, rfl, RP.set ((HPI4.out _ _).2 ⟨_, _, _, _, _, _, _, _, _, rfl, r3_0⟩)⟩
      | 5, _, _, hdep0 =>
        have hd3 := (HPI3.out _ _).1 (hdep0 3 (by decide) (by kernel_rfl))
        obtain ⟨xX, nX, cX, yX, mX, dX, zX, kX, eX, q3, r3_0⟩ := hd3
        have E16 : a1.tmps[16]?.getD undef = .tuple #[.agg #[.slice xX nX cX, .slice yX mX dX, .slice zX kX eX], .int .i64 0] := by rw [← ha1]; exact (putsL_in2 _ _ _ _ (by decide) (show 16 < 84 from by decide)).trans q3
        exact wpOp_val rfl rfl (v := .int .i64 0) (w' := W) (by simp [execOp, go_sem, E16]) ⟨hIW, fun _ h => h, _, by decide, rfl, RP.set ((HPI5.out _ _).2 rfl)⟩
      | 6, _, hne, _ => exact absurd rfl hne
      | iq + 7, h, _, _ => exact absurd h (by omega)
    case refine_2 =>
      intro iq hiq hfr f W hI1 hdep0
      have hdep : ∀ j, j ≠ 6 → depB _ iq j = true → P j (f (slotS [17, 18, 19, 16, 20, 21, 9999] j)) W := hdep0
      clear hdep0
      generalize ha1 : putsL _ [17, 18, 19, 16, 20, 21] f = a1
      simp only [List.mem_cons, List.mem_nil_iff, or_false] at hfr
      rcases hfr with rfl
      · have hdep0 := hdep
        have hd3 := (HPI3.out _ _).1 (hdep0 3 (by decide) (by kernel_rfl))
        obtain ⟨xX, nX, cX, yX, mX, dX, zX, kX, eX, q3, r3_0⟩ := hd3
        have E16 : a1.tmps[16]?.getD undef = .tuple #[.agg #[.slice xX nX cX, .slice yX mX dX, .slice zX kX eX], .int .i64 0] := by rw [← ha1]; exact (putsL_in2 _ _ _ _ (by decide) (show 16 < 84 from by decide)).trans q3
        exact wpOp_val rfl rfl (v := .int .i64 0) (w' := W) (by simp [execOp, go_sem, E16]) ⟨rfl, _, by decide, rfl, RP.set ((HPI5.out _ _).2 rfl), hI1⟩
    case refine_3 =>
      intro f W hIW hdep0
      have hdep : ∀ j, j < 7 → j ≠ 6 → ([5] : List Nat).contains j = false → P j (f (slotS [17, 18, 19, 16, 20, 21, 9999] j)) W := hdep0
      have HRP : Hid (∀ j W', (∀ v, P j v W → P j v W') → RP [17, 18, 19, 16, 20, 21, 9999] P j f W → RP [17, 18, 19, 16, 20, 21, 9999] P j f W') := Lib.hid fun j W' h1 h2 => h1 _ h2
      clear hdep0
      generalize ha1 : putsL _ [17, 18, 19, 16, 20, 21] f = a1
      have E4 : a1.tmps[4]?.getD undef = .pointer (some ⟨bR, 0, none⟩) := by rw [← ha1]; exact (putsL_out2 _ _ _ _ (by decide)).trans rfl
      obtain ⟨xX, nX, cX, yX, mX, dX, zX, kX, eX, q4, r4_0⟩ := ((HPI4.out _ _).1 (hdep 4 (by decide) (by decide) (by decide)))
      have E20 : a1.tmps[20]?.getD undef = .agg #[.slice xX nX cX, .slice yX mX dX, .slice zX kX eX] := by rw [← ha1]; exact (putsL_in2 _ _ _ _ (by decide) (show 20 < 84 from by decide)).trans q4
      have hbx := HBX.out W hIW
      have p0 := obj_cell hbx 0
      have p1 := obj_cell hbx 1
      have p2 := obj_cell hbx 2
      have pf0 := obj_free hbx 0
      have pf1 := obj_free hbx 1
      have pf2 := obj_free hbx 2
      simp at p0 p1 p2
      have hg : W.grownBy (put3 W bR (.slice xX nX cX) (.slice yX mX dX) (.slice zX kX eX)) (some bR) := put3_grown _ _ _ _ _
      have hl := lone_reg hbx
      have hset := put3_at hbx rfl (.slice xX nX cX) (.slice yX mX dX) (.slice zX kX eX)
      exact wpOp_skip rfl rfl (w' := put3 W bR (.slice xX nX cX) (.slice yX mX dX) (.slice zX kX eX)) (by simp [execOp, go_sem, E4, E20, p0, p1, p2, pf0, pf1, pf2, put3]) ⟨rfl, ⟨xX, nX, cX, yX, mX, dX, zX, kX, eX, ⟨HGR.out W _ hIW hg, hset, r4_0.keepL hl hg, HNE.out.1, HNE.out.2⟩⟩, fun j h => HRP.out j _ (fun v h => HKL.out j v W _ bR hl hg trivial h) h⟩
    case refine_4 =>
      intro f W hI1 hR
      simp only [putsL, List.foldl_cons, List.foldl_nil, Act.put, List.setIfInBounds_toArray, List.set_cons_zero, List.set_cons_succ]
      obtain ⟨xX, nX, cX, yX, mX, dX, zX, kX, eX, hsw⟩ := hI1
      go_wp2
      go_meet
      exact ⟨xX, nX, cX, yX, mX, dX, zX, kX, eX, Lib.hid hsw⟩
  case rest =>
  obtain ⟨xX, nX, cX, yX, mX, dX, zX, kX, eX, HI⟩ := hcut
  clear HI0 HID HBX HCL HGR HHF HAD HJO HJI HJB HS2 HX2
  go_wp2_with fail
  with_reducible refine Calls.mono (range_in HI.out.si 1 9 (by omega) (by omega) (by omega)) ?_
  rintro e w4 ⟨k, rfl, k0, k1, hi4, hg4⟩
  have HI' := Lib.hid (HI.out.turn hi4.src hg4)
  clear hi4 hg4 HI
  have HI := HI'
  clear HI'
  have hwk : IntKind.i64.wrap (1000 * k) = 1000 * k := IntWalk.i64_in _ (by omega)
  obtain ⟨m, hm⟩ : ∃ m, m = 1000 * k := ⟨_, rfl⟩
  have HIS : Hid (∀ x y z W, RegAt W x y z cxR1 → Calls Try.prog 37 #[.agg #[x, y, z], .int .i64 0, .int .i64 1, .int .i64 1, .int .i64 m] W fun e w' => ∃ x' y' z', e = .returned (.tuple #[.agg #[x', y', z'], .int .i64 0]) ∧ RegAt w' x' y' z' (cxR2 m) ∧ Below W.heap.size W w') := Lib.hid fun x y z W h => by
    have h' := ryIssue_ok cxR1 x y z 0 1 1 m W ok_cx1 h
    rw [hm, cx_add1 k0 k1, cx_r2 k0 k1, ← hm] at h'
    exact h'
  have HTR : Hid (∀ x y z W, RegAt W x y z (cxR2 m) → Calls Try.prog 38 #[.agg #[x, y, z], .int .i64 179, .int .i64 1, .int .i64 1, .int .i64 2, .int .i64 m] W fun e w' => ∃ x' y' z', e = .returned (.tuple #[.agg #[x', y', z'], .int .i64 0]) ∧ RegAt w' x' y' z' (cxR3 m) ∧ Below W.heap.size W w') := Lib.hid fun x y z W h => by
    rw [hm] at h
    have h' := ryTransfer_ok (cxR2 (1000 * k)) x y z 179 1 1 2 (1000 * k) W (ok_cx2 k0 k1) h
    rw [cx_add2 k0 k1, cx_r3 k0 k1, ← hm] at h'
    exact h'
  have HP1 : Hid (∀ x y z W, RegAt W x y z (cxR3 m) → Calls Try.prog 47 #[.agg #[x, y, z], .int .i64 180] W (PendP true 180 (couponI halfS m) W)) := Lib.hid fun x y z W h => by
    rw [hm] at h ⊢
    exact cpPending_ex _ 180 _ true x y z W (ok_cx3 k0 k1) h rfl (cx_at k0 k1 (by omega)) (by omega) (by omega) ⟨by omega, by omega⟩ (by decide)
  have HP2 : Hid (∀ x y z W, RegAt W x y z (cxR3 m) → Calls Try.prog 47 #[.agg #[x, y, z], .int .i64 179] W (PendP false 179 (couponI halfS m) W)) := Lib.hid fun x y z W h => by
    rw [hm] at h ⊢
    exact cpPending_ex _ 179 _ false x y z W (ok_cx3 k0 k1) h rfl (cx_at k0 k1 (by omega)) (by omega) (by omega) ⟨by omega, by omega⟩ (by decide)
  have HCO : Hid (∀ W, Calls Try.prog 48 #[.agg halfS.cells.toArray, .int .i64 m] W fun e w' => e = .returned (.tuple #[.int .i64 (couponI halfS m), .int .i64 0]) ∧ Below W.heap.size W w') := Lib.hid fun W => cpCoupon_ok half_ok m (by omega) (by omega) W
  obtain ⟨F, hF⟩ : ∃ F, F = couponI halfS m := ⟨_, rfl⟩
  rw [← hF] at HP1 HP2 HCO
  simp only [halfS, Sec.cells] at HCO
  unfold PendP at HP1 HP2
  have HEQD : Hid (∀ W, (binOp .eql 76 (.agg #[.int .i64 180, .int .i64 1, .int .i64 2, .int .i64 1, .int .i64 F]) (.agg #[.int .i64 180, .int .i64 1, .int .i64 2, .int .i64 1, .int .i64 F])).run Try.prog W = .ok (.bool true) W) := Lib.hid fun W => by
    rw [run_eql_struct]
    simp [go_sem]
  go_upto_region 5 with fail
  rw [← hm]
  clear hm hF hwk k0 k1
  have hA := HI.out.box
  have s0 := obj_cell hA 0
  have s1 := obj_cell hA 1
  have s2 := obj_cell hA 2
  simp at s0 s1 s2
  clear hA
  go_wp2_with fail
  with_reducible refine Calls.mono (HIS.out _ _ _ _ HI.out.reg) ?_
  rintro e w5 ⟨x', y', z', rfl, hr', hb'⟩
  obtain ⟨p0, p1, p2, p3, p4, p5, p6, p7, p8, rfl, rfl, rfl⟩ := hr'.slices
  have HI2 := Lib.hid (HI.out.below hb')
  have HR2 := Lib.hid hr'
  clear hr' hb' HI s0 s1 s2
  have hA := HI2.out.box
  have s0 := obj_cell hA 0
  have s1 := obj_cell hA 1
  have s2 := obj_cell hA 2
  have sf0 := obj_free hA 0
  have sf1 := obj_free hA 1
  have sf2 := obj_free hA 2
  simp at s0 s1 s2
  have HI : Hid (RgI w1 tb bR (.slice p0 p1 p2) (.slice p3 p4 p5) (.slice p6 p7 p8) (cxR2 m) (put3 w5 bR (.slice p0 p1 p2) (.slice p3 p4 p5) (.slice p6 p7 p8))) := Lib.hid (by
    have hg := put3_grown w5 bR (.slice p0 p1 p2) (.slice p3 p4 p5) (.slice p6 p7 p8)
    exact ⟨HI2.out.si.grown hg (fun q e => by injection e with e; have := HI2.out.out; omega), put3_at hA rfl _ _ _, HR2.out.keepL (lone_reg hA) hg, HI2.out.ne, HI2.out.out⟩)
  obtain ⟨w5', hWn⟩ : ∃ W, W = put3 w5 bR (.slice p0 p1 p2) (.slice p3 p4 p5) (.slice p6 p7 p8) := ⟨_, rfl⟩
  rw [← hWn] at HI
  unfold put3 at hWn
  clear hA HI2 HR2
  go_upto_region 6 with fail
  rw [← hWn]
  clear hWn s0 s1 s2 sf0 sf1 sf2
  have hA := HI.out.box
  have s0 := obj_cell hA 0
  have s1 := obj_cell hA 1
  have s2 := obj_cell hA 2
  simp at s0 s1 s2
  clear hA
  go_wp2_with fail
  with_reducible refine Calls.mono (HTR.out _ _ _ _ HI.out.reg) ?_
  rintro e w6 ⟨x', y', z', rfl, hr', hb'⟩
  obtain ⟨q0, q1, q2, q3, q4, q5, q6, q7, q8, rfl, rfl, rfl⟩ := hr'.slices
  have HI2 := Lib.hid (HI.out.below hb')
  have HR2 := Lib.hid hr'
  clear hr' hb' HI s0 s1 s2
  have hA := HI2.out.box
  have s0 := obj_cell hA 0
  have s1 := obj_cell hA 1
  have s2 := obj_cell hA 2
  have sf0 := obj_free hA 0
  have sf1 := obj_free hA 1
  have sf2 := obj_free hA 2
  simp at s0 s1 s2
  have HI : Hid (RgI w1 tb bR (.slice q0 q1 q2) (.slice q3 q4 q5) (.slice q6 q7 q8) (cxR3 m) (put3 w6 bR (.slice q0 q1 q2) (.slice q3 q4 q5) (.slice q6 q7 q8))) := Lib.hid (by
    have hg := put3_grown w6 bR (.slice q0 q1 q2) (.slice q3 q4 q5) (.slice q6 q7 q8)
    exact ⟨HI2.out.si.grown hg (fun q e => by injection e with e; have := HI2.out.out; omega), put3_at hA rfl _ _ _, HR2.out.keepL (lone_reg hA) hg, HI2.out.ne, HI2.out.out⟩)
  obtain ⟨w6', hWn⟩ : ∃ W, W = put3 w6 bR (.slice q0 q1 q2) (.slice q3 q4 q5) (.slice q6 q7 q8) := ⟨_, rfl⟩
  rw [← hWn] at HI
  unfold put3 at hWn
  clear hA HI2 HR2
  go_upto_region 7 with fail
  rw [← hWn]
  clear hWn s0 s1 s2 sf0 sf1 sf2
  have hA := HI.out.box
  have s0 := obj_cell hA 0
  have s1 := obj_cell hA 1
  have s2 := obj_cell hA 2
  simp at s0 s1 s2
  clear hA
  go_wp2_with fail
  refine Calls.mono (HP1.out _ _ _ _ HI.out.reg) ?_
  rintro e w7 ⟨v7, rfl, hpv7, hb7⟩
  have HI7 := Lib.hid (HI.out.below hb7)
  have ho7 := hpv7.2 rfl
  obtain ⟨a7, c7, rfl, hc7, hg7⟩ := owns_gen ho7
  obtain ⟨g7, rfl⟩ : ∃ g, a7 = some ⟨g, 0, none⟩ := by
    rcases hg7 with ⟨_, h0, _⟩ | ⟨g, h0, _⟩
    · omega
    · exact ⟨g, h0⟩
  have HCD : Hid (∀ W, Below w7.heap.size w7 W → W.cell? ⟨g7, 0, none⟩ = some (.int .i64 180) ∧ W.cell? ⟨g7, 1, none⟩ = some (.int .i64 1) ∧ W.cell? ⟨g7, 2, none⟩ = some (.int .i64 2) ∧ W.cell? ⟨g7, 3, none⟩ = some (.int .i64 1) ∧ W.cell? ⟨g7, 4, none⟩ = some (.int .i64 F)) := Lib.hid fun W hW => by
    have h := fun j u hj => (ownsRow_below ho7 hW).cells (g := g7) rfl j u hj
    have h0 := h 0 _ rfl
    have h1 := h 1 _ rfl
    have h2 := h 2 _ rfl
    have h3 := h 3 _ rfl
    have h4 := h 4 _ rfl
    rw [Addr.add_lit] at h0 h1 h2 h3 h4
    exact ⟨h0, h1, h2, h3, h4⟩
  clear hpv7 hb7 ho7 hg7 HI HP1 s0 s1 s2
  have hA := HI7.out.box
  have s0 := obj_cell hA 0
  have s1 := obj_cell hA 1
  have s2 := obj_cell hA 2
  simp at s0 s1 s2
  clear hA
  go_upto_region 8 with fail
  go_wp2_with fail
  refine Calls.mono (HP2.out _ _ _ _ HI7.out.reg) ?_
  rintro e w8 ⟨v8, rfl, hpv8, hb8⟩
  obtain rfl := hpv8.1 rfl
  have HB8 := Lib.hid hb8
  have HSI := Lib.hid (HI7.out.si.below hb8)
  clear hpv8 hb8 HI7 HP2 s0 s1 s2
  go_upto_region 9 with fail
  go_wp2_with fail
  refine (HHF0.out _).mono ?_
  rintro e w9 ⟨rfl, hb9⟩
  have HB9 := Lib.hid (HB8.out.trans (hb9.mono HB8.out.size))
  have HS9 := Lib.hid (HSI.out.below hb9)
  clear hb9 HB8 HSI
  go_wp2_with fail
  refine (HCO.out _).mono ?_
  rintro e w10 ⟨rfl, hb10⟩
  have HB10 := Lib.hid (HB9.out.trans (hb10.mono HB9.out.size))
  have HS10 := Lib.hid (HS9.out.below hb10)
  obtain ⟨z0, z1, z2, z3, z4⟩ := HCD.out _ HB10.out
  have heqd := HEQD.out w10
  clear hb10 HB9 HS9
  go_wp2_with fail
  refine (HSN.out _).mono ?_
  rintro e w11 ⟨rfl, hb11⟩
  have HE := Lib.hid (HFIN.out _ (HS10.out.below hb11))
  clear hb11
  go_wp2
  go_ret
  exact ⟨rfl, HE.out⟩

end Go.Proofs.Ytnfllgeneehjjaa
