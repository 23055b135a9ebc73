/- sweep.Sweep on right accounts and rules, where a sweep is possible. -/
import Derived.Test.YtoelidndnajedaaSwQ
import Derived.Test.YtoelidndnajedaaAcPo
import Derived.Test.YtoelidndnajedaaClnSub
import Derived.Test.YtoelidndnajedaaClnEnt
import Derived.Test.YtoelidndnajedaaAcL
set_option linter.unusedSimpArgs false
set_option linter.unusedVariables false
namespace Go.Proofs.Ytoelidndnajedaa
open Go.RowKit Go.Lib Go.Proofs

theorem entsAt_shape {w : World} {v : Value} {l : List Ent} (h : EntsAt w v l) : ∃ ao cap, v = .slice ao l.length cap ∧ l.length ≤ cap ∧ (0 < l.length → ∃ b o, ao = some ⟨b, o, none⟩ ∧ b < w.heap.size ∧ ∀ i, i < l.length → ∀ j, j < 6 → w.cell? ⟨b, o + i * 6 + j, none⟩ = (entAt l i).cells[j]?) := by
  obtain ⟨ao, cap, h1, h2, h3⟩ := ListAt.shape entF (ents_list.1 h)
  refine ⟨ao, cap, h1, h2, fun hp => ?_⟩
  obtain ⟨b, o, h4, h5, h6⟩ := h3 hp
  exact ⟨b, o, h4, h5, fun i hi j hj => by rw [entAt_get hi]; exact h6 i hi j hj⟩

theorem postsM_mid {a b c : Acc} {es : List Ent} {j : Nat} (hj : j < es.length) (h : postsM a es = .ok b) (hc : postsM a (es.take j) = .ok c) : ∃ d, postM c (entAt es j) = .ok d ∧ postsM a (es.take (j + 1)) = .ok d := by
  have h1 := postsM_app a (es.take j) (es.drop j)
  rw [List.take_append_drop, h, hc, List.drop_eq_getElem_cons hj] at h1
  rw [entAt_get hj]
  simp only [postsM] at h1
  cases hp : postM c es[j] with
  | error e => rw [hp] at h1; cases h1
  | ok d =>
    refine ⟨d, rfl, ?_⟩
    rw [List.take_succ_eq_append_getElem hj, postsM_snoc hc, hp]

/-- A world within Sweep: an account in a box, the result's place. -/
structure SwI (w : World) (bA bR : Nat) (a : Acc) (su en : Value) (W : World) : Prop where
  old : Below w.heap.size w W
  box : W.heap[bA]? = some (.cells #[.int .i64 a.credit, su, en] 28 (0, 0))
  res : W.heap[bR]? = some (.cells #[.int .i64 0, .slice none 0 0, .slice none 0 0] 28 (0, 0))
  subs : SubsAt W su a.subs
  ents : EntsAt W en a.ents
  lo : w.heap.size ≤ bA ∧ bA < bR
theorem SwI.below {w : World} {bA bR : Nat} {a : Acc} {su en : Value} {A B : World} (h : SwI w bA bR a su en A) (hb : Below A.heap.size A B) : SwI w bA bR a su en B :=
  ⟨h.old.trans (hb.mono h.old.size), obj_below h.box hb, obj_below h.res hb, h.subs.below hb, h.ents.below hb, h.lo⟩
theorem SwI.put {w : World} {bA bR : Nat} {a b : Acc} {x : Int} {aS aE aU aV : Option Addr} {nS nE cS cE nU cU nV cV : Nat} {A : World} (h : SwI w bA bR a (.slice aS nS cS) (.slice aE nE cE) A) (hs : SubsAt A (.slice aU nU cU) b.subs) (he : EntsAt A (.slice aV nV cV) b.ents) (hx : x = b.credit) :
    SwI w bA bR b (.slice aU nU cU) (.slice aV nV cV) (put3 A bA (.int .i64 x) (.slice aU nU cU) (.slice aV nV cV)) := by
  have hg := put3_grown A bA (.int .i64 x) (.slice aU nU cU) (.slice aV nV cV)
  have hl := lone_acc h.box
  have hlo := h.lo
  exact ⟨put3_below h.old hlo.1 _ _ _, by rw [← hx]; exact put3_at h.box rfl _ _ _, (hg.block _ (obj_lt h.res) (by simp; omega)).trans h.res, hs.keep hl hg, he.keep hl hg, hlo⟩

set_option maxRecDepth 100000 in
set_option maxHeartbeats 16000000 in
theorem swSweep_right (a b : Acc) (ks : List Kp) (su en kv : Value) (day : Int) (es : List Ent) (w : World) (h : SubsAt w su a.subs) (he : EntsAt w en a.ents) (hk : KeepsAt w kv ks) (hkl : ks.length ≤ 1000) (hp : planM a ks day = .ok es) (hpo : postsM a es = .ok b) :
    Calls Try.prog 16 #[.agg #[.int .i64 a.credit, su, en], kv, .int .i64 day] w (PostPost w (.ok b)) := by
  obtain ⟨hr, hks, hd1, hd2, h400, hes⟩ := planM_ok hp
  have hz := checkM_zero.1 hr
  have hel : es.length ≤ 400 := by rw [hes]; omega
  have HPL := Lib.hid (fun W (hW : Below w.heap.size w W) => swPlan_right a ks su en kv day es W (h.below hW) (he.below hW) (hk.below hW) hkl hp)
  obtain ⟨aS, cS, rfl, -, -⟩ := h.shape
  obtain ⟨aE, cE, rfl, -, -⟩ := entsAt_shape he
  obtain ⟨nS, hnS⟩ : ∃ n, n = a.subs.length := ⟨_, rfl⟩
  obtain ⟨nE, hnE⟩ : ∃ n, n = a.ents.length := ⟨_, rfl⟩
  obtain ⟨cr, hcr⟩ : ∃ c, c = a.credit := ⟨_, rfl⟩
  have HNS := Lib.hid hnS
  have HNE := Lib.hid hnE
  have HCR := Lib.hid hcr
  rw [← hnS] at h
  rw [← hnE] at he
  rw [← hnS, ← hnE, ← hcr] at HPL ⊢
  have HB0 := Lib.hid (below2 w (.cells #[.int .i64 cr, .slice aS nS cS, .slice aE nE cE] 28) (.cells #[.int .i64 0, .slice none 0 0, .slice none 0 0] 28))
  have HI0 : Hid (SwI w w.heap.size (w.heap.size + 1) a (.slice aS nS cS) (.slice aE nE cE) ((w.alloc (.cells #[.int .i64 cr, .slice aS nS cS, .slice aE nE cE] 28)).alloc (.cells #[.int .i64 0, .slice none 0 0, .slice none 0 0] 28))) := Lib.hid (by
    rw [hcr]
    exact ⟨below2 w _ _, alloc1_at w _ _, alloc2_at w _ _, h.below (below2 w _ _), he.below (below2 w _ _), Nat.le_refl _, by omega⟩)
  have hns20 : nS ≤ 20 := by rw [hnS]; exact hz.1
  have hne4 : nE ≤ 400 := by rw [hnE]; exact hz.2.1
  have HPO := Lib.hid hpo
  clear h he hk hkl hp hpo hr hks hd1 hd2 h400 hes hz hnS hnE hcr
  go_enter Try.func16, Try.ntmps16
  go_wp2_with fail
  refine (HPL.out _ HB0.out).mono ?_
  rintro e w1 ⟨aP, cP, rfl, hown1, hb1⟩
  have HI1 := Lib.hid (HI0.out.below hb1)
  have hpn : EntsAt w1 (.slice aP es.length cP) es := by unfold EntsAt; exact RowG.owns hown1
  obtain ⟨L, hL⟩ : ∃ L, L = es.length := ⟨_, rfl⟩
  have HL := Lib.hid hL
  rw [← hL] at hel hpn ⊢
  have HPN := Lib.hid hpn
  clear hpn hb1 hown1 HPL HB0 HI0 hL
  go_upto_region 4 with fail
  generalize w.heap.size + 1 = bR at *
  obtain ⟨bA, hbA⟩ : ∃ bA, bA = w.heap.size := ⟨_, rfl⟩
  rw [← hbA] at HI1 ⊢
  clear hbA
  obtain ⟨J, hJ⟩ : ∃ J, J = fun W : World => Below w1.heap.size w1 W := ⟨_, rfl⟩
  have HJO : Hid (∀ W, J W → Below w1.heap.size w1 W) := Lib.hid fun W hW => by rw [hJ] at hW; exact hW
  have HJI : Hid (∀ W, Below w1.heap.size w1 W → J W) := Lib.hid fun W hW => by rw [hJ]; exact hW
  have HJD : Hid (∀ W, J W → J W.drew) := Lib.hid fun W hW => HJI.out _ ((HJO.out W hW).drew)
  have HJ0 : Hid (J w1) := Lib.hid (HJI.out _ (Below.refl _ _))
  have HCL : Hid (∀ W, J W → ∀ i, W.cell? ⟨bA, i, none⟩ = #[.int .i64 cr, .slice aS nS cS, .slice aE nE cE][i]?) := Lib.hid fun W hW i => by rw [HCR.out]; exact obj_cell (HI1.out.below (HJO.out W hW)).box i
  have HFR : Hid (∀ W, J W → ∀ i, W.frozen? ⟨bA, i, none⟩ = false) := Lib.hid fun W hW i => obj_free (HI1.out.below (HJO.out W hW)).box i
  have HC1 : Hid (∀ W, J W → Calls Try.prog 51 #[.slice aS nS cS] W fun e w' => ∃ aU cU, e = .returned (.slice aU nS cU) ∧ Hid (SubsAt w' (.slice aU nS cU) a.subs) ∧ J w' ∧ Hid (Below W.heap.size W w')) := Lib.hid fun W hW => by
    refine (cloneSub_any subC subF a.subs (.slice aS nS cS) W (subs_list.1 (HI1.out.subs.below (HJO.out W hW))) (by rw [← HNS.out]; omega)).mono ?_
    rintro e w' ⟨v, rfl, ho, hb⟩
    rw [← HNS.out] at ho
    obtain ⟨ao, cap, rfl, -, -⟩ := owns_gen ho
    refine ⟨ao, cap, rfl, Lib.hid ?_, HJI.out _ ((HJO.out W hW).trans (hb.mono (HJO.out W hW).size)), Lib.hid hb⟩
    rw [HNS.out, ← cellsU_L] at ho
    unfold SubsAt
    have := RowG.owns ho
    rwa [← HNS.out] at this ⊢
  have HC2 : Hid (∀ W, J W → Calls Try.prog 52 #[.slice aE nE cE] W fun e w' => ∃ aV cV, e = .returned (.slice aV nE cV) ∧ Hid (EntsAt w' (.slice aV nE cV) a.ents) ∧ J w' ∧ Hid (Below W.heap.size W w')) := Lib.hid fun W hW => by
    refine (cloneEntry_any Ent.cells entF a.ents (.slice aE nE cE) W (ents_list.1 (HI1.out.ents.below (HJO.out W hW))) (by rw [← HNE.out]; omega)).mono ?_
    rintro e w' ⟨v, rfl, ho, hb⟩
    rw [← HNE.out] at ho
    obtain ⟨ao, cap, rfl, -, -⟩ := owns_gen ho
    refine ⟨ao, cap, rfl, Lib.hid ?_, HJI.out _ ((HJO.out W hW).trans (hb.mono (HJO.out W hW).size)), Lib.hid hb⟩
    rw [HNE.out, ← cellsN_L] at ho
    unfold EntsAt
    have := RowG.owns ho
    rwa [← HNE.out] at this ⊢
  have HEND : Hid (∀ W aU aV cU cV, J W → SubsAt W (.slice aU nS cU) a.subs → EntsAt W (.slice aV nE cV) a.ents → SwI w bA bR a (.slice aU nS cU) (.slice aV nE cV) (put3 W bA (.int .i64 cr) (.slice aU nS cU) (.slice aV nE cV)) ∧ EntsAt (put3 W bA (.int .i64 cr) (.slice aU nS cU) (.slice aV nE cV)) (.slice aP L cP) es) := Lib.hid fun W aU aV cU cV hW hs he => ⟨(HI1.out.below (HJO.out W hW)).put hs he HCR.out, (HPN.out.below (HJO.out W hW)).keep (lone_acc (HI1.out.below (HJO.out W hW)).box) (put3_grown W bA _ _ _)⟩
  clear hJ
  have egS := enters_of Try.func51 (by kernel_rfl) rfl
  have egE := enters_of Try.func52 (by kernel_rfl) rfl
  obtain ⟨P, hP⟩ : ∃ P : Nat → Value → World → Prop, P = fun j v W => match j with | 0 => (v = .pointer (some ⟨bA, 0, none⟩)) | 1 => (v = .int .i64 cr) | 2 => (v = .pointer (some ⟨bA, 1, none⟩)) | 3 => (v = .slice aS nS cS) | 4 => (∃ aU cU, v = .slice aU nS cU ∧ SubsAt W (.slice aU nS cU) a.subs) | 5 => (v = .pointer (some ⟨bA, 2, none⟩)) | 6 => (v = .slice aE nE cE) | 7 => (∃ aV cV, v = .slice aV nE cV ∧ EntsAt W (.slice aV nE cV) a.ents) | 8 => (∃ aU cU aV cV, v = .agg #[.int .i64 cr, .slice aU nS cU, .slice aV nE cV] ∧ SubsAt W (.slice aU nS cU) a.subs ∧ EntsAt W (.slice aV nE cV) a.ents) | _ => True := ⟨_, rfl⟩
  have HPI0 : Hid (∀ v W, P 0 v W ↔ (v = .pointer (some ⟨bA, 0, none⟩))) := Lib.hid fun v W => by rw [hP] <;> exact Iff.rfl
  have HPI1 : Hid (∀ v W, P 1 v W ↔ (v = .int .i64 cr)) := Lib.hid fun v W => by rw [hP] <;> exact Iff.rfl
  have HPI2 : Hid (∀ v W, P 2 v W ↔ (v = .pointer (some ⟨bA, 1, none⟩))) := Lib.hid fun v W => by rw [hP] <;> exact Iff.rfl
  have HPI3 : Hid (∀ v W, P 3 v W ↔ (v = .slice aS nS cS)) := Lib.hid fun v W => by rw [hP] <;> exact Iff.rfl
  have HPI4 : Hid (∀ v W, P 4 v W ↔ (∃ aU cU, v = .slice aU nS cU ∧ SubsAt W (.slice aU nS cU) a.subs)) := Lib.hid fun v W => by rw [hP] <;> exact Iff.rfl
  have HPI5 : Hid (∀ v W, P 5 v W ↔ (v = .pointer (some ⟨bA, 2, none⟩))) := Lib.hid fun v W => by rw [hP] <;> exact Iff.rfl
  have HPI6 : Hid (∀ v W, P 6 v W ↔ (v = .slice aE nE cE)) := Lib.hid fun v W => by rw [hP] <;> exact Iff.rfl
  have HPI7 : Hid (∀ v W, P 7 v W ↔ (∃ aV cV, v = .slice aV nE cV ∧ EntsAt W (.slice aV nE cV) a.ents)) := Lib.hid fun v W => by rw [hP] <;> exact Iff.rfl
  have HPI8 : Hid (∀ v W, P 8 v W ↔ (∃ aU cU aV cV, v = .agg #[.int .i64 cr, .slice aU nS cU, .slice aV nE cV] ∧ SubsAt W (.slice aU nS cU) a.subs ∧ EntsAt W (.slice aV nE cV) a.ents)) := Lib.hid fun v W => by rw [hP] <;> exact Iff.rfl
  have HKP : Hid (∀ (j : Nat) v W W', Below W.heap.size W W' → P j v W → P j v W') := Lib.hid (by
    rw [hP]
    intro j v W W' hb h
    match j, h with
    | 0, h => exact h
    | 1, h => exact h
    | 2, h => exact h
    | 3, h => exact h
    | 4, ⟨aU, cU, e, s0⟩ => exact ⟨aU, cU, e, s0.below hb⟩
    | 5, h => exact h
    | 6, h => exact h
    | 7, ⟨aV, cV, e, s0⟩ => exact ⟨aV, cV, e, s0.below hb⟩
    | 8, ⟨aU, cU, aV, cV, e, s0, s1⟩ => exact ⟨aU, cU, aV, cV, e, s0.below hb, s1.below hb⟩
    | j + 9, _ => trivial)
  clear hP
  go_cut [] (fun wx => ∃ aU aV cU cV, Hid (SwI w bA bR a (.slice aU nS cU) (.slice aV nE cV) wx ∧ EntsAt wx (.slice aP L cP) es))
  case first =>
    refine wp_region_last [23, 24, 25, 26, 27, 28, 29, 30, 31] (slotS [23, 24, 25, 26, 27, 28, 29, 30, 31]) (readsS [23, 24, 25, 26, 27, 28, 29, 30, 31]) (RP [23, 24, 25, 26, 27, 28, 29, 30, 31] P) J (fun _ W => ∃ aU aV cU cV, SwI w bA bR a (.slice aU nS cU) (.slice aV nE cV) W ∧ EntsAt W (.slice aP L cP) es) 9 8 rfl (by kernel_rfl) (by kernel_rfl) (by kernel_rfl) (by kernel_rfl) (HJD.out _ HJ0.out) (fun j f q v W hq h => RP.upd hq h) ?_ ?_ ?_
    case refine_1 =>
      intro iq hiq f W hIW hdep0
      have hiq' : iq < 9 := hiq
      have hdep : ∀ j, j < 9 → depB _ iq j = true → P j (f (slotS [23, 24, 25, 26, 27, 28, 29, 30, 31] j)) W := hdep0
      clear hdep0
      generalize ha1 : putsL _ [23, 24, 25, 26, 27, 28, 29, 30, 31] f = a1
      match iq, hiq', hdep with
      | 0, _, hdep0 =>
        have E3 : a1.tmps[3]?.getD undef = .pointer (some ⟨bA, 0, none⟩) := by rw [← ha1]; exact (putsL_out2 _ _ _ _ (by decide)).trans rfl
        exact wpOp_val rfl rfl (v := .pointer (some ⟨bA, 0, none⟩)) (w' := W) (by simp [execOp, go_sem, E3]) ⟨hIW, fun _ h => h, _, by decide, rfl, RP.set ((HPI0.out _ _).2 rfl)⟩
      | 1, _, hdep0 =>
        have hd0 := (HPI0.out _ _).1 (hdep0 0 (by decide) (by kernel_rfl))
        have E23 : a1.tmps[23]?.getD undef = .pointer (some ⟨bA, 0, none⟩) := by rw [← ha1]; exact (putsL_in2 _ _ _ _ (by decide) (show 23 < 50 from by decide)).trans hd0
        have v0 : W.cell? ⟨bA, 0, none⟩ = some (.int .i64 cr) := by simpa using HCL.out W hIW 0
        exact wpOp_val rfl rfl (v := .int .i64 cr) (w' := W) (by simp [execOp, go_sem, E23, v0]) ⟨hIW, fun _ h => h, _, by decide, rfl, RP.set ((HPI1.out _ _).2 rfl)⟩
      | 2, _, hdep0 =>
        have E3 : a1.tmps[3]?.getD undef = .pointer (some ⟨bA, 0, none⟩) := by rw [← ha1]; exact (putsL_out2 _ _ _ _ (by decide)).trans rfl
        exact wpOp_val rfl rfl (v := .pointer (some ⟨bA, 1, none⟩)) (w' := W) (by simp [execOp, go_sem, E3]) ⟨hIW, fun _ h => h, _, by decide, rfl, RP.set ((HPI2.out _ _).2 rfl)⟩
      | 3, _, hdep0 =>
        have hd2 := (HPI2.out _ _).1 (hdep0 2 (by decide) (by kernel_rfl))
        have E25 : a1.tmps[25]?.getD undef = .pointer (some ⟨bA, 1, none⟩) := by rw [← ha1]; exact (putsL_in2 _ _ _ _ (by decide) (show 25 < 50 from by decide)).trans hd2
        have v1 : W.cell? ⟨bA, 1, none⟩ = some (.slice aS nS cS) := by simpa using HCL.out W hIW 1
        exact wpOp_val rfl rfl (v := .slice aS nS cS) (w' := W) (by simp [execOp, go_sem, E25, v1]) ⟨hIW, fun _ h => h, _, by decide, rfl, RP.set ((HPI3.out _ _).2 rfl)⟩
      | 4, _, hdep0 =>
        have hd3 := (HPI3.out _ _).1 (hdep0 3 (by decide) (by kernel_rfl))
        have E26 : a1.tmps[26]?.getD undef = .slice aS nS cS := by rw [← ha1]; exact (putsL_in2 _ _ _ _ (by decide) (show 26 < 50 from by decide)).trans hd3
        refine wpOp_call rfl rfl (n := 51) (vs := #[.slice aS nS cS]) (by have := egS #[.slice aS nS cS] W; simp [execOp, E26, resolve, invoke, go_sem] <;> exact this) ((HC1.out W hIW).mono fun e w' hh => (by obtain ⟨aU, cU, rfl, p0, hJ', hb'⟩ := hh; exact ⟨_, rfl, (HPI4.out _ _).2 ⟨_, _, rfl, p0⟩, hJ', hb'⟩ : ∃ v, e = .returned v ∧ (P 4 v w' ∧ J w' ∧ Below W.heap.size W w'))) ?_
        rintro v w' ⟨hv, hI', hb'⟩
        exact ⟨hI', fun j h => HKP.out j _ _ _ hb' h, _, by decide, rfl, RP.set hv⟩
      | 5, _, hdep0 =>
        have E3 : a1.tmps[3]?.getD undef = .pointer (some ⟨bA, 0, none⟩) := by rw [← ha1]; exact (putsL_out2 _ _ _ _ (by decide)).trans rfl
        exact wpOp_val rfl rfl (v := .pointer (some ⟨bA, 2, none⟩)) (w' := W) (by simp [execOp, go_sem, E3]) ⟨hIW, fun _ h => h, _, by decide, rfl, RP.set ((HPI5.out _ _).2 rfl)⟩
      | 6, _, hdep0 =>
        have hd5 := (HPI5.out _ _).1 (hdep0 5 (by decide) (by kernel_rfl))
        have E28 : a1.tmps[28]?.getD undef = .pointer (some ⟨bA, 2, none⟩) := by rw [← ha1]; exact (putsL_in2 _ _ _ _ (by decide) (show 28 < 50 from by decide)).trans hd5
        have v2 : W.cell? ⟨bA, 2, none⟩ = some (.slice aE nE cE) := by simpa using HCL.out W hIW 2
        exact wpOp_val rfl rfl (v := .slice aE nE cE) (w' := W) (by simp [execOp, go_sem, E28, v2]) ⟨hIW, fun _ h => h, _, by decide, rfl, RP.set ((HPI6.out _ _).2 rfl)⟩
      | 7, _, hdep0 =>
        have hd6 := (HPI6.out _ _).1 (hdep0 6 (by decide) (by kernel_rfl))
        have E29 : a1.tmps[29]?.getD undef = .slice aE nE cE := by rw [← ha1]; exact (putsL_in2 _ _ _ _ (by decide) (show 29 < 50 from by decide)).trans hd6
        refine wpOp_call rfl rfl (n := 52) (vs := #[.slice aE nE cE]) (by have := egE #[.slice aE nE cE] W; simp [execOp, E29, resolve, invoke, go_sem] <;> exact this) ((HC2.out W hIW).mono fun e w' hh => (by obtain ⟨aV, cV, rfl, p0, hJ', hb'⟩ := hh; exact ⟨_, rfl, (HPI7.out _ _).2 ⟨_, _, rfl, p0⟩, hJ', hb'⟩ : ∃ v, e = .returned v ∧ (P 7 v w' ∧ J w' ∧ Below W.heap.size W w'))) ?_
        rintro v w' ⟨hv, hI', hb'⟩
        exact ⟨hI', fun j h => HKP.out j _ _ _ hb' h, _, by decide, rfl, RP.set hv⟩
      | 8, _, hdep0 =>
        have hd1 := (HPI1.out _ _).1 (hdep0 1 (by decide) (by kernel_rfl))
        have hd4 := (HPI4.out _ _).1 (hdep0 4 (by decide) (by kernel_rfl))
        have hd7 := (HPI7.out _ _).1 (hdep0 7 (by decide) (by kernel_rfl))
        have E24 : a1.tmps[24]?.getD undef = .int .i64 cr := by rw [← ha1]; exact (putsL_in2 _ _ _ _ (by decide) (show 24 < 50 from by decide)).trans hd1
        obtain ⟨aU, cU, q4, r4_0⟩ := hd4
        have E27 : a1.tmps[27]?.getD undef = .slice aU nS cU := by rw [← ha1]; exact (putsL_in2 _ _ _ _ (by decide) (show 27 < 50 from by decide)).trans q4
        obtain ⟨aV, cV, q7, r7_0⟩ := hd7
        have E30 : a1.tmps[30]?.getD undef = .slice aV nE cV := by rw [← ha1]; exact (putsL_in2 _ _ _ _ (by decide) (show 30 < 50 from by decide)).trans q7
        exact wpOp_val rfl rfl (v := .agg #[.int .i64 cr, .slice aU nS cU, .slice aV nE cV]) (w' := W) (by simp [execOp, go_sem, E24, E27, E30]) ⟨hIW, fun _ h => h, _, by decide, rfl, RP.set ((HPI8.out _ _).2 ⟨_, _, _, _, rfl, r4_0, r7_0⟩)⟩
      | iq + 9, h, _ => exact absurd h (by omega)
    case refine_2 =>
      intro f W hIW hdep0
      have hdep : ∀ j, j < 9 → P j (f (slotS [23, 24, 25, 26, 27, 28, 29, 30, 31] j)) W := hdep0
      clear hdep0
      generalize ha1 : putsL _ [23, 24, 25, 26, 27, 28, 29, 30, 31] f = a1
      have E3 : a1.tmps[3]?.getD undef = .pointer (some ⟨bA, 0, none⟩) := by rw [← ha1]; exact (putsL_out2 _ _ _ _ (by decide)).trans rfl
      obtain ⟨aU, cU, aV, cV, q8, r8_0, r8_1⟩ := ((HPI8.out _ _).1 (hdep 8 (by decide)))
      have E31 : a1.tmps[31]?.getD undef = .agg #[.int .i64 cr, .slice aU nS cU, .slice aV nE cV] := by rw [← ha1]; exact (putsL_in2 _ _ _ _ (by decide) (show 31 < 50 from by decide)).trans q8
      have p0 := HCL.out W hIW 0
      have p1 := HCL.out W hIW 1
      have p2 := HCL.out W hIW 2
      have f0 := HFR.out W hIW 0
      have f1 := HFR.out W hIW 1
      have f2 := HFR.out W hIW 2
      simp at p0 p1 p2
      exact wpOp_skip rfl rfl (w' := put3 W bA (.int .i64 cr) (.slice aU nS cU) (.slice aV nE cV)) (by unfold put3; simp [execOp, go_sem, E3, E31, p0, p1, p2, f0, f1, f2]) ⟨rfl, aU, aV, cU, cV, HEND.out _ _ _ _ _ hIW r8_0 r8_1⟩
    case refine_3 =>
      intro f W hIW
      simp only [putsL, List.foldl_cons, List.foldl_nil, Act.put, List.setIfInBounds_toArray, List.set_cons_zero, List.set_cons_succ]
      obtain ⟨aU, aV, cU, cV, hsw⟩ := hIW
      go_wp2
      go_meet
      exact ⟨aU, aV, cU, cV, Lib.hid hsw⟩
  case rest =>
    obtain ⟨aU0, aV0, cU0, cV0, HSW0⟩ := hcut
    have HSA : Hid (SwI w bA bR a (.slice aU0 nS cU0) (.slice aV0 nE cV0) wc) := Lib.hid HSW0.out.1
    have HPA : Hid (EntsAt wc (.slice aP L cP) es) := Lib.hid HSW0.out.2
    have hL0 : (0 : Int) ≤ (L : Int) := by omega
    clear HSW0 HEND HC1 HC2 HFR HCL HJ0 HJD HJI HJO egS egE HI1 HPN
    go_wp2
    go_loopw [9, 34] (fun ev iv wr => ∃ (j : Nat) (c : Acc) (aU aV : Option Addr) (cU cV nU nV : Nat), ev = .int .i64 0 ∧ iv = .int .i64 j ∧ j ≤ L ∧ Hid (postsM a (es.take j) = .ok c) ∧ Hid (SwI w bA bR c (.slice aU nU cU) (.slice aV nV cV) wr) ∧ Hid (EntsAt wr (.slice aP L cP) es)) (fun _ iv _ => L - (RowKit.intOf iv).toNat)
    case atStart => exact ⟨0, a, aU0, aV0, cU0, cV0, nS, nE, rfl, rfl, by omega, Lib.hid rfl, HSA, HPA⟩
    case round =>
      clear HSA HPA
      obtain ⟨j, c, aU, aV, cU, cV, nU, nV, rfl, rfl, hjL, HPC, HSW, HPN⟩ := hrel
      have hbx := HSW.out.box
      have b0 := obj_cell hbx 0
      have b1 := obj_cell hbx 1
      have b2 := obj_cell hbx 2
      simp at b0 b1 b2
      by_cases hlt : j < L
      · have hjl : j < es.length := by rw [← HL.out]; exact hlt
        obtain ⟨d, hd1, hd2⟩ := postsM_mid hjl HPO.out HPC.out
        obtain ⟨hc0, hdr, -, hdc, -, -⟩ := postM_right hd1
        have hcz := checkM_zero.1 hc0
        obtain ⟨ao, cap, h1, h2, h3⟩ := entsAt_shape HPN.out
        obtain ⟨bq, o, rfl, hb, hcc⟩ := h3 (by omega)
        injection h1 with h4 h5 h6
        subst h4 h6
        have HPT : Hid (∀ W, Below wr.heap.size wr W → Calls Try.prog 35 #[.agg #[.int .i64 c.credit, .slice aU nU cU, .slice aV nV cV], .agg (entAt es j).cells.toArray] W fun e w' => ∃ (aX aY : Option Addr) (nX cX nY cY : Nat), e = .returned (.tuple #[.agg #[.int .i64 d.credit, .slice aX nX cX, .slice aY nY cY], .int .i64 0]) ∧ SubsAt w' (.slice aX nX cX) d.subs ∧ EntsAt w' (.slice aY nY cY) d.ents ∧ Below W.heap.size W w') := Lib.hid fun W hW => by
          have g := acPost_any c (entAt es j) (.slice aU nU cU) (.slice aV nV cV) W (HSW.out.subs.below hW) (HSW.out.ents.below hW) (by omega) (by omega)
          rw [hd1] at g
          refine g.mono ?_
          rintro e w' ⟨su, en, q1, q2, q3, q4⟩
          obtain ⟨aX, cX, rfl, -, -⟩ := q2.shape
          obtain ⟨aY, cY, rfl, -, -⟩ := entsAt_shape q3
          exact ⟨aX, aY, _, cX, _, cY, q1, q2, q3, q4⟩
        have HPD := Lib.hid hd2
        have hcj := hcc j hjl
        generalize entAt es j = x at *
        obtain ⟨x0, x1, x2, x3, x4, x5⟩ := x
        have e0 := hcj 0 (by omega)
        have e1 := hcj 1 (by omega)
        have e2 := hcj 2 (by omega)
        have e3 := hcj 3 (by omega)
        have e4 := hcj 4 (by omega)
        have e5 := hcj 5 (by omega)
        simp [Ent.cells] at e0 e1 e2 e3 e4 e5 HPT
        have hj0 : (0 : Int) ≤ (j : Int) := by omega
        have hj1 : (j : Int) < (L : Int) := by omega
        have HBA := Lib.hid (below_alloc wr (.cells #[.int .i64 x0, .int .i64 x1, .int .i64 x2, .int .i64 x3, .int .i64 x4, .int .i64 x5] 38))
        have hbx2 := obj_below hbx HBA.out
        have d0 := obj_cell hbx2 0
        have d1 := obj_cell hbx2 1
        have d2 := obj_cell hbx2 2
        simp at d0 d1 d2
        clear h2 h3 h5 hcc hcj hd1 hd2 hc0 hdr hdc hcz hjl hb
        go_wp2_with fail
        refine (HPT.out _ HBA.out).mono ?_
        rintro e w7 ⟨aX, aY, nX, cX, nY, cY, rfl, hs7, he7, hb7⟩
        have hb8 := HBA.out.trans (hb7.mono HBA.out.size)
        have HS7 := Lib.hid (HSW.out.below hb8)
        have HS8 : Hid (SwI w bA bR d (.slice aX nX cX) (.slice aY nY cY) (put3 w7 bA (.int .i64 d.credit) (.slice aX nX cX) (.slice aY nY cY))) := Lib.hid (HS7.out.put hs7 he7 rfl)
        have HP8 : Hid (EntsAt (put3 w7 bA (.int .i64 d.credit) (.slice aX nX cX) (.slice aY nY cY)) (.slice (some ⟨bq, o, none⟩) L cP) es) := Lib.hid ((HPN.out.below hb8).keep (lone_acc HS7.out.box) (put3_grown w7 bA _ _ _))
        have hbx3 := HS7.out.box
        have s0 := obj_cell hbx3 0
        have s1 := obj_cell hbx3 1
        have s2 := obj_cell hbx3 2
        have f0 := obj_free hbx3 0
        have f1 := obj_free hbx3 1
        have f2 := obj_free hbx3 2
        simp at s0 s1 s2
        clear hbx hbx2 hbx3 hs7 he7 hb7 hb8 HS7 HPN HSW HPC HPT HBA b0 b1 b2 d0 d1 d2 e0 e1 e2 e3 e4 e5
        go_wp2
        go_roundw
        case rel => exact ⟨j + 1, d, aX, aY, cX, cY, nX, nY, rfl, (by first | rfl | go_num), by omega, HPD, HS8, HP8⟩
        case measure => simp [RowKit.intOf]; omega
      · obtain rfl : L = j := by omega
        have hcb : c = b := by
          have h1 := HPC.out
          rw [HL.out, List.take_length, HPO.out] at h1
          injection h1 with h1
          exact h1.symm
        subst hcb
        have hrb := HSW.out.res
        have s0 := obj_cell hrb 0
        have f0 := obj_free hrb 0
        have s1 := obj_cell hrb 1
        have f1 := obj_free hrb 1
        have s2 := obj_cell hrb 2
        have f2 := obj_free hrb 2
        simp at s0 s1 s2
        clear hrb hbx
        go_wp2
        show bodyPost Try.prog Try.f16 _ Exit.ret _ (put3 wr bR (.int .i64 c.credit) (.slice aU nU cU) (.slice aV nV cV))
        have HG := Lib.hid (put3_grown wr bR (.int .i64 c.credit) (.slice aU nU cU) (.slice aV nV cV))
        exact ret3 HSW.out.res rfl _ _ _ (fun F hF => by
          have q0 := obj_cell hF 0
          have q1 := obj_cell hF 1
          have q2 := obj_cell hF 2
          simp [results, Try.results16, go_sem, q0, q1, q2]) rfl ⟨.slice aU nU cU, .slice aV nV cV, rfl, HSW.out.subs.keep (lone_acc HSW.out.res) HG.out, HSW.out.ents.keep (lone_acc HSW.out.res) HG.out, put3_below HSW.out.old (by have := HSW.out.lo; omega) _ _ _⟩

end Go.Proofs.Ytoelidndnajedaa
