/- The chapter's example holds. -/
import Derived.Test.YtoccnindkimjdaaMG7
set_option linter.unusedSimpArgs false
set_option linter.unusedVariables false
set_option linter.unusedSimpArgs false
set_option linter.unusedVariables false
namespace Go.Proofs.Ytoccnindkimjdaa
open Go.RowKit Go.Lib Go.Proofs

theorem grown_new {w A B : World} {r : Option Nat} {b : Nat} (h : w.grownBy A r) (hg : A.grownBy B (some b)) (hb : w.heap.size ≤ b) : w.grownBy B r :=
  ⟨hg.os.trans h.os, hg.tape.trans h.tape, hg.output.trans h.output, Nat.le_trans h.size hg.size, fun k hk hne => (hg.block k (Nat.lt_of_lt_of_le hk h.size) (by simp; omega)).trans (h.block k hk hne)⟩

set_option maxRecDepth 100000 in
set_option maxHeartbeats 16000000 in
theorem sane44_true (w : World) : Calls Try.prog 13 #[] w fun e w' => e = .returned (.bool true) ∧ Below w.heap.size w w' := by
  go_enter Try.func13, Try.ntmps13
  go_upto_region 1 with fail
  go_cut [1, 2] (fun hv ev wx => ∃ (b1 : Nat) (ala apa aca : Option Addr) (nla cla npa cpa nca cca : Nat), hv = .pointer (some ⟨b1, 0, none⟩) ∧ ev = .int .i64 0 ∧ w.heap.size ≤ b1 ∧ Hid (Below w.heap.size w wx) ∧ Hid (wx.heap[b1]? = some (.cells #[.slice ala nla cla, .slice apa npa cpa, .slice aca nca cca] 31 (0, 0))) ∧ Hid (HstAt wx (.slice ala nla cla) (.slice apa npa cpa) (.slice aca nca cca) ⟨[], [], []⟩))
  case first =>
    go_wp2_with fail
    refine (rsNew_ok ldgOk_nil (by simp) (fun p hp => by simp at hp) (.slice none 0 0) w ⟨rfl, none, 0, rfl, Nat.le_refl _, Or.inl rfl⟩).mono ?_
    rintro e w1 ⟨ul, up, uc, rfl, hat, hb⟩
    obtain ⟨ala, apa, aca, cla, cpa, cca, rfl, rfl, rfl⟩ := hat.parts
    have HB := Lib.hid hb
    have HAT := Lib.hid hat
    clear hat hb
    go_wp2
    go_meet
    exact ⟨w1.heap.size, ala, apa, aca, _, cla, _, cpa, _, cca, rfl, rfl, HB.out.size, Lib.hid (HB.out.alloc HB.out.size _), Lib.hid (heap_alloc_new _ _), Lib.hid (HAT.out.below (below_alloc _ _))⟩
  case rest =>
  obtain ⟨b1, ala, apa, aca, nla, cla, npa, cpa, nca, cca, rfl, rfl, hl1, HBa, HXa, HAa⟩ := hcut
  have HL1 := Lib.hid hl1
  obtain ⟨w2, hw2⟩ : ∃ W, W = wc := ⟨_, rfl⟩
  rw [← hw2] at HBa HXa HAa ⊢
  clear hw2 hl1
  go_upto_region 2 with fail
  go_cut [3, 4] (fun av fv wx => ∃ (bA : Nat) (alb apb acb : Option Addr) (nlb clb npb cpb ncb ccb : Nat), av = .pointer (some ⟨bA, 0, none⟩) ∧ fv = .int .i64 0 ∧ Hid (bA ≠ b1) ∧ Hid (Below w.heap.size w wx) ∧ Hid (wx.heap[b1]? = some (.cells #[.slice alb nlb clb, .slice apb npb cpb, .slice acb ncb ccb] 31 (0, 0))) ∧ Hid (HstAt wx (.slice alb nlb clb) (.slice apb npb cpb) (.slice acb ncb ccb) ⟨[], [aP], []⟩) ∧ Hid (wx.heap[bA]? = some (.cells #[.int .i64 1, .int .i64 1, .int .i64 0, .int .i64 0, .int .i64 0, .int .i64 0, .int .i64 0] 40 (0, 0))))
  case first =>
    have hx := HXa.out
    have ub0 := obj_cell hx 0
    have ub1 := obj_cell hx 1
    have ub2 := obj_cell hx 2
    simp at ub0 ub1 ub2
    clear hx
    go_wp2_with fail
    refine (sn_pres1 _ _ _ _ HAa.out).mono ?_
    rintro e w3 ⟨ul, up, uc, rfl, hat, hb⟩
    obtain ⟨alb, apb, acb, clb, cpb, ccb, rfl, rfl, rfl⟩ := hat.parts
    have hx3 := obj_below HXa.out hb
    have hA : Below w3.heap.size w3 (w3.alloc (.cells #[.int .i64 0, .int .i64 0, .int .i64 0, .int .i64 0, .int .i64 0, .int .i64 0, .int .i64 0] 40)) := below_alloc _ _
    have hx4 := obj_below hx3 hA
    have hz4 : (w3.alloc (.cells #[.int .i64 0, .int .i64 0, .int .i64 0, .int .i64 0, .int .i64 0, .int .i64 0, .int .i64 0] 40)).heap[w3.heap.size]? = some (.cells #[.int .i64 0, .int .i64 0, .int .i64 0, .int .i64 0, .int .i64 0, .int .i64 0, .int .i64 0] 40 (0, 0)) := heap_alloc_new _ _
    have hg4 : (w3.alloc (.cells #[.int .i64 0, .int .i64 0, .int .i64 0, .int .i64 0, .int .i64 0, .int .i64 0, .int .i64 0] 40)).grownBy (put3 (w3.alloc (.cells #[.int .i64 0, .int .i64 0, .int .i64 0, .int .i64 0, .int .i64 0, .int .i64 0, .int .i64 0] 40)) b1 (.slice alb (([] : List Pst).length) clb) (.slice apb ([aP].length) cpb) (.slice acb (([] : List Cor).length) ccb)) (some b1) := put3_grown2 _ _ _ _ _
    have hz5 : (put3 (w3.alloc (.cells #[.int .i64 0, .int .i64 0, .int .i64 0, .int .i64 0, .int .i64 0, .int .i64 0, .int .i64 0] 40)) b1 (.slice alb (([] : List Pst).length) clb) (.slice apb ([aP].length) cpb) (.slice acb (([] : List Cor).length) ccb)).heap[w3.heap.size]? = some (.cells #[.int .i64 0, .int .i64 0, .int .i64 0, .int .i64 0, .int .i64 0, .int .i64 0, .int .i64 0] 40 (0, 0)) := box_keep hz4 hg4 (notOf_box hx4 (by decide))
    have hg5 : w3.grownBy (put7 (put3 (w3.alloc (.cells #[.int .i64 0, .int .i64 0, .int .i64 0, .int .i64 0, .int .i64 0, .int .i64 0, .int .i64 0] 40)) b1 (.slice alb (([] : List Pst).length) clb) (.slice apb ([aP].length) cpb) (.slice acb (([] : List Cor).length) ccb)) w3.heap.size (.int .i64 1) (.int .i64 1) (.int .i64 0) (.int .i64 0) (.int .i64 0) (.int .i64 0) (.int .i64 0)) (some b1) := grown_new (grown_step (World.grownBy_alloc _ _ _) hg4) (put7_grown _ _ _ _ _ _ _ _ _) (Nat.le_refl _)
    have HX9 : Hid ((put7 (put3 (w3.alloc (.cells #[.int .i64 0, .int .i64 0, .int .i64 0, .int .i64 0, .int .i64 0, .int .i64 0, .int .i64 0] 40)) b1 (.slice alb (([] : List Pst).length) clb) (.slice apb ([aP].length) cpb) (.slice acb (([] : List Cor).length) ccb)) w3.heap.size (.int .i64 1) (.int .i64 1) (.int .i64 0) (.int .i64 0) (.int .i64 0) (.int .i64 0) (.int .i64 0)).heap[b1]? = some (.cells #[.slice alb (([] : List Pst).length) clb, .slice apb ([aP].length) cpb, .slice acb (([] : List Cor).length) ccb] 31 (0, 0))) := Lib.hid (box_keep (put3_at hx4 rfl _ _ _) (put7_grown _ _ _ _ _ _ _ _ _) (notOf_box hz5 (by decide)))
    have HZ9 : Hid ((put7 (put3 (w3.alloc (.cells #[.int .i64 0, .int .i64 0, .int .i64 0, .int .i64 0, .int .i64 0, .int .i64 0, .int .i64 0] 40)) b1 (.slice alb (([] : List Pst).length) clb) (.slice apb ([aP].length) cpb) (.slice acb (([] : List Cor).length) ccb)) w3.heap.size (.int .i64 1) (.int .i64 1) (.int .i64 0) (.int .i64 0) (.int .i64 0) (.int .i64 0) (.int .i64 0)).heap[w3.heap.size]? = some (.cells #[.int .i64 1, .int .i64 1, .int .i64 0, .int .i64 0, .int .i64 0, .int .i64 0, .int .i64 0] 40 (0, 0))) := Lib.hid (put7_at hz5 rfl _ _ _ _ _ _ _)
    have HA9 := Lib.hid (hat.keep (lone_hst hx3) hg5)
    have HB9 := Lib.hid ((HBa.out.trans (hb.mono HBa.out.size)).grown hg5 (Nat.le_trans HBa.out.size hb.size) (fun j e => by injection e with e; have := HL1.out; omega))
    have HNE9 : Hid (w3.heap.size ≠ b1) := Lib.hid (by have := obj_lt hx3; omega)
    clear ub0 ub1 ub2
    have ub0 := obj_cell hx4 0
    have ub1 := obj_cell hx4 1
    have ub2 := obj_cell hx4 2
    simp at ub0 ub1 ub2
    have uf0 := obj_free hx4 0
    have uf1 := obj_free hx4 1
    have uf2 := obj_free hx4 2
    have uz0 := obj_cell hz5 0
    have uz1 := obj_cell hz5 1
    have uz2 := obj_cell hz5 2
    have uz3 := obj_cell hz5 3
    have uz4 := obj_cell hz5 4
    have uz5 := obj_cell hz5 5
    have uz6 := obj_cell hz5 6
    simp at uz0 uz1 uz2 uz3 uz4 uz5 uz6
    have ug0 := obj_free hz5 0
    have ug1 := obj_free hz5 1
    have ug2 := obj_free hz5 2
    have ug3 := obj_free hz5 3
    have ug4 := obj_free hz5 4
    have ug5 := obj_free hz5 5
    have ug6 := obj_free hz5 6
    unfold put3 at uz0 ug0 uz1 ug1 uz2 ug2 uz3 ug3 uz4 ug4 uz5 ug5 uz6 ug6
    clear hx3 hA hx4 hz4 hg4 hz5 hg5 hat hb
    go_wp2
    go_meet
    exact ⟨w3.heap.size, alb, apb, acb, _, clb, _, cpb, _, ccb, rfl, rfl, HNE9, HB9, HX9, HA9, HZ9⟩
  case rest =>
  obtain ⟨bA, alb, apb, acb, nlb, clb, npb, cpb, ncb, ccb, rfl, rfl, HNA, HBb, HXb, HAb, HZA⟩ := hcut
  obtain ⟨w4, hw4⟩ : ∃ W, W = wc := ⟨_, rfl⟩
  rw [← hw4] at HBb HXb HAb HZA ⊢
  clear hw4 HBa HXa HAa
  have HB4 := HBb
  obtain ⟨J, hJ⟩ : ∃ J, J = fun W : World => Below w4.heap.size w4 W := ⟨_, rfl⟩
  have HJO : Hid (∀ W, J W → Below w4.heap.size w4 W) := Lib.hid fun W hW => by rw [hJ] at hW; exact hW
  have HJI : Hid (∀ W, Below w4.heap.size w4 W → J W) := Lib.hid fun W hW => by rw [hJ]; exact hW
  have HJD : Hid (∀ W, J W → J W.drew) := Lib.hid fun W hW => HJI.out _ ((HJO.out W hW).drew)
  have HJA : Hid (∀ W o, J W → J (W.alloc o)) := Lib.hid fun W o hW => HJI.out _ ((HJO.out W hW).alloc (HJO.out W hW).size o)
  have HJ0 : Hid (J w4) := Lib.hid (HJI.out _ (Below.refl _ _))
  have HM0 : Hid (∀ W, J W → W.heap[b1]? = some (.cells #[.slice alb nlb clb, .slice apb npb cpb, .slice acb ncb ccb] 31 (0, 0))) := Lib.hid fun W hW => obj_below HXb.out (HJO.out W hW)
  have HM1 : Hid (∀ W, J W → ∀ j, W.cell? ⟨b1, j, none⟩ = #[.slice alb nlb clb, .slice apb npb cpb, .slice acb ncb ccb][j]?) := Lib.hid fun W hW j => obj_cell (HM0.out W hW) j
  have HFO : Hid (∀ W, J W → Calls Try.prog 30 #[] W fun e w' => ∃ sx : Sli, e = .returned (.agg #[.int .i64 1, .int .i64 800, Sli.v sx]) ∧ PstsAt w' (Sli.v sx) [fP] ∧ J w' ∧ Below W.heap.size W w') := Lib.hid fun W hW => (forgotten44_any W).mono fun e w' ⟨sx, h1, h2, h3⟩ => ⟨sx, h1, h2, HJI.out _ ((HJO.out W hW).trans (h3.mono (HJO.out W hW).size)), h3⟩
  have HCO : Hid (∀ (sx : Sli) W, J W → PstsAt W (Sli.v sx) [fP] → Calls Try.prog 17 #[.agg #[.slice alb nlb clb, .slice apb npb cpb, .slice acb ncb ccb], .agg #[.int .i64 1, .int .i64 800, Sli.v sx]] W fun e w' => ∃ (ul up uc : Value), e = .returned (.tuple #[.agg #[ul, up, uc], .int .i64 0]) ∧ HstAt w' ul up uc ⟨[], [aP], [fC]⟩ ∧ J w' ∧ Below W.heap.size W w') := Lib.hid fun sx W hW hs => (sn_cor _ _ _ sx W (HAb.out.below (HJO.out W hW)) hs).mono fun e w' ⟨ul, up, uc, h1, h2, h3⟩ => ⟨ul, up, uc, h1, h2, HJI.out _ ((HJO.out W hW).trans (h3.mono (HJO.out W hW).size)), h3⟩
  have egF := enters_of Try.func30 (by kernel_rfl) rfl
  have egC := enters_of Try.func17 (by kernel_rfl) rfl
  clear hJ
  go_upto_region 3 with fail
  obtain ⟨P, hP⟩ : ∃ P : Nat → Value → World → Prop, P = fun j v W => match j with | 0 => (v = .agg #[.slice alb nlb clb, .slice apb npb cpb, .slice acb ncb ccb]) | 1 => (∃ sx, v = .agg #[.int .i64 1, .int .i64 800, Sli.v sx] ∧ PstsAt W (Sli.v sx) [fP]) | 2 => (∃ ul up uc, v = .tuple #[.agg #[ul, up, uc], .int .i64 0] ∧ HstAt W ul up uc ⟨[], [aP], [fC]⟩) | 3 => (∃ ul up uc, v = .tuple #[.agg #[ul, up, uc], .int .i64 0] ∧ HstAt W ul up uc ⟨[], [aP], [fC]⟩) | 4 => (∃ ul up uc, v = .agg #[ul, up, uc] ∧ HstAt W ul up uc ⟨[], [aP], [fC]⟩) | 5 => (v = .int .i64 0) | _ => True := ⟨_, rfl⟩
  have HPI0 : Hid (∀ v W, P 0 v W ↔ (v = .agg #[.slice alb nlb clb, .slice apb npb cpb, .slice acb ncb ccb])) := Lib.hid fun v W => by rw [hP] <;> exact Iff.rfl
  have HPI1 : Hid (∀ v W, P 1 v W ↔ (∃ sx, v = .agg #[.int .i64 1, .int .i64 800, Sli.v sx] ∧ PstsAt W (Sli.v sx) [fP])) := Lib.hid fun v W => by rw [hP] <;> exact Iff.rfl
  have HPI2 : Hid (∀ v W, P 2 v W ↔ (∃ ul up uc, v = .tuple #[.agg #[ul, up, uc], .int .i64 0] ∧ HstAt W ul up uc ⟨[], [aP], [fC]⟩)) := Lib.hid fun v W => by rw [hP] <;> exact Iff.rfl
  have HPI3 : Hid (∀ v W, P 3 v W ↔ (∃ ul up uc, v = .tuple #[.agg #[ul, up, uc], .int .i64 0] ∧ HstAt W ul up uc ⟨[], [aP], [fC]⟩)) := Lib.hid fun v W => by rw [hP] <;> exact Iff.rfl
  have HPI4 : Hid (∀ v W, P 4 v W ↔ (∃ ul up uc, v = .agg #[ul, up, uc] ∧ HstAt W ul up uc ⟨[], [aP], [fC]⟩)) := Lib.hid fun v W => by rw [hP] <;> exact Iff.rfl
  have HPI5 : Hid (∀ v W, P 5 v W ↔ (v = .int .i64 0)) := Lib.hid fun v W => by rw [hP] <;> exact Iff.rfl
  have HKP : Hid (∀ (j : Nat) v W W', Below W.heap.size W W' → P j v W → P j v W') := Lib.hid (by
    rw [hP]
    intro j v W W' hb h
    match j, h with
    | 0, h => exact h
    | 1, ⟨sx, e, s0⟩ => exact ⟨sx, e, ListAt.below s0 hb⟩
    | 2, ⟨ul, up, uc, e, s0⟩ => exact ⟨ul, up, uc, e, s0.below hb⟩
    | 3, ⟨ul, up, uc, e, s0⟩ => exact ⟨ul, up, uc, e, s0.below hb⟩
    | 4, ⟨ul, up, uc, e, s0⟩ => exact ⟨ul, up, uc, e, s0.below hb⟩
    | 5, h => exact h
    | j + 6, _ => trivial)
  clear hP
  go_cut [5] (fun gv wx => ∃ (ale ape ace : Option Addr) (nle cle npe cpe nce cce : Nat), gv = .int .i64 0 ∧ Hid (Below w.heap.size w wx) ∧ Hid (wx.heap[b1]? = some (.cells #[.slice ale nle cle, .slice ape npe cpe, .slice ace nce cce] 31 (0, 0))) ∧ Hid (HstAt wx (.slice ale nle cle) (.slice ape npe cpe) (.slice ace nce cce) ⟨[], [aP], [fC]⟩) ∧ Hid (wx.heap[bA]? = some (.cells #[.int .i64 1, .int .i64 1, .int .i64 0, .int .i64 0, .int .i64 0, .int .i64 0, .int .i64 0] 40 (0, 0))))
  case first =>
    refine wp_region_phase [22, 23, 24, 21, 25, 26, 5] (slotS [22, 23, 24, 21, 25, 26, 9993, 5]) (readsS [22, 23, 24, 21, 25, 26, 9993, 5]) (RP [22, 23, 24, 21, 25, 26, 9993, 5] P) J (fun L f W => ∃ (ale ape ace : Option Addr) (nle cle npe cpe nce cce : Nat), Below w.heap.size w W ∧ W.heap[b1]? = some (.cells #[.slice ale nle cle, .slice ape npe cpe, .slice ace nce cce] 31 (0, 0)) ∧ HstAt W (.slice ale nle cle) (.slice ape npe cpe) (.slice ace nce cce) ⟨[], [aP], [fC]⟩ ∧ W.heap[bA]? = some (.cells #[.int .i64 1, .int .i64 1, .int .i64 0, .int .i64 0, .int .i64 0, .int .i64 0, .int .i64 0] 40 (0, 0)) ∧ (∃ (u0 u1 u2 : Value), f 21 = .tuple #[.agg #[u0, u1, u2], .int .i64 0]) ∧ (L.getD 5 false = true → f 26 = .int .i64 0) ∧ (L.getD 7 false = true → f 5 = .int .i64 0)) 6 8 [5] (show 6 < 8 from by decide) (by kernel_rfl) (by kernel_rfl) (by kernel_rfl) (by kernel_rfl) (by kernel_rfl) (HJD.out _ HJ0.out) (fun j f q v W hq h => RP.upd hq h) ?_ ?_ ?_ ?_
    case refine_1 =>
      intro iq hiq f W hIW hdep0
      have hiq' : iq < 6 := hiq
      have hdep : ∀ j, j < 6 → depB _ iq j = true → P j (f (slotS [22, 23, 24, 21, 25, 26, 9993, 5] j)) W := hdep0
      clear hdep0
      generalize ha1 : putsL _ [22, 23, 24, 21, 25, 26, 5] f = a1
      match iq, hiq', hdep with
      | 0, _, hdep0 =>
        have E1 : a1.tmps[1]?.getD undef = .pointer (some ⟨b1, 0, none⟩) := by rw [← ha1]; exact (putsL_out2 _ _ _ _ (by decide)).trans rfl
        have v0 : W.cell? ⟨b1, 0, none⟩ = some (.slice alb nlb clb) := by simpa using HM1.out W hIW 0
        have v1 : W.cell? ⟨b1, 1, none⟩ = some (.slice apb npb cpb) := by simpa using HM1.out W hIW 1
        have v2 : W.cell? ⟨b1, 2, none⟩ = some (.slice acb ncb ccb) := by simpa using HM1.out W hIW 2
        exact wpOp_val rfl rfl (v := .agg #[.slice alb nlb clb, .slice apb npb cpb, .slice acb ncb ccb]) (w' := W) (by simp [execOp, go_sem, E1, v0, v1, v2]) ⟨hIW, fun _ h => h, _, by decide, rfl, RP.set ((HPI0.out _ _).2 rfl)⟩
      | 1, _, hdep0 =>
        refine wpOp_call rfl rfl (n := 30) (vs := #[]) (by have := egF #[] W; simp [execOp, go_sem, resolve, invoke, go_sem] <;> exact this) ((HFO.out W hIW).mono fun e w' hh => (by obtain ⟨sx, rfl, p0, hJ', hb'⟩ := hh; exact ⟨_, rfl, (HPI1.out _ _).2 ⟨_, rfl, p0⟩, hJ', hb'⟩ : ∃ v, e = .returned v ∧ (P 1 v w' ∧ J w' ∧ Below W.heap.size W w'))) ?_
        rintro v w' ⟨hv, hI', hb'⟩
        exact ⟨hI', fun j h => HKP.out j _ _ _ hb' h, _, by decide, rfl, RP.set hv⟩
      | 2, _, hdep0 =>
        have hd0 := (HPI0.out _ _).1 (hdep0 0 (by decide) (by kernel_rfl))
        have hd1 := (HPI1.out _ _).1 (hdep0 1 (by decide) (by kernel_rfl))
        have E22 : a1.tmps[22]?.getD undef = .agg #[.slice alb nlb clb, .slice apb npb cpb, .slice acb ncb ccb] := by rw [← ha1]; exact (putsL_in2 _ _ _ _ (by decide) (show 22 < 82 from by decide)).trans hd0
        obtain ⟨sx, q1, r1_0⟩ := hd1
        have E23 : a1.tmps[23]?.getD undef = .agg #[.int .i64 1, .int .i64 800, Sli.v sx] := by rw [← ha1]; exact (putsL_in2 _ _ _ _ (by decide) (show 23 < 82 from by decide)).trans q1
        refine wpOp_call rfl rfl (n := 17) (vs := #[.agg #[.slice alb nlb clb, .slice apb npb cpb, .slice acb ncb ccb], .agg #[.int .i64 1, .int .i64 800, Sli.v sx]]) (by have := egC #[.agg #[.slice alb nlb clb, .slice apb npb cpb, .slice acb ncb ccb], .agg #[.int .i64 1, .int .i64 800, Sli.v sx]] W; simp [execOp, E22, E23, resolve, invoke, go_sem] <;> exact this) ((HCO.out sx W hIW r1_0).mono fun e w' hh => (by obtain ⟨ul, up, uc, rfl, p0, hJ', hb'⟩ := hh; exact ⟨_, rfl, (HPI2.out _ _).2 ⟨_, _, _, rfl, p0⟩, hJ', hb'⟩ : ∃ v, e = .returned v ∧ (P 2 v w' ∧ J w' ∧ Below W.heap.size W w'))) ?_
        rintro v w' ⟨hv, hI', hb'⟩
        exact ⟨hI', fun j h => HKP.out j _ _ _ hb' h, _, by decide, rfl, RP.set hv⟩
      | 3, _, hdep0 =>
        have hd2 := (HPI2.out _ _).1 (hdep0 2 (by decide) (by kernel_rfl))
        obtain ⟨ul, up, uc, q2, r2_0⟩ := hd2
        have E24 : a1.tmps[24]?.getD undef = .tuple #[.agg #[ul, up, uc], .int .i64 0] := by rw [← ha1]; exact (putsL_in2 _ _ _ _ (by decide) (show 24 < 82 from by decide)).trans q2
        exact wpOp_val rfl rfl (v := .tuple #[.agg #[ul, up, uc], .int .i64 0]) (w' := W) (by simp [execOp, go_sem, E24]) ⟨hIW, fun _ h => h, _, by decide, rfl, RP.set ((HPI3.out _ _).2 ⟨_, _, _, rfl, r2_0⟩)⟩
      | 4, _, hdep0 =>
        have hd3 := (HPI3.out _ _).1 (hdep0 3 (by decide) (by kernel_rfl))
        obtain ⟨ul, up, uc, q3, r3_0⟩ := hd3
        have E21 : a1.tmps[21]?.getD undef = .tuple #[.agg #[ul, up, uc], .int .i64 0] := by rw [← ha1]; exact (putsL_in2 _ _ _ _ (by decide) (show 21 < 82 from by decide)).trans q3
        exact wpOp_val rfl rfl (v := .agg #[ul, up, uc]) (w' := W) (by simp [execOp, go_sem, E21]) ⟨hIW, fun _ h => h, _, by decide, rfl, RP.set ((HPI4.out _ _).2 ⟨_, _, _, rfl, r3_0⟩)⟩
      | 5, _, hdep0 =>
        have hd3 := (HPI3.out _ _).1 (hdep0 3 (by decide) (by kernel_rfl))
        obtain ⟨ul, up, uc, q3, r3_0⟩ := hd3
        have E21 : a1.tmps[21]?.getD undef = .tuple #[.agg #[ul, up, uc], .int .i64 0] := by rw [← ha1]; exact (putsL_in2 _ _ _ _ (by decide) (show 21 < 82 from by decide)).trans q3
        exact wpOp_val rfl rfl (v := .int .i64 0) (w' := W) (by simp [execOp, go_sem, E21]) ⟨hIW, fun _ h => h, _, by decide, rfl, RP.set ((HPI5.out _ _).2 rfl)⟩
      | iq + 6, h, _ => exact absurd h (by omega)
    case refine_2 =>
      intro L f W hLs hLn hIW hR hE hLz
      have hQ : ∀ j, j < 6 → L.getD j false = true → P j (f (slotS [22, 23, 24, 21, 25, 26, 9993, 5] j)) W := hR
      clear hR
      generalize ha1 : putsL _ [22, 23, 24, 21, 25, 26, 5] f = a1
      obtain ⟨u0, u1, u2, q3, -⟩ := (HPI3.out _ _).1 (hQ 3 (by decide) (hE 3 (by decide) rfl))
      obtain ⟨ul, up, uc, q4, hat⟩ := (HPI4.out _ _).1 (hQ 4 (by decide) (hE 4 (by decide) rfl))
      have h5 : L.getD 5 false = true → f 26 = .int .i64 0 := fun h => (HPI5.out _ _).1 (hQ 5 (by decide) h)
      have h7 := hLz 7 (by decide) (show 7 < 8 from by decide)
      have hls : L.size = 8 := hLs
      have hl : ∀ j, j ≠ 6 → (L.setIfInBounds 6 true).getD j false = L.getD j false := fun j hj => by rw [flag_set _ _ _ (by omega), if_neg (fun e => hj e.symm)]
      obtain ⟨ale, ape, ace, cle, cpe, cce, rfl, rfl, rfl⟩ := hat.parts
      have E1 : a1.tmps[1]?.getD undef = .pointer (some ⟨b1, 0, none⟩) := by rw [← ha1]; exact (putsL_out2 _ _ _ _ (by decide)).trans rfl
      have E25 : a1.tmps[25]?.getD undef = .agg #[.slice ale ([] : List Pst).length cle, .slice ape [aP].length cpe, .slice ace [fC].length cce] := by rw [← ha1]; exact (putsL_in2 _ _ _ _ (by decide) (show 25 < 82 from by decide)).trans q4
      have hx := HM0.out W hIW
      have p0 := obj_cell hx 0
      have p1 := obj_cell hx 1
      have p2 := obj_cell hx 2
      have f0 := obj_free hx 0
      have f1 := obj_free hx 1
      have f2 := obj_free hx 2
      simp at p0 p1 p2
      have hg := put3_grown2 W b1 (.slice ale ([] : List Pst).length cle) (.slice ape [aP].length cpe) (.slice ace [fC].length cce)
      have hB : Below w.heap.size w W := HB4.out.trans ((HJO.out W hIW).mono HB4.out.size)
      have hba := obj_below HZA.out (HJO.out W hIW)
      have h5' : (L.setIfInBounds 6 true).getD 5 false = true → f 26 = .int .i64 0 := fun h => by rw [hl 5 (by decide)] at h; exact h5 h
      have h7' : (L.setIfInBounds 6 true).getD 7 false = true → f 5 = .int .i64 0 := fun h => by rw [hl 7 (by decide), h7] at h; cases h
      exact wpOp_skip rfl rfl (w' := put3 W b1 (.slice ale ([] : List Pst).length cle) (.slice ape [aP].length cpe) (.slice ace [fC].length cce)) (by unfold put3; simp [execOp, go_sem, E1, E25, p0, p1, p2, f0, f1, f2]) ⟨rfl, ale, ape, ace, _, cle, _, cpe, _, cce, hB.grown hg hB.size (fun j e => by injection e with e; have := HL1.out; omega), put3_at hx rfl _ _ _, hat.keep (lone_hst hx) hg, (hg.block bA (obj_lt hba) (by simp [HNA.out])).trans hba, ⟨u0, u1, u2, q3⟩, h5', h7'⟩
    case refine_3 =>
      intro i hi hor L f W hLs hK hLn hdep
      have hin : i < 8 := hi
      rcases (show i = 5 ∨ i = 7 by first | (rcases hor with hor | hor <;> first | omega | (simp at hor; omega))) with rfl | rfl
      · clear hi hor hin
        have hls : L.size = 8 := hLs
        have hl : ∀ j, j ≠ 5 → (L.setIfInBounds 5 true).getD j false = L.getD j false := fun j hj => by rw [flag_set _ _ _ (by omega), if_neg (fun e => hj e.symm)]
        generalize ha1 : putsL _ [22, 23, 24, 21, 25, 26, 5] f = a1
        obtain ⟨ale, ape, ace, nle, cle, npe, cpe, nce, cce, k1, k2, k3, k4, ⟨u0, u1, u2, h21⟩, h5, h7⟩ := hK
        have E21 : a1.tmps[21]?.getD undef = .tuple #[.agg #[u0, u1, u2], .int .i64 0] := by rw [← ha1]; exact (putsL_in2 _ _ _ _ (by decide) (show 21 < 82 from by decide)).trans h21
        exact wpOp_val rfl rfl (v := .int .i64 0) (w' := W) (by simp [execOp, go_sem, E21]) ⟨updF f 26 (.int .i64 0), by rw [← ha1]; exact putsL_put _ _ _ _ _ (by decide), ale, ape, ace, nle, cle, npe, cpe, nce, cce, k1, k2, k3, k4, ⟨u0, u1, u2, (updF_other _ _ (by decide)).trans h21⟩, (fun _ => updF_same _ _ _), (fun h => by rw [hl 7 (by decide)] at h; rw [updF_other _ _ (by decide)]; exact h7 h)⟩
      · clear hi hor hin
        have hls : L.size = 8 := hLs
        have hl : ∀ j, j ≠ 7 → (L.setIfInBounds 7 true).getD j false = L.getD j false := fun j hj => by rw [flag_set _ _ _ (by omega), if_neg (fun e => hj e.symm)]
        generalize ha1 : putsL _ [22, 23, 24, 21, 25, 26, 5] f = a1
        obtain ⟨ale, ape, ace, nle, cle, npe, cpe, nce, cce, k1, k2, k3, k4, ⟨u0, u1, u2, h21⟩, h5, h7⟩ := hK
        have h26 := h5 (hdep 5 (by kernel_rfl))
        have E26 : a1.tmps[26]?.getD undef = .int .i64 0 := by rw [← ha1]; exact (putsL_in2 _ _ _ _ (by decide) (show 26 < 82 from by decide)).trans h26
        exact wpOp_val rfl rfl (v := .int .i64 0) (w' := W) (by simp [execOp, go_sem, E26]) ⟨updF f 5 (.int .i64 0), by rw [← ha1]; exact putsL_put _ _ _ _ _ (by decide), ale, ape, ace, nle, cle, npe, cpe, nce, cce, k1, k2, k3, k4, ⟨u0, u1, u2, (updF_other _ _ (by decide)).trans h21⟩, (fun h => by rw [hl 5 (by decide)] at h; rw [updF_other _ _ (by decide)]; exact h5 h), (fun _ => updF_same _ _ _)⟩
    case refine_4 =>
      intro L f W hK hall
      simp only [putsL, List.foldl_cons, List.foldl_nil, Act.put, List.setIfInBounds_toArray, List.set_cons_zero, List.set_cons_succ]
      obtain ⟨ale, ape, ace, nle, cle, npe, cpe, nce, cce, k1, k2, k3, k4, ⟨u0, u1, u2, h21⟩, h5, h7⟩ := hK
      have h5x := h7 (hall 7 (show 7 < 8 from by decide))
      go_wp2
      go_meet
      exact ⟨ale, ape, ace, nle, cle, npe, cpe, nce, cce, (by first | exact h5x | rfl), Lib.hid k1, Lib.hid k2, Lib.hid k3, Lib.hid k4⟩
  case rest =>
  obtain ⟨ale, ape, ace, nle, cle, npe, cpe, nce, cce, rfl, HBe, HXe, HAe, HZA'⟩ := hcut
  obtain ⟨w5, hw5⟩ : ∃ W, W = wc := ⟨_, rfl⟩
  rw [← hw5] at HBe HXe HAe HZA' ⊢
  clear hw5 HBb HXb HAb HZA HFO HCO HM0 HM1 HJA HJD HJO HJI HJ0 HB4
  have HZA := HZA'
  have HNA2 := HNA
  go_upto_region 4 with fail
  go_cut [6, 7] (fun bv iv wx => ∃ (bB : Nat) (alg apg acg : Option Addr) (nlg clg npg cpg ncg ccg : Nat), bv = .pointer (some ⟨bB, 0, none⟩) ∧ iv = .int .i64 0 ∧ Hid (Below w.heap.size w wx) ∧ Hid (wx.heap[b1]? = some (.cells #[.slice alg nlg clg, .slice apg npg cpg, .slice acg ncg ccg] 31 (0, 0))) ∧ Hid (HstAt wx (.slice alg nlg clg) (.slice apg npg cpg) (.slice acg ncg ccg) ⟨[], [aP, bP], [fC]⟩) ∧ Hid (wx.heap[bA]? = some (.cells #[.int .i64 1, .int .i64 1, .int .i64 0, .int .i64 0, .int .i64 0, .int .i64 0, .int .i64 0] 40 (0, 0))) ∧ Hid (wx.heap[bB]? = some (.cells #[.int .i64 1, .int .i64 2, .int .i64 0, .int .i64 40, .int .i64 0, .int .i64 0, .int .i64 40] 40 (0, 0))))
  case first =>
    have hx := HXe.out
    have ub0 := obj_cell hx 0
    have ub1 := obj_cell hx 1
    have ub2 := obj_cell hx 2
    simp at ub0 ub1 ub2
    clear hx
    go_wp2_with fail
    refine (sn_pres2 _ _ _ _ HAe.out).mono ?_
    rintro e w6 ⟨ul, up, uc, rfl, hat, hb⟩
    obtain ⟨alg, apg, acg, clg, cpg, ccg, rfl, rfl, rfl⟩ := hat.parts
    have hx3 := obj_below HXe.out hb
    have hA : Below w6.heap.size w6 (w6.alloc (.cells #[.int .i64 0, .int .i64 0, .int .i64 0, .int .i64 0, .int .i64 0, .int .i64 0, .int .i64 0] 40)) := below_alloc _ _
    have hx4 := obj_below hx3 hA
    have hz4 : (w6.alloc (.cells #[.int .i64 0, .int .i64 0, .int .i64 0, .int .i64 0, .int .i64 0, .int .i64 0, .int .i64 0] 40)).heap[w6.heap.size]? = some (.cells #[.int .i64 0, .int .i64 0, .int .i64 0, .int .i64 0, .int .i64 0, .int .i64 0, .int .i64 0] 40 (0, 0)) := heap_alloc_new _ _
    have hg4 : (w6.alloc (.cells #[.int .i64 0, .int .i64 0, .int .i64 0, .int .i64 0, .int .i64 0, .int .i64 0, .int .i64 0] 40)).grownBy (put3 (w6.alloc (.cells #[.int .i64 0, .int .i64 0, .int .i64 0, .int .i64 0, .int .i64 0, .int .i64 0, .int .i64 0] 40)) b1 (.slice alg (([] : List Pst).length) clg) (.slice apg ([aP, bP].length) cpg) (.slice acg ([fC].length) ccg)) (some b1) := put3_grown2 _ _ _ _ _
    have hz5 : (put3 (w6.alloc (.cells #[.int .i64 0, .int .i64 0, .int .i64 0, .int .i64 0, .int .i64 0, .int .i64 0, .int .i64 0] 40)) b1 (.slice alg (([] : List Pst).length) clg) (.slice apg ([aP, bP].length) cpg) (.slice acg ([fC].length) ccg)).heap[w6.heap.size]? = some (.cells #[.int .i64 0, .int .i64 0, .int .i64 0, .int .i64 0, .int .i64 0, .int .i64 0, .int .i64 0] 40 (0, 0)) := box_keep hz4 hg4 (notOf_box hx4 (by decide))
    have hg5 : w6.grownBy (put7 (put3 (w6.alloc (.cells #[.int .i64 0, .int .i64 0, .int .i64 0, .int .i64 0, .int .i64 0, .int .i64 0, .int .i64 0] 40)) b1 (.slice alg (([] : List Pst).length) clg) (.slice apg ([aP, bP].length) cpg) (.slice acg ([fC].length) ccg)) w6.heap.size (.int .i64 1) (.int .i64 2) (.int .i64 0) (.int .i64 40) (.int .i64 0) (.int .i64 0) (.int .i64 40)) (some b1) := grown_new (grown_step (World.grownBy_alloc _ _ _) hg4) (put7_grown _ _ _ _ _ _ _ _ _) (Nat.le_refl _)
    have HX9 : Hid ((put7 (put3 (w6.alloc (.cells #[.int .i64 0, .int .i64 0, .int .i64 0, .int .i64 0, .int .i64 0, .int .i64 0, .int .i64 0] 40)) b1 (.slice alg (([] : List Pst).length) clg) (.slice apg ([aP, bP].length) cpg) (.slice acg ([fC].length) ccg)) w6.heap.size (.int .i64 1) (.int .i64 2) (.int .i64 0) (.int .i64 40) (.int .i64 0) (.int .i64 0) (.int .i64 40)).heap[b1]? = some (.cells #[.slice alg (([] : List Pst).length) clg, .slice apg ([aP, bP].length) cpg, .slice acg ([fC].length) ccg] 31 (0, 0))) := Lib.hid (box_keep (put3_at hx4 rfl _ _ _) (put7_grown _ _ _ _ _ _ _ _ _) (notOf_box hz5 (by decide)))
    have HZ9 : Hid ((put7 (put3 (w6.alloc (.cells #[.int .i64 0, .int .i64 0, .int .i64 0, .int .i64 0, .int .i64 0, .int .i64 0, .int .i64 0] 40)) b1 (.slice alg (([] : List Pst).length) clg) (.slice apg ([aP, bP].length) cpg) (.slice acg ([fC].length) ccg)) w6.heap.size (.int .i64 1) (.int .i64 2) (.int .i64 0) (.int .i64 40) (.int .i64 0) (.int .i64 0) (.int .i64 40)).heap[w6.heap.size]? = some (.cells #[.int .i64 1, .int .i64 2, .int .i64 0, .int .i64 40, .int .i64 0, .int .i64 0, .int .i64 40] 40 (0, 0))) := Lib.hid (put7_at hz5 rfl _ _ _ _ _ _ _)
    have HA9 := Lib.hid (hat.keep (lone_hst hx3) hg5)
    have HB9 := Lib.hid ((HBe.out.trans (hb.mono HBe.out.size)).grown hg5 (Nat.le_trans HBe.out.size hb.size) (fun j e => by injection e with e; have := HL1.out; omega))
    have HNE9 : Hid (w6.heap.size ≠ b1) := Lib.hid (by have := obj_lt hx3; omega)
    have HOA := Lib.hid ((hg5.block bA (obj_lt (obj_below HZA.out hb)) (by simp [HNA2.out])).trans (obj_below HZA.out hb))
    clear ub0 ub1 ub2
    have ub0 := obj_cell hx4 0
    have ub1 := obj_cell hx4 1
    have ub2 := obj_cell hx4 2
    simp at ub0 ub1 ub2
    have uf0 := obj_free hx4 0
    have uf1 := obj_free hx4 1
    have uf2 := obj_free hx4 2
    have uz0 := obj_cell hz5 0
    have uz1 := obj_cell hz5 1
    have uz2 := obj_cell hz5 2
    have uz3 := obj_cell hz5 3
    have uz4 := obj_cell hz5 4
    have uz5 := obj_cell hz5 5
    have uz6 := obj_cell hz5 6
    simp at uz0 uz1 uz2 uz3 uz4 uz5 uz6
    have ug0 := obj_free hz5 0
    have ug1 := obj_free hz5 1
    have ug2 := obj_free hz5 2
    have ug3 := obj_free hz5 3
    have ug4 := obj_free hz5 4
    have ug5 := obj_free hz5 5
    have ug6 := obj_free hz5 6
    unfold put3 at uz0 ug0 uz1 ug1 uz2 ug2 uz3 ug3 uz4 ug4 uz5 ug5 uz6 ug6
    clear hx3 hA hx4 hz4 hg4 hz5 hg5 hat hb
    go_wp2
    go_meet
    exact ⟨w6.heap.size, alg, apg, acg, _, clg, _, cpg, _, ccg, rfl, rfl, HB9, HX9, HA9, HOA, HZ9⟩
  case rest =>
  obtain ⟨bB, alg, apg, acg, nlg, clg, npg, cpg, ncg, ccg, rfl, rfl, HBg, HXg, HAg, HZA3, HZB⟩ := hcut
  obtain ⟨w7, hw7⟩ : ∃ W, W = wc := ⟨_, rfl⟩
  rw [← hw7] at HBg HXg HAg HZA3 HZB ⊢
  clear hw7 HBe HXe HAe HZA HZA'
  have hx := HXg.out
  have ub0 := obj_cell hx 0
  have ub1 := obj_cell hx 1
  have ub2 := obj_cell hx 2
  simp at ub0 ub1 ub2
  clear hx
  go_wp2_with fail
  refine (sn_shown _ _ _ _ HAg.out).mono ?_
  rintro e w8 ⟨rfl, hb8⟩
  have hzA := obj_below HZA3.out hb8
  have hzB := obj_below HZB.out hb8
  have HB8 := Lib.hid (HBg.out.trans (hb8.mono HBg.out.size))
  obtain ⟨w9, hw9⟩ : ∃ W, W = w8.alloc (.cells #[.int .i64 0, .int .i64 0, .int .i64 0, .int .i64 0, .int .i64 0] 38) := ⟨_, rfl⟩
  obtain ⟨bS, hbS⟩ : ∃ b, b = w8.heap.size := ⟨_, rfl⟩
  have hb9 : Below w8.heap.size w8 w9 := by rw [hw9]; exact below_alloc _ _
  have hzS : w9.heap[bS]? = some (.cells #[.int .i64 0, .int .i64 0, .int .i64 0, .int .i64 0, .int .i64 0] 38 (0, 0)) := by rw [hw9, hbS]; exact heap_alloc_new _ _
  have hzA9 := obj_below hzA hb9
  have hzB9 := obj_below hzB hb9
  have HB9 := Lib.hid (HB8.out.trans (hb9.mono HB8.out.size))
  clear ub0 ub1 ub2
  have ca0 := obj_cell hzA9 0
  have ca1 := obj_cell hzA9 1
  have ca2 := obj_cell hzA9 2
  have ca3 := obj_cell hzA9 3
  have ca4 := obj_cell hzA9 4
  have ca5 := obj_cell hzA9 5
  have ca6 := obj_cell hzA9 6
  simp at ca0 ca1 ca2 ca3 ca4 ca5 ca6
  have cb0 := obj_cell hzB9 0
  have cb1 := obj_cell hzB9 1
  have cb2 := obj_cell hzB9 2
  have cb3 := obj_cell hzB9 3
  have cb4 := obj_cell hzB9 4
  have cb5 := obj_cell hzB9 5
  have cb6 := obj_cell hzB9 6
  simp at cb0 cb1 cb2 cb3 cb4 cb5 cb6
  have cs0 := obj_cell hzS 0
  have cs1 := obj_cell hzS 1
  have cs2 := obj_cell hzS 2
  have cs3 := obj_cell hzS 3
  have cs4 := obj_cell hzS 4
  simp at cs0 cs1 cs2 cs3 cs4
  have HW9 := Lib.hid hw9
  have HBS := Lib.hid hbS
  clear hzA hzB hzA9 hzB9 hzS hb8 hb9 hw9 hbS
  go_upto_region 6 with fail
  rw [← HW9.out, ← HBS.out]
  go_wp2
  go_ret
  exact ⟨by simp, HB9.out⟩

end Go.Proofs.Ytoccnindkimjdaa
