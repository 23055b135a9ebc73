/- Texts of one claim, merged: AcG, Nums1. -/
import Derived.Test.YtoelidndnajedabMAcE
import Derived.Test.YtoelidndnajedabMAcU
import Derived.Test.YtoelidndnajedabMG1
import Derived.Laws.OwnMore
/- Contracts of the account's own add, on a row of the caller's own, and of its carryOut. -/
set_option linter.unusedSimpArgs false
set_option linter.unusedVariables false
set_option linter.unusedSimpArgs false
set_option linter.unusedVariables false
namespace Go.Proofs.Ytoelidndnajedab
open Go.RowKit Go.Lib Go.Proofs

set_option maxHeartbeats 2000000 in
theorem acadd_any (base : Nat) (v : Value) (l : List SubA) (id d : Int) (w : World) (h : w.ownsRow base 62 2 v l.length (cellsU l)) (hlen : l.length ≤ 1000000) (hd : -1000000000000 ≤ d) (hd1 : d ≤ 1000000000000) (hbal : ∀ s ∈ l, -1000000000000000000 ≤ s.bal ∧ s.bal ≤ 1000000000000000000) :
    Calls Try.prog 88 #[v, .int .i64 id, .int .i64 d] w fun e w' => e = .returned (.tuple #[]) ∧ w'.ownsRow base 62 2 v l.length (cellsU (addP l id d)) ∧ w.grownBy w' v.ownBlock := by
  have HP := Lib.hid (acplace_any v l id w (RowG.owns h) hlen)
  have HO := Lib.hid h
  cases hat : atS l id with
  | none =>
    rw [show atI l id = -1 by unfold atI; rw [hat]] at HP
    rw [show addP l id d = l by unfold addP; rw [hat]]
    clear h hbal
    go_enter Try.func88, Try.ntmps88
    go_wp2_with fail
    refine (HP.out).mono ?_
    rintro e w1 ⟨rfl, hb⟩
    go_wp2
    go_end0
    exact ⟨rfl, ownsRow_below HO.out hb, grownBy_below hb⟩
  | some i =>
    rw [show atI l id = (i : Int) by unfold atI; rw [hat]] at HP
    rw [show addP l id d = bump l i d by unfold addP; rw [hat]]
    have hi := (atS_some hat).1
    have hbb := hbal _ (List.getElem_mem hi)
    rw [← subAt_get hi] at hbb
    obtain ⟨g, cap, rfl, -, hcap⟩ := owns_shape h (by omega)
    have c0 := (cellsU_get l i hi).2
    have HBU : Hid ((cellsU l).set (i * 2 + 1) (.int .i64 ((subAt l i).bal + d)) = cellsU (bump l i d)) := Lib.hid (by rw [cellsU_set l i _ hi]; rfl)
    have HC := Lib.hid (show ∀ W, Below w.heap.size w W → W.cell? ⟨g, i * 2 + 1, none⟩ = some (.int .i64 (subAt l i).bal) from fun W hW => ((ownsRow_below HO.out hW).cellAt (i * 2 + 1) (by omega)).trans c0)
    have HF := Lib.hid (show ∀ W, Below w.heap.size w W → W.frozen? ⟨g, i * 2 + 1, none⟩ = false from fun W hW => (ownsRow_below HO.out hW).frozenAt (i * 2 + 1))
    generalize (subAt l i).bal = z at *
    generalize l.length = n at *
    have hi0 : (0 : Int) ≤ (i : Int) := by omega
    have hi1 : (i : Int) < (n : Int) := by omega
    clear h hbal hat c0
    go_enter Try.func88, Try.ntmps88
    go_wp2_with fail
    refine (HP.out).mono ?_
    rintro e w1 ⟨rfl, hb⟩
    have c1 := HC.out _ hb
    have f1 := HF.out _ hb
    have HB := Lib.hid hb
    clear hb
    go_wp2
    go_end0
    have ho := (ownsRow_below HO.out HB.out).stored (i * 2 + 1) (.int .i64 (z + d))
    refine ⟨rfl, ?_, grown_step (grownBy_below HB.out) ho.2⟩
    rw [← HBU.out]
    exact ho.1

theorem bals_wide {cr : Int} {l : List SubA} (hcr : amtB cr = true) (h : Bals cr l) : ∀ s ∈ l, -1000000000000 ≤ s.bal ∧ s.bal ≤ 1000000000000000 := bals_range hcr h
theorem addP_bal {l : List SubA} {B : Int} (hl : ∀ s ∈ l, -B ≤ s.bal ∧ s.bal ≤ B) (id d : Int) (hd : -1000000000000 ≤ d ∧ d ≤ 1000000000000) : ∀ s ∈ addP l id d, -(B + 1000000000000) ≤ s.bal ∧ s.bal ≤ B + 1000000000000 := by
  intro s hs
  unfold addP at hs
  split at hs
  · have := hl s hs; omega
  · rename_i i hat
    have hi := (atS_some hat).1
    have h2 := hl _ (List.getElem_mem hi)
    rw [← subAt_get hi] at h2
    rcases List.mem_or_eq_of_mem_set hs with hs | rfl
    · have := hl s hs; omega
    · show _ ≤ (subAt l i).bal + d ∧ (subAt l i).bal + d ≤ _
      omega

/-- What carryOut hands back, and what it makes of the row. -/
def CarryPost (base : Nat) (v : Value) (l : List SubA) (w : World) : Except Int (List SubA) → Ending → World → Prop
  | .ok m, e, w' => e = .returned (.int .i64 0) ∧ w'.ownsRow base 62 2 v l.length (cellsU m) ∧ w.grownBy w' v.ownBlock
  | .error c, e, w' => e = .returned (.int .i64 c) ∧ w'.ownsRow base 62 2 v l.length (cellsU l) ∧ w.grownBy w' v.ownBlock
theorem carry_no {base : Nat} {v : Value} {l : List SubA} {w w' : World} {c : Int} (h : w.ownsRow base 62 2 v l.length (cellsU l)) (hb : Below w.heap.size w w') : CarryPost base v l w (.error c) (.returned (.int .i64 c)) w' := ⟨rfl, ownsRow_below h hb, grownBy_below hb⟩
theorem known_yes {l : List SubA} {id : Int} (h : id = 0 ∨ (atS l id).isSome = true) : knownM l id = true := by
  unfold knownM
  rcases h with h | h
  · simp [h]
  · simp [(atI_nonneg l id).2 h]
theorem known_no {l : List SubA} {id : Int} (h : id ≠ 0 ∧ atS l id = none) : knownM l id = false := by
  unfold knownM
  have : ¬ 0 ≤ atI l id := fun h2 => by have := (atI_nonneg l id).1 h2; rw [h.2] at this; cases this
  simp [h.1]
  omega

set_option maxRecDepth 100000 in
set_option maxHeartbeats 4000000 in
theorem accarry_bad (base : Nat) (cr : Int) (sv : Value) (l : List SubA) (last e : Ent) (w : World) (h : w.ownsRow base 62 2 sv l.length (cellsU l)) (hlen : l.length ≤ 1000) (hcr : amtB cr = true) (hbal : Bals cr l) (hnz : NoZero l) (n0 : -1000000000 ≤ last.number) (n1 : last.number ≤ 1000000000) (d0 : 0 ≤ last.day) (hbad : faultE l last e ≠ 0) :
    Calls Try.prog 74 #[sv, .int .i64 cr, .agg last.cells.toArray, .agg e.cells.toArray] w (CarryPost base sv l w (addM cr l last e)) := by
  have HO := Lib.hid h
  have HK := Lib.hid (fun id W (hW : Below w.heap.size w W) => acknown_any sv l id W (SubsAt.below (RowG.owns h) hW) (by omega))
  obtain ⟨l0, l1, l2, l3, l4, l5⟩ := last
  obtain ⟨e0, e1, e2, e3, e4, e5⟩ := e
  simp only [Ent.cells] at n0 n1 d0 ⊢
  clear h hcr hbal hnz
  have HW0 := Lib.hid (below2 w (.cells #[.int .i64 l0, .int .i64 l1, .int .i64 l2, .int .i64 l3, .int .i64 l4, .int .i64 l5] 86) (.cells #[.int .i64 e0, .int .i64 e1, .int .i64 e2, .int .i64 e3, .int .i64 e4, .int .i64 e5] 86))
  have HX0 := Lib.hid (alloc2_at w (.cells #[.int .i64 l0, .int .i64 l1, .int .i64 l2, .int .i64 l3, .int .i64 l4, .int .i64 l5] 86) (.cells #[.int .i64 e0, .int .i64 e1, .int .i64 e2, .int .i64 e3, .int .i64 e4, .int .i64 e5] 86))
  by_cases hA : e0 = l0 + 1
  case neg =>
    have hA1 : (e0 == l0 + 1) = false := by rw [beq_eq_false_iff_ne]; exact hA
    rw [addM_fault (c := 65) (faultE_known hA) (by decide)]
    clear hA
    go_enter Try.func74, Try.ntmps74
    go_wp2
    go_ret
    exact carry_no HO.out HW0.out
  have hA1 : (e0 == l0 + 1) = true := by rw [beq_iff_eq]; exact hA
  have HFA : Hid (faultE l ⟨l0, l1, l2, l3, l4, l5⟩ ⟨e0, e1, e2, e3, e4, e5⟩ = if e1 < l1 ∨ dayB' e1 = false then 8 else if amtB e4 = false ∨ e4 = 0 ∨ e5 < 0 ∨ 1000000 < e5 then 2 else if e2 = e3 ∨ (e2 ≠ 0 ∧ atS l e2 = none) ∨ (e3 ≠ 0 ∧ atS l e3 = none) then 60 else 0) := Lib.hid (if_neg (fun h => h hA))
  clear hA
  by_cases hB : e1 < l1
  · rw [addM_fault (c := 8) (HFA.out.trans (if_pos (Or.inl hB))) (by decide)]
    clear HFA hbad
    go_enter Try.func74, Try.ntmps74
    go_wp2
    go_ret
    exact carry_no HO.out HW0.out
  by_cases hD : 36000 < e1
  · rw [addM_fault (c := 8) (HFA.out.trans (if_pos (Or.inr (inB_false.2 (by omega))))) (by decide)]
    clear HFA hbad
    go_enter Try.func74, Try.ntmps74
    go_wp2
    go_ret
    exact carry_no HO.out HW0.out
  have HFB : Hid (faultE l ⟨l0, l1, l2, l3, l4, l5⟩ ⟨e0, e1, e2, e3, e4, e5⟩ = if amtB e4 = false ∨ e4 = 0 ∨ e5 < 0 ∨ 1000000 < e5 then 2 else if e2 = e3 ∨ (e2 ≠ 0 ∧ atS l e2 = none) ∨ (e3 ≠ 0 ∧ atS l e3 = none) then 60 else 0) := Lib.hid (HFA.out.trans (if_neg (by
    rintro (h | h)
    · exact hB h
    · rw [show dayB' e1 = true from inB_true.2 (by omega)] at h; cases h)))
  clear HFA
  have HV : Hid (∀ W, Calls Try.prog 55 #[.int .i64 e4] W fun e w' => e = .returned (.bool (amtB e4)) ∧ W = w') := Lib.hid (fun W => Valid_any e4 W)
  cases hv : amtB e4 with
  | false =>
    rw [hv] at HV HFB
    rw [addM_fault (c := 2) (HFB.out.trans (if_pos (Or.inl rfl))) (by decide)]
    clear hv HFB hbad
    go_enter Try.func74, Try.ntmps74
    go_wp2_with (go_at_call 55; refine (HV.out _).mono ?_; rintro e w' ⟨rfl, rfl⟩)
    go_ret
    exact carry_no HO.out HW0.out
  | true =>
  have hv' := inB_true.1 hv
  rw [hv] at HV HFB
  clear hv
  by_cases hz : e4 = 0
  · have hz1 : (e4 == 0) = true := by rw [beq_iff_eq]; exact hz
    rw [addM_fault (c := 2) (HFB.out.trans (if_pos (Or.inr (Or.inl hz)))) (by decide)]
    clear HFB hbad hz
    go_enter Try.func74, Try.ntmps74
    go_wp2_with (go_at_call 55; refine (HV.out _).mono ?_; rintro e w' ⟨rfl, rfl⟩)
    go_ret
    exact carry_no HO.out HW0.out
  have hz1 : (e4 == 0) = false := by rw [beq_eq_false_iff_ne]; exact hz
  by_cases hr0 : e5 < 0
  · rw [addM_fault (c := 2) (HFB.out.trans (if_pos (Or.inr (Or.inr (Or.inl hr0))))) (by decide)]
    clear HFB hbad hz
    go_enter Try.func74, Try.ntmps74
    go_wp2_with (go_at_call 55; refine (HV.out _).mono ?_; rintro e w' ⟨rfl, rfl⟩)
    go_ret
    exact carry_no HO.out HW0.out
  by_cases hr1 : 1000000 < e5
  · rw [addM_fault (c := 2) (HFB.out.trans (if_pos (Or.inr (Or.inr (Or.inr hr1))))) (by decide)]
    clear HFB hbad hz
    go_enter Try.func74, Try.ntmps74
    go_wp2_with (go_at_call 55; refine (HV.out _).mono ?_; rintro e w' ⟨rfl, rfl⟩)
    go_ret
    exact carry_no HO.out HW0.out
  have HFC : Hid (faultE l ⟨l0, l1, l2, l3, l4, l5⟩ ⟨e0, e1, e2, e3, e4, e5⟩ = if e2 = e3 ∨ (e2 ≠ 0 ∧ atS l e2 = none) ∨ (e3 ≠ 0 ∧ atS l e3 = none) then 60 else 0) := Lib.hid (HFB.out.trans (if_neg (by rintro (h | h | h | h) <;> first | cases h; done | exact hz h | omega)))
  clear HFB hz
  by_cases hS : e2 = e3
  · have hS1 : (e2 == e3) = true := by rw [beq_iff_eq]; exact hS
    rw [addM_fault (c := 60) (HFC.out.trans (if_pos (Or.inl hS))) (by decide)]
    clear HFC hbad hS
    go_enter Try.func74, Try.ntmps74
    go_wp2_with (go_at_call 55; refine (HV.out _).mono ?_; rintro e w' ⟨rfl, rfl⟩)
    go_ret
    exact carry_no HO.out HW0.out
  have hS1 : (e2 == e3) = false := by rw [beq_eq_false_iff_ne]; exact hS
  by_cases hF2 : e2 ≠ 0 ∧ atS l e2 = none
  · have HK2 := Lib.hid (fun W hW => HK.out e2 W hW)
    rw [known_no hF2] at HK2
    rw [addM_fault (c := 60) (HFC.out.trans (if_pos (Or.inr (Or.inl hF2)))) (by decide)]
    clear HFC hbad hS hF2 HK
    go_enter Try.func74, Try.ntmps74
    go_wp2_with (go_at_call 55; refine (HV.out _).mono ?_; rintro e w' ⟨rfl, rfl⟩)
    refine (HK2.out _ HW0.out).mono ?_
    rintro e w1 ⟨rfl, hb1⟩
    have HB1 := Lib.hid (HW0.out.trans (hb1.mono HW0.out.size))
    clear hb1
    go_wp2
    go_ret
    exact carry_no HO.out HB1.out
  by_cases hF3 : e3 ≠ 0 ∧ atS l e3 = none
  · have HK2 := Lib.hid (fun W hW => HK.out e2 W hW)
    have HK3 := Lib.hid (fun W hW => HK.out e3 W hW)
    rw [known_yes (by
      by_cases h0 : e2 = 0
      · exact Or.inl h0
      · exact Or.inr (by cases hq : atS l e2 with | none => exact absurd ⟨h0, hq⟩ hF2 | some _ => rfl))] at HK2
    rw [known_no hF3] at HK3
    rw [addM_fault (c := 60) (HFC.out.trans (if_pos (Or.inr (Or.inr hF3)))) (by decide)]
    clear HFC hbad hS hF2 hF3 HK
    go_enter Try.func74, Try.ntmps74
    go_wp2_with (go_at_call 55; refine (HV.out _).mono ?_; rintro e w' ⟨rfl, rfl⟩)
    refine (HK2.out _ HW0.out).mono ?_
    rintro e w1 ⟨rfl, hb1⟩
    have HB1 := Lib.hid (HW0.out.trans (hb1.mono HW0.out.size))
    have hx1 := obj_below HX0.out hb1
    have u3 := obj_cell hx1 3
    simp at u3
    clear hb1 hx1
    go_wp2_with fail
    refine (HK3.out _ HB1.out).mono ?_
    rintro e w2 ⟨rfl, hb2⟩
    have HB2 := Lib.hid (HB1.out.trans (hb2.mono HB1.out.size))
    clear hb2
    go_wp2
    go_ret
    exact carry_no HO.out HB2.out
  exact absurd (HFC.out.trans (if_neg (by
    rintro (h | h | h)
    · exact hS h
    · exact hF2 h
    · exact hF3 h))) hbad

set_option maxRecDepth 100000 in
set_option maxHeartbeats 4000000 in
theorem accarry_good (base : Nat) (cr : Int) (sv : Value) (l : List SubA) (last e : Ent) (w : World) (h : w.ownsRow base 62 2 sv l.length (cellsU l)) (hlen : l.length ≤ 1000) (hcr : amtB cr = true) (hbal : Bals cr l) (hnz : NoZero l) (n0 : -1000000000 ≤ last.number) (n1 : last.number ≤ 1000000000) (d0 : 0 ≤ last.day) (hf : faultE l last e = 0) :
    Calls Try.prog 74 #[sv, .int .i64 cr, .agg last.cells.toArray, .agg e.cells.toArray] w (CarryPost base sv l w (addM cr l last e)) := by
  have HADD := Lib.hid (addM_carry (cr := cr) hf hbal (inB_true.1 hcr).1 hnz)
  have hcr' := inB_true.1 hcr
  have hwide := bals_wide hcr hbal
  obtain ⟨f0, f1, f2, f3, f4, f5, f6, f7⟩ := faultE_zero hf
  have HO := Lib.hid h
  have HK2 : Hid (∀ W, Below w.heap.size w W → Calls Try.prog 86 #[sv, .int .i64 e.frm] W fun e w' => e = .returned (.bool true) ∧ Below W.heap.size W w') := Lib.hid fun W hW => by
    have := acknown_any sv l e.frm W (SubsAt.below (RowG.owns h) hW) (by omega)
    rwa [known_yes f6] at this
  have HK3 : Hid (∀ W, Below w.heap.size w W → Calls Try.prog 86 #[sv, .int .i64 e.to] W fun e w' => e = .returned (.bool true) ∧ Below W.heap.size W w') := Lib.hid fun W hW => by
    have := acknown_any sv l e.to W (SubsAt.below (RowG.owns h) hW) (by omega)
    rwa [known_yes f7] at this
  have HB2 := Lib.hid (fun W (hW : Below w.heap.size w W) => acbears_any sv l cr e.frm (-e.amount) W (SubsAt.below (RowG.owns h) hW) (by omega) hcr'.1 hcr'.2 (by omega) (by omega) f6 hwide)
  have HB3 := Lib.hid (fun W (hW : Below w.heap.size w W) => acbears_any sv l cr e.to e.amount W (SubsAt.below (RowG.owns h) hW) (by omega) hcr'.1 hcr'.2 (by omega) (by omega) f7 hwide)
  have HA2 := Lib.hid (fun W (hW : W.ownsRow base 62 2 sv l.length (cellsU l)) => acadd_any base sv l e.frm (-e.amount) W hW (by omega) (by omega) (by omega) (fun s hs => by have := hwide s hs; omega))
  have HA3 : Hid (∀ W, W.ownsRow base 62 2 sv l.length (cellsU (addP l e.frm (-e.amount))) → Calls Try.prog 88 #[sv, .int .i64 e.to, .int .i64 e.amount] W fun r w' => r = .returned (.tuple #[]) ∧ w'.ownsRow base 62 2 sv l.length (cellsU (addP (addP l e.frm (-e.amount)) e.to e.amount)) ∧ W.grownBy w' sv.ownBlock) := Lib.hid (fun W hW => by
    have hl := addP_len l e.frm (-e.amount)
    have h2 := acadd_any base sv (addP l e.frm (-e.amount)) e.to e.amount W (by rw [hl]; exact hW) (by rw [hl]; omega) (by omega) (by omega) (fun s hs => by have := addP_bal (B := 1000000000000000) (fun s hs => by have := hwide s hs; omega) e.frm (-e.amount) (by omega) s hs; omega)
    rwa [hl] at h2)
  have HV : Hid (∀ W, Calls Try.prog 55 #[.int .i64 e.amount] W fun e w' => e = .returned (.bool true) ∧ W = w') := Lib.hid (fun W => Valid_yes W (by omega) (by omega))
  obtain ⟨r, hr⟩ : ∃ r, r = addM cr l last e := ⟨_, rfl⟩
  rw [← hr] at HADD ⊢
  have HBL : Hid (sv.ownBlock = none ∨ ∃ g, sv.ownBlock = some g ∧ g < w.heap.size) := Lib.hid (by
    cases hs : sv.ownBlock with
    | none => exact Or.inl rfl
    | some g => exact Or.inr ⟨g, rfl, (h.lt g hs).2⟩)
  clear hr hf
  obtain ⟨l0, l1, l2, l3, l4, l5⟩ := last
  obtain ⟨e0, e1, e2, e3, e4, e5⟩ := e
  simp only [Ent.cells] at n0 n1 d0 f0 f1 f2 f3 f4 f5 f6 f7 HADD HK2 HK3 HB2 HB3 HA2 HA3 HV ⊢
  subst f0
  have HW0 := Lib.hid (below2 w (.cells #[.int .i64 l0, .int .i64 l1, .int .i64 l2, .int .i64 l3, .int .i64 l4, .int .i64 l5] 86) (.cells #[.int .i64 (l0 + 1), .int .i64 e1, .int .i64 e2, .int .i64 e3, .int .i64 e4, .int .i64 e5] 86))
  have HX0 := Lib.hid (alloc2_at w (.cells #[.int .i64 l0, .int .i64 l1, .int .i64 l2, .int .i64 l3, .int .i64 l4, .int .i64 l5] 86) (.cells #[.int .i64 (l0 + 1), .int .i64 e1, .int .i64 e2, .int .i64 e3, .int .i64 e4, .int .i64 e5] 86))
  have hS1 : (e2 == e3) = false := by rw [beq_eq_false_iff_ne]; exact f5
  have hz1 : (e4 == 0) = false := by rw [beq_eq_false_iff_ne]; omega
  have hB1 : ¬ e1 < l1 := by omega
  have hD1 : ¬ 36000 < e1 := by omega
  have hr0 : ¬ e5 < 0 := by omega
  have hr1 : ¬ 1000000 < e5 := by omega
  have hq1 : 1 ≤ e4 := f3.1
  have hq2 : e4 ≤ 1000000000000 := f3.2
  obtain ⟨x2, hx2⟩ : ∃ x, x = bearsM cr l e2 (-e4) := ⟨_, rfl⟩
  obtain ⟨x3, hx3⟩ : ∃ x, x = bearsM cr l e3 e4 := ⟨_, rfl⟩
  rw [← hx2] at HB2 HADD
  rw [← hx3] at HB3 HADD
  clear hx2 hx3 f1 f2 f3 f4 f5 f6 f7 hcr hcr' hbal hnz hwide h
  cases x2 with
  | false =>
    obtain rfl : r = .error 61 := HADD.out.trans (if_neg (by decide))
    clear HADD
    go_enter Try.func74, Try.ntmps74
    go_wp2_with (go_at_call 55; refine (HV.out _).mono ?_; rintro e w' ⟨rfl, rfl⟩)
    refine (HK2.out _ HW0.out).mono ?_
    rintro e w1 ⟨rfl, hb1⟩
    have HC1 := Lib.hid (HW0.out.trans (hb1.mono HW0.out.size))
    have HX1 := Lib.hid (obj_below HX0.out hb1)
    have v2 := obj_cell HX1.out 2
    have v3 := obj_cell HX1.out 3
    have v4 := obj_cell HX1.out 4
    simp at v2 v3 v4
    clear hb1
    go_wp2_with fail
    refine (HK3.out _ HC1.out).mono ?_
    rintro e w2 ⟨rfl, hb2⟩
    have HC2 := Lib.hid (HC1.out.trans (hb2.mono HC1.out.size))
    have HX2 := Lib.hid (obj_below HX1.out hb2)
    clear v2 v3 v4
    have v2 := obj_cell HX2.out 2
    have v3 := obj_cell HX2.out 3
    have v4 := obj_cell HX2.out 4
    simp at v2 v3 v4
    clear hb2
    go_wp2_with fail
    refine (HB2.out _ HC2.out).mono ?_
    rintro e w3 ⟨rfl, hb3⟩
    have HC3 := Lib.hid (HC2.out.trans (hb3.mono HC2.out.size))
    have HX3 := Lib.hid (obj_below HX2.out hb3)
    clear v2 v3 v4
    have v2 := obj_cell HX3.out 2
    have v3 := obj_cell HX3.out 3
    have v4 := obj_cell HX3.out 4
    simp at v2 v3 v4
    clear hb3
    go_wp2
    go_ret
    exact carry_no HO.out HC3.out
  | true =>
    cases x3 with
    | false =>
      obtain rfl : r = .error 61 := HADD.out.trans ((if_pos rfl).trans (if_neg (by decide)))
      clear HADD
      go_enter Try.func74, Try.ntmps74
      go_wp2_with (go_at_call 55; refine (HV.out _).mono ?_; rintro e w' ⟨rfl, rfl⟩)
      refine (HK2.out _ HW0.out).mono ?_
      rintro e w1 ⟨rfl, hb1⟩
      have HC1 := Lib.hid (HW0.out.trans (hb1.mono HW0.out.size))
      have HX1 := Lib.hid (obj_below HX0.out hb1)
      have v2 := obj_cell HX1.out 2
      have v3 := obj_cell HX1.out 3
      have v4 := obj_cell HX1.out 4
      simp at v2 v3 v4
      clear hb1
      go_wp2_with fail
      refine (HK3.out _ HC1.out).mono ?_
      rintro e w2 ⟨rfl, hb2⟩
      have HC2 := Lib.hid (HC1.out.trans (hb2.mono HC1.out.size))
      have HX2 := Lib.hid (obj_below HX1.out hb2)
      clear v2 v3 v4
      have v2 := obj_cell HX2.out 2
      have v3 := obj_cell HX2.out 3
      have v4 := obj_cell HX2.out 4
      simp at v2 v3 v4
      clear hb2
      go_wp2_with fail
      refine (HB2.out _ HC2.out).mono ?_
      rintro e w3 ⟨rfl, hb3⟩
      have HC3 := Lib.hid (HC2.out.trans (hb3.mono HC2.out.size))
      have HX3 := Lib.hid (obj_below HX2.out hb3)
      clear v2 v3 v4
      have v2 := obj_cell HX3.out 2
      have v3 := obj_cell HX3.out 3
      have v4 := obj_cell HX3.out 4
      simp at v2 v3 v4
      clear hb3
      go_wp2_with fail
      refine (HB3.out _ HC3.out).mono ?_
      rintro e w4 ⟨rfl, hb4⟩
      have HC4 := Lib.hid (HC3.out.trans (hb4.mono HC3.out.size))
      have HX4 := Lib.hid (obj_below HX3.out hb4)
      clear v2 v3 v4
      have v2 := obj_cell HX4.out 2
      have v3 := obj_cell HX4.out 3
      have v4 := obj_cell HX4.out 4
      simp at v2 v3 v4
      clear hb4
      go_wp2
      go_ret
      exact carry_no HO.out HC4.out
    | true =>
      obtain rfl : r = .ok (addP (addP l e2 (-e4)) e3 e4) := HADD.out.trans ((if_pos rfl).trans (if_pos rfl))
      clear HADD
      go_enter Try.func74, Try.ntmps74
      go_wp2_with (go_at_call 55; refine (HV.out _).mono ?_; rintro e w' ⟨rfl, rfl⟩)
      refine (HK2.out _ HW0.out).mono ?_
      rintro e w1 ⟨rfl, hb1⟩
      have HC1 := Lib.hid (HW0.out.trans (hb1.mono HW0.out.size))
      have HX1 := Lib.hid (obj_below HX0.out hb1)
      have v2 := obj_cell HX1.out 2
      have v3 := obj_cell HX1.out 3
      have v4 := obj_cell HX1.out 4
      simp at v2 v3 v4
      clear hb1
      go_wp2_with fail
      refine (HK3.out _ HC1.out).mono ?_
      rintro e w2 ⟨rfl, hb2⟩
      have HC2 := Lib.hid (HC1.out.trans (hb2.mono HC1.out.size))
      have HX2 := Lib.hid (obj_below HX1.out hb2)
      clear v2 v3 v4
      have v2 := obj_cell HX2.out 2
      have v3 := obj_cell HX2.out 3
      have v4 := obj_cell HX2.out 4
      simp at v2 v3 v4
      clear hb2
      go_wp2_with fail
      refine (HB2.out _ HC2.out).mono ?_
      rintro e w3 ⟨rfl, hb3⟩
      have HC3 := Lib.hid (HC2.out.trans (hb3.mono HC2.out.size))
      have HX3 := Lib.hid (obj_below HX2.out hb3)
      clear v2 v3 v4
      have v2 := obj_cell HX3.out 2
      have v3 := obj_cell HX3.out 3
      have v4 := obj_cell HX3.out 4
      simp at v2 v3 v4
      clear hb3
      go_wp2_with fail
      refine (HB3.out _ HC3.out).mono ?_
      rintro e w4 ⟨rfl, hb4⟩
      have HC4 := Lib.hid (HC3.out.trans (hb4.mono HC3.out.size))
      have HX4 := Lib.hid (obj_below HX3.out hb4)
      clear v2 v3 v4
      have v2 := obj_cell HX4.out 2
      have v3 := obj_cell HX4.out 3
      have v4 := obj_cell HX4.out 4
      simp at v2 v3 v4
      clear hb4
      go_wp2_with fail
      refine (HA2.out _ (ownsRow_below HO.out HC4.out)).mono ?_
      rintro e w5 ⟨rfl, ho5, hg5⟩
      have HO5 := Lib.hid ho5
      have HG5 := Lib.hid (grown_step (grownBy_below HC4.out) hg5)
      have hx5 : w5.heap[w.heap.size + 1]? = some (.cells #[.int .i64 (l0 + 1), .int .i64 e1, .int .i64 e2, .int .i64 e3, .int .i64 e4, .int .i64 e5] 86 (0, 0)) := (hg5.block _ (obj_lt HX4.out) (by
        rcases HBL.out with hq | ⟨g, hq, hg⟩
        · rw [hq]; simp
        · rw [hq]; simp; omega)).trans HX4.out
      have u3 := obj_cell hx5 3
      have u4 := obj_cell hx5 4
      simp at u3 u4
      clear ho5 hg5 hx5 v2 v3 v4
      go_wp2_with fail
      refine (HA3.out _ HO5.out).mono ?_
      rintro e w6 ⟨rfl, ho6, hg6⟩
      have HO6 := Lib.hid ho6
      have HG6 := Lib.hid (grown_step HG5.out hg6)
      clear ho6 hg6
      go_wp2
      go_ret
      exact ⟨rfl, HO6.out, HG6.out⟩

theorem accarry_any (base : Nat) (cr : Int) (sv : Value) (l : List SubA) (last e : Ent) (w : World) (h : w.ownsRow base 62 2 sv l.length (cellsU l)) (hlen : l.length ≤ 1000) (hcr : amtB cr = true) (hbal : Bals cr l) (hnz : NoZero l) (n0 : -1000000000 ≤ last.number) (n1 : last.number ≤ 1000000000) (d0 : 0 ≤ last.day) :
    Calls Try.prog 74 #[sv, .int .i64 cr, .agg last.cells.toArray, .agg e.cells.toArray] w (CarryPost base sv l w (addM cr l last e)) := by
  by_cases hf : faultE l last e = 0
  · exact accarry_good base cr sv l last e w h hlen hcr hbal hnz n0 n1 d0 hf
  · exact accarry_bad base cr sv l last e w h hlen hcr hbal hnz n0 n1 d0 hf

end Go.Proofs.Ytoelidndnajedab

/- Slices of numbers, wherever they lie: what stands at each place; of no function of the program; no condition. -/
namespace Go.Proofs.Ytoelidndnajedab
open Go.RowKit Go.Lib Go.Proofs

/-- A slice of numbers, wherever it lies. -/
def NumsAt (w : World) (v : Value) (l : List Int) : Prop := RowG w v l.length 1 (cellsI l)
theorem NumsAt.below {w w' : World} {v : Value} {l : List Int} (h : NumsAt w v l) (hb : Below w.heap.size w w') : NumsAt w' v l := RowG.below h hb
theorem NumsAt.shape {w : World} {v : Value} {l : List Int} (h : NumsAt w v l) : ∃ ao cap, v = .slice ao l.length cap ∧ l.length ≤ cap ∧ (0 < l.length → ∃ b o, ao = some ⟨b, o, none⟩ ∧ b < w.heap.size ∧ ∀ i, i < l.length → w.cell? ⟨b, o + i, none⟩ = some (.int .i64 (l.getD i 0))) := by
  obtain ⟨_, ao, cap, rfl, hcap, hc⟩ := h
  refine ⟨ao, cap, rfl, hcap, fun hpos => ?_⟩
  rcases hc with hc | ⟨b, o, rfl, hb, hc⟩
  · omega
  · exact ⟨b, o, rfl, hb, fun i hi => by rw [hc i (by omega), cellsI_get l i hi]⟩
theorem NumsAt.owns {w : World} {base : Nat} {e : TypeId} {v : Value} {l : List Int} (h : w.ownsRow base e 1 v l.length (cellsI l)) : NumsAt w v l := RowG.owns h

end Go.Proofs.Ytoelidndnajedab
