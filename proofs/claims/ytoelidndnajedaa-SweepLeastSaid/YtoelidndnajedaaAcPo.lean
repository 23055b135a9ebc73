/- The contract of the account's own Post. -/
import Derived.Test.YtoelidndnajedaaAcZ
import Derived.Test.YtoelidndnajedaaClnSub
import Derived.Test.YtoelidndnajedaaClnEnt
import Derived.Test.YtoelidndnajedaaStepX
import Derived.Test.YtoelidndnajedaaAcN
import Derived.Deep.RegionHeld3
set_option linter.unusedSimpArgs false
set_option linter.unusedVariables false
namespace Go.Proofs.Ytoelidndnajedaa
open Go.RowKit Go.Lib Go.Proofs

theorem PInv.grow {w : World} {ac en : Array Value} {A B : World} {v : Value} (h : PInv w ac en A) (hg : A.grownBy B v.ownBlock) (hv : ∀ g, v.ownBlock = some g → w.heap.size + 1 + 1 + 1 ≤ g) : PInv w ac en B := by
  have hne : ∀ k, k < w.heap.size + 1 + 1 + 1 → some k ≠ v.ownBlock := fun k hk e => by have := hv k e.symm; omega
  exact ⟨(hg.block _ (obj_lt h.box) (hne _ (by omega))).trans h.box, (hg.block _ (obj_lt h.ent) (hne _ (by omega))).trans h.ent, (hg.block _ (obj_lt h.res) (hne _ (by omega))).trans h.res, h.old.grown hg h.old.size (fun k hk => by have := hv k hk; omega)⟩

theorem noZero_right {a : Acc} (h : checkM a = 0) : NoZero a.subs := noZero_plain (checkM_zero.1 h).2.2.1
theorem lastE_day {a : Acc} (h : checkM a = 0) : 0 ≤ (lastE a.ents).day := by
  obtain ⟨_, _, _, h4, _⟩ := checkM_zero.1 h
  unfold lastE
  cases hq : a.ents.getLast? with
  | none => exact Int.le_refl _
  | some e =>
    have hm : e ∈ a.ents := List.mem_of_getLast? hq
    unfold daysM at h4
    exact (inB_true.1 (List.all_eq_true.1 h4 e hm)).1

set_option maxRecDepth 100000 in
set_option maxHeartbeats 8000000 in
theorem acPost_any (a : Acc) (x : Ent) (su en : Value) (w : World) (h : SubsAt w su a.subs) (he : EntsAt w en a.ents) (hlen : a.subs.length ≤ 1000000) (hlen2 : a.ents.length ≤ 1000000) :
    Calls Try.prog 35 #[.agg #[.int .i64 a.credit, su, en], .agg x.cells.toArray] w (PostPost w (postM a x)) := by
  have HCK := Lib.hid (fun W (hW : Below w.heap.size w W) => acCheck_any a su en W (h.below hW) (he.below hW) hlen hlen2)
  have HLA := Lib.hid (fun W (hW : Below w.heap.size w W) => aclast_any a.ents a.credit su en W (he.below hW) hlen2)
  have HCS := Lib.hid (fun W (hW : Below w.heap.size w W) => cloneSub_any subC subF a.subs su W (subs_list.1 (h.below hW)) hlen)
  have HCE := Lib.hid (fun W (hW : Below w.heap.size w W) => cloneEntry_any Ent.cells entF a.ents en W (ents_list.1 (he.below hW)) hlen2)
  rw [← cellsU_L] at HCS
  rw [← cellsN_L] at HCE
  obtain ⟨r, hr⟩ : ∃ r, r = postM a x := ⟨_, rfl⟩
  have HR := Lib.hid hr
  have HP0 := Lib.hid (PInv.new w #[.int .i64 a.credit, su, en] x.cells.toArray)
  rw [← hr]
  obtain ⟨x0, x1, x2, x3, x4, x5⟩ := x
  simp only [Ent.cells] at HP0 ⊢
  clear hr h
  obtain ⟨ao, cap, rfl, hcap, -⟩ := he.shape
  obtain ⟨m, hm⟩ : ∃ m, m = a.ents.length := ⟨_, rfl⟩
  have HM := Lib.hid hm
  rw [← hm] at HCK HLA HP0 HCE hcap hlen2 ⊢
  clear hm he
  go_enter Try.func35, Try.ntmps35
  go_wp2_with fail
  refine (HCK.out _ HP0.out.old).mono ?_
  rintro e w1 ⟨rfl, hb1⟩
  have HP1 := Lib.hid (HP0.out.later hb1)
  clear hb1 HP0
  by_cases hc : checkM a = 0
  case neg =>
    obtain rfl : r = .error (checkM a) := HR.out.trans (if_pos hc)
    generalize checkM a = c at *
    have hc1 : (c == 0) = false := by rw [beq_eq_false_iff_ne]; exact hc
    have hc2 : (c != 0) = true := by rw [bne, hc1]; rfl
    have hrb := HP1.out.res
    have s0 := obj_cell hrb 0
    have f0 := obj_free hrb 0
    have s1 := obj_cell hrb 1
    have f1 := obj_free hrb 1
    have s2 := obj_cell hrb 2
    have f2 := obj_free hrb 2
    simp at s0 s1 s2
    clear hrb
    clear hc HR
    go_wp2
    show bodyPost Try.prog Try.f35 _ Exit.ret _ (put3 w1 (w.heap.size + 1 + 1) (.int .i64 0) (.slice none 0 0) (.slice none 0 0))
    exact ret3 HP1.out.res rfl _ _ _ (fun F hF => by
      have q0 := obj_cell hF 0
      have q1 := obj_cell hF 1
      have q2 := obj_cell hF 2
      simp [results, Try.results35, go_sem, q0, q1, q2]) rfl ⟨rfl, put3_below HP1.out.old (by omega) _ _ _⟩
  rw [hc]
  have HR2 := Lib.hid (HR.out.trans (if_neg (fun h => h hc)))
  have HOK := Lib.hid hc
  clear hc HR
  by_cases h4 : m = 400
  · subst h4
    obtain rfl : r = .error 3 := HR2.out.trans (if_pos HM.out.symm)
    have hv1 := HP1.out.box
    have v2 := obj_cell hv1 2
    simp at v2
    have hrb := HP1.out.res
    have s0 := obj_cell hrb 0
    have f0 := obj_free hrb 0
    have s1 := obj_cell hrb 1
    have f1 := obj_free hrb 1
    have s2 := obj_cell hrb 2
    have f2 := obj_free hrb 2
    simp at s0 s1 s2
    clear hrb
    clear hv1
    go_wp2
    show bodyPost Try.prog Try.f35 _ Exit.ret _ (put3 w1 (w.heap.size + 1 + 1) (.int .i64 0) (.slice none 0 0) (.slice none 0 0))
    exact ret3 HP1.out.res rfl _ _ _ (fun F hF => by
      have q0 := obj_cell hF 0
      have q1 := obj_cell hF 1
      have q2 := obj_cell hF 2
      simp [results, Try.results35, go_sem, q0, q1, q2]) rfl ⟨rfl, put3_below HP1.out.old (by omega) _ _ _⟩
  have h4' : ((m : Int) == 400) = false := by rw [beq_eq_false_iff_ne]; omega
  have HR3 := Lib.hid (HR2.out.trans (if_neg (fun h => h4 (HM.out.trans h))))
  clear h4 HR2
  have hv1 := HP1.out.box
  have v1 := obj_cell hv1 1
  have v2 := obj_cell hv1 2
  simp at v1 v2
  clear hv1
  have hz := checkM_zero.1 HOK.out
  have hpl := hz.2.2.1
  unfold plainM at hpl
  simp only [Bool.and_eq_true] at hpl
  have HCY := Lib.hid (fun base (v : Value) W (hW : W.ownsRow base 75 2 v a.subs.length (cellsU a.subs)) => accarry_any base a.credit v a.subs (lastE a.ents) ⟨x0, x1, x2, x3, x4, x5⟩ W hW (by have := hz.1; omega) hpl.1 (right_bals HOK.out) (noZero_right HOK.out) (by rw [right_number HOK.out]; omega) (by rw [right_number HOK.out]; have := hz.2.1; omega) (lastE_day HOK.out))
  obtain ⟨y, hy⟩ : ∃ y, y = lastE a.ents := ⟨_, rfl⟩
  rw [← hy] at HCY HLA HR3
  obtain ⟨y0, y1, y2, y3, y4, y5⟩ := y
  simp only [Ent.cells] at HCY HLA
  clear hz hpl hy
  go_wp2_with fail
  refine (HCS.out _ HP1.out.old).mono ?_
  rintro e w2 ⟨v, rfl, ho2, hb2⟩
  have HP2 := Lib.hid (HP1.out.later hb2)
  have HFR : Hid (w.heap.size + 1 + 1 + 1 ≤ w1.heap.size) := Lib.hid (obj_lt HP1.out.res)
  have HO2 : Hid (w2.ownsRow (w.heap.size + 1 + 1 + 1) 75 2 v a.subs.length (cellsU a.subs)) := Lib.hid (ownsRow_mono ho2 HFR.out)
  have HVB : Hid (∀ g, v.ownBlock = some g → w.heap.size + 1 + 1 + 1 ≤ g) := Lib.hid (fun g hg => ownBlock_le HO2.out g hg)
  clear ho2 hb2 v1 v2
  obtain ⟨I, hI⟩ : ∃ I, I = fun W : World => PInv w #[.int .i64 a.credit, su, .slice ao m cap] #[.int .i64 x0, .int .i64 x1, .int .i64 x2, .int .i64 x3, .int .i64 x4, .int .i64 x5] W ∧ W.ownsRow (w.heap.size + 1 + 1 + 1) 75 2 v a.subs.length (cellsU a.subs) := ⟨_, rfl⟩
  have HI1 : Hid (I w2) := Lib.hid (by rw [hI]; exact ⟨HP2.out, HO2.out⟩)
  have HDR : Hid (∀ W, I W → I W.drew) := Lib.hid fun W hW => by rw [hI] at hW ⊢; exact ⟨hW.1.later (Below.refl _ _).drew, ownsRow_below hW.2 (Below.refl _ _).drew⟩
  have HLI : Hid (∀ W, I W → Calls Try.prog 70 #[.agg #[.int .i64 a.credit, su, .slice ao m cap]] W fun e w' => e = .returned (.agg #[.int .i64 y0, .int .i64 y1, .int .i64 y2, .int .i64 y3, .int .i64 y4, .int .i64 y5]) ∧ I w') := Lib.hid fun W hW => by
    rw [hI] at hW ⊢
    exact (HLA.out W hW.1.old).mono fun e w' h => ⟨h.1, hW.1.later h.2, ownsRow_below hW.2 h.2⟩
  have HCL : Hid (∀ W, I W → (∀ j, W.cell? ⟨w.heap.size, j, none⟩ = #[.int .i64 a.credit, su, .slice ao m cap][j]?) ∧ (∀ j, W.cell? ⟨w.heap.size + 1, j, none⟩ = #[.int .i64 x0, .int .i64 x1, .int .i64 x2, .int .i64 x3, .int .i64 x4, .int .i64 x5][j]?)) := Lib.hid fun W hW => by
    rw [hI] at hW
    exact ⟨fun j => obj_cell hW.1.box j, fun j => obj_cell hW.1.ent j⟩
  go_upto_region 7 with fail
  clear HP1 HP2 HO2 HFR
  cases hq : addM a.credit a.subs ⟨y0, y1, y2, y3, y4, y5⟩ ⟨x0, x1, x2, x3, x4, x5⟩ with
  | error c =>
    rw [hq] at HCY
    have hr3 := HR3.out
    rw [hq] at hr3
    obtain rfl : r = .error c := hr3
    have hc := addM_err hq
    have hc1 : (c == 0) = false := by rw [beq_eq_false_iff_ne]; exact hc
    have hc2 : (c != 0) = true := by rw [bne, hc1]; rfl
    obtain ⟨J, hJ⟩ : ∃ J, J = PInv w #[.int .i64 a.credit, su, .slice ao m cap] #[.int .i64 x0, .int .i64 x1, .int .i64 x2, .int .i64 x3, .int .i64 x4, .int .i64 x5] := ⟨_, rfl⟩
    have HJP : Hid (∀ W, J W → PInv w #[.int .i64 a.credit, su, .slice ao m cap] #[.int .i64 x0, .int .i64 x1, .int .i64 x2, .int .i64 x3, .int .i64 x4, .int .i64 x5] W) := Lib.hid fun W hW => by rw [hJ] at hW; exact hW
    have HJD : Hid (∀ W, J W → J W.drew) := Lib.hid fun W hW => by rw [hJ] at hW ⊢; exact hW.later (Below.refl _ _).drew
    have HJL : Hid (∀ W, J W → (∀ j, W.cell? ⟨w.heap.size, j, none⟩ = #[.int .i64 a.credit, su, .slice ao m cap][j]?) ∧ (∀ j, W.cell? ⟨w.heap.size + 1, j, none⟩ = #[.int .i64 x0, .int .i64 x1, .int .i64 x2, .int .i64 x3, .int .i64 x4, .int .i64 x5][j]?)) := Lib.hid fun W hW => by
      rw [hJ] at hW
      exact ⟨fun j => obj_cell hW.box j, fun j => obj_cell hW.ent j⟩
    have HAI : Hid (∀ W, I W → Calls Try.prog 69 #[v, .int .i64 a.credit, .agg #[.int .i64 y0, .int .i64 y1, .int .i64 y2, .int .i64 y3, .int .i64 y4, .int .i64 y5], .agg #[.int .i64 x0, .int .i64 x1, .int .i64 x2, .int .i64 x3, .int .i64 x4, .int .i64 x5]] W fun e w' => e = .returned (.int .i64 c) ∧ J w') := Lib.hid fun W hW => by
      rw [hI] at hW
      rw [hJ]
      exact (HCY.out _ _ W hW.2).mono fun e w' h => ⟨h.1, hW.1.grow h.2.2 HVB.out⟩
    clear hI hJ hq hc HR3 HCY HLA HCK HCE HCS
    have hnew := HI1.out
    have hcs := HCL.out _ hnew
    go_region_held3 (fun W => (∀ j, W.cell? ⟨w.heap.size, j, none⟩ = #[.int .i64 a.credit, su, .slice ao m cap][j]?) ∧ (∀ j, W.cell? ⟨w.heap.size + 1, j, none⟩ = #[.int .i64 x0, .int .i64 x1, .int .i64 x2, .int .i64 x3, .int .i64 x4, .int .i64 x5][j]?))
      (first | exact HCL.out _ (by assumption) | exact HJL.out _ (by assumption) | exact HCL.out _ (HDR.out _ (by assumption)) | exact HJL.out _ (HJD.out _ (by assumption)))
      (first
        | (go_at_call 70; (with_reducible refine (HLI.out _ (by first | assumption | exact HDR.out _ (by assumption))).mono ?_); rintro e w' ⟨rfl, hinv⟩)
        | (go_at_call 69; (with_reducible refine (HAI.out _ (by first | assumption | exact HDR.out _ (by assumption))).mono ?_); rintro e w' ⟨rfl, hinj⟩))
    have HP3 := Lib.hid (HJP.out w' (by assumption))
    clear hnew hcs hinj HCL HLI HAI HDR HI1 HJP HJD HJL
    generalize w' = w3 at *
    have hrb := HP3.out.res
    have s0 := obj_cell hrb 0
    have f0 := obj_free hrb 0
    have s1 := obj_cell hrb 1
    have f1 := obj_free hrb 1
    have s2 := obj_cell hrb 2
    have f2 := obj_free hrb 2
    simp at s0 s1 s2
    clear hrb
    go_wp2
    show bodyPost Try.prog Try.f35 _ Exit.ret _ (put3 w3 (w.heap.size + 1 + 1) (.int .i64 0) (.slice none 0 0) (.slice none 0 0))
    exact ret3 HP3.out.res rfl _ _ _ (fun F hF => by
      have q0 := obj_cell hF 0
      have q1 := obj_cell hF 1
      have q2 := obj_cell hF 2
      simp [results, Try.results35, go_sem, q0, q1, q2]) rfl ⟨rfl, put3_below HP3.out.old (by omega) _ _ _⟩
  | ok q =>
    rw [hq] at HCY
    have hr3 := HR3.out
    rw [hq] at hr3
    have HRK := Lib.hid hr3
    have HQL := Lib.hid (len_of_ids (addM_ids hq))
    obtain ⟨J, hJ⟩ : ∃ J, J = fun W : World => PInv w #[.int .i64 a.credit, su, .slice ao m cap] #[.int .i64 x0, .int .i64 x1, .int .i64 x2, .int .i64 x3, .int .i64 x4, .int .i64 x5] W ∧ W.ownsRow (w.heap.size + 1 + 1 + 1) 75 2 v q.length (cellsU q) := ⟨_, rfl⟩
    have HJP : Hid (∀ W, J W → PInv w #[.int .i64 a.credit, su, .slice ao m cap] #[.int .i64 x0, .int .i64 x1, .int .i64 x2, .int .i64 x3, .int .i64 x4, .int .i64 x5] W ∧ W.ownsRow (w.heap.size + 1 + 1 + 1) 75 2 v q.length (cellsU q)) := Lib.hid fun W hW => by rw [hJ] at hW; exact hW
    have HJD : Hid (∀ W, J W → J W.drew) := Lib.hid fun W hW => by rw [hJ] at hW ⊢; exact ⟨hW.1.later (Below.refl _ _).drew, ownsRow_below hW.2 (Below.refl _ _).drew⟩
    have HJL : Hid (∀ W, J W → (∀ j, W.cell? ⟨w.heap.size, j, none⟩ = #[.int .i64 a.credit, su, .slice ao m cap][j]?) ∧ (∀ j, W.cell? ⟨w.heap.size + 1, j, none⟩ = #[.int .i64 x0, .int .i64 x1, .int .i64 x2, .int .i64 x3, .int .i64 x4, .int .i64 x5][j]?)) := Lib.hid fun W hW => by
      rw [hJ] at hW
      exact ⟨fun j => obj_cell hW.1.box j, fun j => obj_cell hW.1.ent j⟩
    have HAI : Hid (∀ W, I W → Calls Try.prog 69 #[v, .int .i64 a.credit, .agg #[.int .i64 y0, .int .i64 y1, .int .i64 y2, .int .i64 y3, .int .i64 y4, .int .i64 y5], .agg #[.int .i64 x0, .int .i64 x1, .int .i64 x2, .int .i64 x3, .int .i64 x4, .int .i64 x5]] W fun e w' => e = .returned (.int .i64 0) ∧ J w') := Lib.hid fun W hW => by
      rw [hI] at hW
      rw [hJ]
      exact (HCY.out _ _ W hW.2).mono fun e w' h => ⟨h.1, hW.1.grow h.2.2 HVB.out, by rw [HQL.out]; exact h.2.1⟩
    clear hI hJ hq hr3 HR3 HCY HLA HCK HCS
    have hnew := HI1.out
    have hcs := HCL.out _ hnew
    go_region_held3 (fun W => (∀ j, W.cell? ⟨w.heap.size, j, none⟩ = #[.int .i64 a.credit, su, .slice ao m cap][j]?) ∧ (∀ j, W.cell? ⟨w.heap.size + 1, j, none⟩ = #[.int .i64 x0, .int .i64 x1, .int .i64 x2, .int .i64 x3, .int .i64 x4, .int .i64 x5][j]?))
      (first | exact HCL.out _ (by assumption) | exact HJL.out _ (by assumption) | exact HCL.out _ (HDR.out _ (by assumption)) | exact HJL.out _ (HJD.out _ (by assumption)))
      (first
        | (go_at_call 70; (with_reducible refine (HLI.out _ (by first | assumption | exact HDR.out _ (by assumption))).mono ?_); rintro e w' ⟨rfl, hinv⟩)
        | (go_at_call 69; (with_reducible refine (HAI.out _ (by first | assumption | exact HDR.out _ (by assumption))).mono ?_); rintro e w' ⟨rfl, hinj⟩))
    have HPJ := Lib.hid (HJP.out w' (by assumption))
    clear hnew hcs hinj HCL HLI HAI HDR HI1 HJP HJD HJL
    generalize w' = W at *
    have HPW := Lib.hid HPJ.out.1
    have HOW := Lib.hid HPJ.out.2
    clear HPJ HVB
    obtain ⟨av, cv, rfl, -, -⟩ := owns_gen HOW.out
    obtain ⟨n, hn⟩ : ∃ n, n = q.length := ⟨_, rfl⟩
    rw [← hn] at HOW ⊢
    have HNQ := Lib.hid hn
    clear hn
    go_upto_region 10 with fail
    obtain ⟨k0, hkk, hy0, hy1, hy2⟩ := infoE_parts
    have eg := enters_of Try.func52 (by kernel_rfl) rfl
    have hbx := HPW.out.box
    have b0 := obj_cell hbx 0
    have b2 := obj_cell hbx 2
    have hex := HPW.out.ent
    have e0 := obj_cell hex 0
    have e1 := obj_cell hex 1
    have e2 := obj_cell hex 2
    have e3 := obj_cell hex 3
    have e4 := obj_cell hex 4
    have e5 := obj_cell hex 5
    simp at b0 b2 e0 e1 e2 e3 e4 e5
    clear hbx hex
    have HWS : Hid (w.heap.size ≤ W.heap.size) := Lib.hid HPW.out.old.size
    have HB0 : Hid (Below W.heap.size W W) := Lib.hid (Below.refl _ _)
    have HB1 : Hid (Below W.heap.size W W.drew) := Lib.hid (Below.refl _ _).drew
    have HB2 : Hid (∀ o, Below W.heap.size W (W.alloc o)) := Lib.hid fun o => below_alloc W o
    have HB3 : Hid (∀ o, Below W.heap.size W (W.drew.alloc o)) := Lib.hid fun o => ((Below.refl _ _).drew).alloc (Nat.le_refl _) _
    have HB4 : Hid (∀ o, Below W.heap.size W (W.alloc o).drew) := Lib.hid fun o => ((Below.refl _ _).alloc (Nat.le_refl _) _).drew
    have b3 : ∀ o, (W.alloc o).cell? ⟨w.heap.size, 2, none⟩ = some (.slice ao m cap) := fun o => obj_cell (HPW.out.later (below_alloc W o)).box 2
    have b4 : ∀ o, (W.alloc o).cell? ⟨w.heap.size, 0, none⟩ = some (.int .i64 a.credit) := fun o => obj_cell (HPW.out.later (below_alloc W o)).box 0
    have HCLN : Hid (∀ V, Below W.heap.size W V → Calls Try.prog 52 #[.slice ao m cap] V fun e w' => ∃ v, e = .returned v ∧ (w'.ownsRow V.heap.size 38 6 v m (cellsN a.ents) ∧ Below V.heap.size V w')) := Lib.hid fun V hV => HCE.out V (HPW.out.old.trans (hV.mono HPW.out.old.size))
    have HEND : Hid (∀ w9 v9, Below W.heap.size W w9 → w9.ownsRow W.heap.size 38 6 v9 (m + 1) (cellsN a.ents ++ [.int .i64 x0, .int .i64 x1, .int .i64 x2, .int .i64 x3, .int .i64 x4, .int .i64 x5]) →
        ∃ en, Hid ((put3 w9 (w.heap.size + 1 + 1) (.int .i64 a.credit) (.slice av n cv) v9).heap[w.heap.size + 1 + 1]? = some (.cells #[.int .i64 a.credit, .slice av n cv, en] 28 (0, 0)))
          ∧ Hid ((put3 w9 (w.heap.size + 1 + 1) (.int .i64 a.credit) (.slice av n cv) v9).ownsRow (w.heap.size + 1 + 1 + 1) 75 2 (.slice av n cv) n (cellsU q))
          ∧ Hid ((put3 w9 (w.heap.size + 1 + 1) (.int .i64 a.credit) (.slice av n cv) v9).ownsRow (w.heap.size + 1 + 1 + 1) 38 6 en (m + 1) (cellsN a.ents ++ [.int .i64 x0, .int .i64 x1, .int .i64 x2, .int .i64 x3, .int .i64 x4, .int .i64 x5]))
          ∧ Hid (Below w.heap.size w (put3 w9 (w.heap.size + 1 + 1) (.int .i64 a.credit) (.slice av n cv) v9))) := Lib.hid fun w9 v9 hb ho => by
      have hp := HPW.out.later hb
      have hm : w9.ownsRow (w.heap.size + 1 + 1 + 1) 38 6 v9 (m + 1) (cellsN a.ents ++ [.int .i64 x0, .int .i64 x1, .int .i64 x2, .int .i64 x3, .int .i64 x4, .int .i64 x5]) := ownsRow_mono ho (obj_lt HPW.out.res)
      have hs := ownsRow_below HOW.out hb
      exact ⟨v9, Lib.hid (put3_at hp.res rfl _ _ _), Lib.hid (hs.kept (put3_grown w9 _ _ _ _) (ownBlock_ne hs _ (by omega))), Lib.hid (hm.kept (put3_grown w9 _ _ _ _) (ownBlock_ne hm _ (by omega))), Lib.hid (put3_below hp.old (by omega) _ _ _)⟩
    go_cut [5] (fun c wx => c = .int .i64 0 ∧ ∃ en, Hid (wx.heap[w.heap.size + 1 + 1]? = some (.cells #[.int .i64 a.credit, .slice av n cv, en] 28 (0, 0)))
          ∧ Hid (wx.ownsRow (w.heap.size + 1 + 1 + 1) 75 2 (.slice av n cv) n (cellsU q))
          ∧ Hid (wx.ownsRow (w.heap.size + 1 + 1 + 1) 38 6 en (m + 1) (cellsN a.ents ++ [.int .i64 x0, .int .i64 x1, .int .i64 x2, .int .i64 x3, .int .i64 x4, .int .i64 x5]))
          ∧ Hid (Below w.heap.size w wx))
    case first =>
      go_region_law (first
        | (refine step_callX _ (by rfl) 52 eg _ _ (by rfl) #[.slice ao m cap] (by simp only [List.map_toArray, List.map_cons, List.map_nil]; rfl) (HCLN.out _ (by first | exact HB0.out | exact HB1.out | exact HB2.out _ | exact HB3.out _ | exact HB4.out _)) ?_
           intro v8 w8 hq8
           obtain ⟨hown8, hbb8⟩ := hq8
           have hb8 : Below W.heap.size W w8 := (by first | exact HB0.out.trans (hbb8.mono HB0.out.size) | exact HB1.out.trans (hbb8.mono HB1.out.size) | exact (HB2.out _).trans (hbb8.mono (HB2.out _).size) | exact (HB3.out _).trans (hbb8.mono (HB3.out _).size) | exact (HB4.out _).trans (hbb8.mono (HB4.out _).size))
           have hown8' := ownsRow_mono hown8 (base' := W.heap.size) (by first | exact HB0.out.size | exact HB1.out.size | exact (HB2.out _).size | exact (HB3.out _).size | exact (HB4.out _).size)
           have hp8 := HPW.out.later hb8
           have d0 := obj_cell hp8.ent 0
           have d1 := obj_cell hp8.ent 1
           have d2 := obj_cell hp8.ent 2
           have d3 := obj_cell hp8.ent 3
           have d4 := obj_cell hp8.ent 4
           have d5 := obj_cell hp8.ent 5
           have g0 := obj_cell hp8.box 0
           have g1 : ∀ o, (w8.alloc o).cell? ⟨w.heap.size, 0, none⟩ = some (.int .i64 a.credit) := fun o => obj_cell (hp8.later (below_alloc w8 o)).box 0
           simp at d0 d1 d2 d3 d4 d5 g0)
        | (refine step_own _ (by rfl) _ _ 26 (by rfl) W.heap.size 38 k0 _ 6 48 Try.underlying26 hkk hy0 hy1 hy2 (by rfl) (by decide) v8 m (cellsN a.ents) (by rfl) (by first | exact hown8' | exact hown8'.alloc _) ⟨_, 0, none⟩ 1 1 [.int .i64 x0, .int .i64 x1, .int .i64 x2, .int .i64 x3, .int .i64 x4, .int .i64 x5] (by rfl) (by rfl) (by first | exact obj_news (heap_alloc_new _ _) | exact obj_news ((hbb8.block _ (by simp)).trans (heap_alloc_new _ _)) | exact obj_news ((hbb8.block _ (by simp)).trans (heap_alloc_new W _))) (by intro u hu; simp at hu; rcases hu with rfl | rfl | rfl | rfl | rfl | rfl <;> rfl) (by unfold maxLen; omega) (by omega) (by first | exact hb8.size | (have := hb8.size; simp; omega)) ?_
           intro v9 w9 hown9 hgr9
           have hb9 : Below W.heap.size W w9 := (by first | exact hb8.grown hgr9 hb8.size (fun r e => ownBlock_le hown8' r e) | exact (hb8.alloc hb8.size _).grown hgr9 (by have := hb8.size; simp; omega) (fun r e => ownBlock_le hown8' r e))
           have hp9 := HPW.out.later hb9
           obtain ⟨a9, c9, rfl, _, _⟩ := owns_gen hown9
           have s0 := obj_cell hp9.res 0
           have f0 := obj_free hp9.res 0
           have s1 := obj_cell hp9.res 1
           have f1 := obj_free hp9.res 1
           have s2 := obj_cell hp9.res 2
           have f2 := obj_free hp9.res 2
           have g0 := obj_cell hp9.box 0
           simp at s0 s1 s2 g0))
      all_goals
        go_wp2
        go_meet
        exact ⟨rfl, HEND.out _ _ hb9 hown9⟩
    case rest =>
      obtain ⟨rfl, en, HX2, HX3, HX4, HX5⟩ := hcut
      go_wp2
      exact retB HX2.out (fun F hF => by
        have q0 := obj_cell hF 0
        have q1 := obj_cell hF 1
        have q2 := obj_cell hF 2
        simp [results, Try.results35, go_sem, q0, q1, q2]
        rfl) rfl (by
        rw [HRK.out]
        refine ⟨.slice av n cv, en, rfl, by unfold SubsAt; rw [← HNQ.out]; exact RowG.owns HX3.out, ?_, HX5.out⟩
        have h := RowG.owns HX4.out
        unfold EntsAt
        rw [cellsN_app, List.length_append, ← HM.out]
        simpa [cellsN, Ent.cells] using h)

end Go.Proofs.Ytoelidndnajedaa
