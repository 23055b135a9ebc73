/- Contract of package ledger's Post, for a right ledger and a posting that fits. -/
import Derived.Test.YtoelidndnajedabMLgC
import Derived.Test.YtoelidndnajedabMG3
import Derived.Deep.Cut
import Derived.Deep.RegionWith
import Derived.Handy
set_option linter.unusedSimpArgs false
set_option linter.unusedVariables false
set_option linter.unusedSimpArgs false
set_option linter.unusedVariables false
namespace Go.Proofs.Ytoelidndnajedab
open Go.RowKit Go.Lib Go.Proofs

theorem obj_newsP {V : World} {g : Nat} {cs : Array Value} {T : TypeId} (h : V.heap[g]? = some (.cells cs T (0, 0))) : ∀ j u, cs.toList[j]? = some u → V.cell? ((⟨g, 0, none⟩ : Addr).add j) = some u := by
  intro j u hu
  rw [show (⟨g, 0, none⟩ : Addr).add j = ⟨g, 0 + j, none⟩ by unfold Addr.add; split <;> simp_all, Nat.zero_add, obj_cell h]
  simpa using hu
theorem lgClone_right {l : List Pst} (h : LdgOk l) (v : Value) (w : World) (hv : PstsAt w v l) : Calls Try.prog 35 #[v] w fun e w' => ∃ v', e = .returned v' ∧ w'.ownsRow w.heap.size 37 8 v' l.length (cellsL pstC l) ∧ Below w.heap.size w w' := clonePst_any pstC pstF l v w hv (by have := h.len; omega)

set_option maxRecDepth 100000 in
set_option maxHeartbeats 16000000 in
theorem lgPost_right {l : List Pst} {p : Pst} (h : LdgOk l) (hlen : l.length < 400) (hp : PstOk p) (hnum : p.num = (l.length : Int) + 1) (hday : (lastP l).day ≤ p.day) (v : Value) (w : World) (hv : PstsAt w v l) :
    Calls Try.prog 13 #[.agg #[v], .agg (pstC p).toArray] w fun e w' => ∃ u, e = .returned (.tuple #[.agg #[u], .int .i64 0]) ∧ w'.ownsRow w.heap.size 37 8 u (l.length + 1) (cellsL pstC (l ++ [p])) ∧ Below w.heap.size w w' := by
  obtain ⟨i0, hi0, hz0, hz1, hz2⟩ := info_parts Try.infoClnPst
  have HCK := Lib.hid (fun W (hW : Below w.heap.size w W) => lgCheck_right h v W (hv.below hW))
  have HCL := Lib.hid (fun W (hW : Below w.heap.size w W) => lgClone_right h v W (hv.below hW))
  have HPO := Lib.hid (fun W => lgPosting_right hp W)
  have HF := Lib.hid (fun W => lgfollows_right (p := lastP l) (q := p) (by rw [hnum, h.last.1]) (by rw [h.last.1]; omega) (by rw [h.last.1]; omega) hday W)
  have HLA : Hid (∀ m, l.length = m + 1 → lastP l = pstAt l m) := Lib.hid fun m hm => lastP_at hm
  have HZ : Hid (l.length = 0 → lastP l = Pst.zero) := Lib.hid fun hz => by obtain rfl := List.length_eq_zero_iff.1 hz; rfl
  have HSN : Hid (cellsL pstC (l ++ [p]) = cellsL pstC l ++ pstC p) := Lib.hid (cellsL_snoc _ _ _).symm
  obtain ⟨ao, cap, rfl, hcap, hcs⟩ := hv.open
  have HCS := Lib.hid hcs
  obtain ⟨n, hn⟩ : ∃ n, n = l.length := ⟨_, rfl⟩
  rw [← hn] at hcap hlen HCK HCL HLA HZ ⊢
  obtain ⟨CL, hCL⟩ : ∃ CL, CL = cellsL pstC l := ⟨_, rfl⟩
  rw [← hCL] at HCL HSN
  rw [HSN.out]
  obtain ⟨q, hq⟩ : ∃ q, q = lastP l := ⟨_, rfl⟩
  rw [← hq] at HF HLA HZ
  have HN := Lib.hid hn
  clear h hp hnum hday hv hcs hn hCL hq HSN
  obtain ⟨x0, x1, x2, x3, x4, x5, x6, x7⟩ := p
  simp only [pstC] at HF HPO ⊢
  obtain ⟨w0, hw0⟩ : ∃ w0, w0 = ((w.alloc (.cells #[.slice ao n cap] 28)).alloc (.cells #[.int .i64 x0, .int .i64 x1, .int .i64 x2, .int .i64 x3, .int .i64 x4, .int .i64 x5, .int .i64 x6, .int .i64 x7] 37)).alloc (.cells #[.slice none 0 0] 28) := ⟨_, rfl⟩
  have HB0 : Hid (Below w.heap.size w w0) := Lib.hid (by rw [hw0]; exact ((below_alloc w _).trans ((below_alloc _ _).mono (by simp))).trans ((below_alloc _ _).mono (by simp; omega)))
  have HL0 : Hid (w0.heap[w.heap.size]? = some (.cells #[.slice ao n cap] 28 (0, 0))) := Lib.hid (by rw [hw0]; exact obj_below (obj_below (heap_alloc_new w _) (below_alloc _ _)) (below_alloc _ _))
  have HP0 : Hid (w0.heap[w.heap.size + 1]? = some (.cells #[.int .i64 x0, .int .i64 x1, .int .i64 x2, .int .i64 x3, .int .i64 x4, .int .i64 x5, .int .i64 x6, .int .i64 x7] 37 (0, 0))) := Lib.hid (by rw [hw0]; exact obj_below (by have := heap_alloc_new (w.alloc (.cells #[.slice ao n cap] 28)) (.cells #[.int .i64 x0, .int .i64 x1, .int .i64 x2, .int .i64 x3, .int .i64 x4, .int .i64 x5, .int .i64 x6, .int .i64 x7] 37); simpa using this) (below_alloc _ _))
  have HR0 : Hid (w0.heap[w.heap.size + 2]? = some (.cells #[.slice none 0 0] 28 (0, 0))) := Lib.hid (by rw [hw0]; have := heap_alloc_new ((w.alloc (.cells #[.slice ao n cap] 28)).alloc (.cells #[.int .i64 x0, .int .i64 x1, .int .i64 x2, .int .i64 x3, .int .i64 x4, .int .i64 x5, .int .i64 x6, .int .i64 x7] 37)) (.cells #[.slice none 0 0] 28); simpa using this)
  have hwE := hw0.symm
  have hl0 := HL0.out
  have s0 := obj_cell hl0 0
  simp at s0
  clear hw0 hl0
  go_enter Try.func13, Try.ntmps13
  go_wp2_with fail
  refine (HCK.out _ HB0.out).mono ?_
  rintro e w1 ⟨rfl, hb1⟩
  have HB1 := Lib.hid (HB0.out.trans (hb1.mono HB0.out.size))
  have HL1 := Lib.hid (obj_below HL0.out hb1)
  have HP1 := Lib.hid (obj_below HP0.out hb1)
  have HR1 := Lib.hid (obj_below HR0.out hb1)
  have hl1 := HL1.out
  have hp1 := HP1.out
  have g0 := obj_cell hl1 0
  simp at g0
  have e0 := obj_cell hp1 0
  have e1 := obj_cell hp1 1
  have e2 := obj_cell hp1 2
  have e3 := obj_cell hp1 3
  have e4 := obj_cell hp1 4
  have e5 := obj_cell hp1 5
  have e6 := obj_cell hp1 6
  have e7 := obj_cell hp1 7
  simp at e0 e1 e2 e3 e4 e5 e6 e7
  clear hb1 hl1 hp1 HL0 HP0 HR0 HCK s0 hwE
  have hn4 : ¬ (n : Int) = 400 := by omega
  have hn4b : ((n : Int) == 400) = false := by rw [beq_eq_false_iff_ne]; exact hn4
  go_wp2_with fail
  refine (HPO.out _).mono ?_
  rintro e w2 ⟨rfl, hb2⟩
  have HB2 := Lib.hid (HB1.out.trans (hb2.mono HB1.out.size))
  have HL2 := Lib.hid (obj_below HL1.out hb2)
  have HP2 := Lib.hid (obj_below HP1.out hb2)
  have HR2 := Lib.hid (obj_below HR1.out hb2)
  clear hb2 e0 e1 e2 e3 e4 e5 e6 e7 g0 HL1 HP1 HR1 HPO
  have hsz2 : w.heap.size + 2 < w2.heap.size := obj_lt HR2.out
  have hl2 := HL2.out
  have g0 := obj_cell hl2 0
  simp at g0
  clear hl2
  have hls : w.heap.size < w2.heap.size := by omega
  cases n with
  | zero =>
    obtain rfl := HZ.out rfl
    obtain ⟨w3, hw3⟩ : ∃ w3, w3 = w2.alloc (.cells #[.int .i64 0, .int .i64 0, .int .i64 0, .int .i64 0, .int .i64 0, .int .i64 0, .int .i64 0, .int .i64 0] 37) := ⟨_, rfl⟩
    have HB3 : Hid (Below w.heap.size w w3) := Lib.hid (by rw [hw3]; exact HB2.out.alloc HB2.out.size _)
    have HL3 : Hid (w3.heap[w.heap.size]? = some (.cells #[.slice ao 0 cap] 28 (0, 0))) := Lib.hid (by rw [hw3]; exact obj_below HL2.out (below_alloc w2 _))
    have HP3 : Hid (w3.heap[w.heap.size + 1]? = some (.cells #[.int .i64 x0, .int .i64 x1, .int .i64 x2, .int .i64 x3, .int .i64 x4, .int .i64 x5, .int .i64 x6, .int .i64 x7] 37 (0, 0))) := Lib.hid (by rw [hw3]; exact obj_below HP2.out (below_alloc w2 _))
    have HR3 : Hid (w3.heap[w.heap.size + 2]? = some (.cells #[.slice none 0 0] 28 (0, 0))) := Lib.hid (by rw [hw3]; exact obj_below HR2.out (below_alloc w2 _))
    have HQ3 : Hid (w3.heap[w2.heap.size]? = some (.cells #[.int .i64 0, .int .i64 0, .int .i64 0, .int .i64 0, .int .i64 0, .int .i64 0, .int .i64 0, .int .i64 0] 37 (0, 0))) := Lib.hid (by rw [hw3]; exact heap_alloc_new w2 _)
    have HW3 := Lib.hid hw3
    clear hw3
    simp only [Pst.zero] at HF
    go_upto_region 12 with fail
    rw [← HW3.out]
    have hp3 := HP3.out
    have hq3 := HQ3.out
    have c0 := obj_cell hp3 0
    have c1 := obj_cell hp3 1
    have c2 := obj_cell hp3 2
    have c3 := obj_cell hp3 3
    have c4 := obj_cell hp3 4
    have c5 := obj_cell hp3 5
    have c6 := obj_cell hp3 6
    have c7 := obj_cell hp3 7
    simp at c0 c1 c2 c3 c4 c5 c6 c7
    have d0 := obj_cell hq3 0
    have d1 := obj_cell hq3 1
    have d2 := obj_cell hq3 2
    have d3 := obj_cell hq3 3
    have d4 := obj_cell hq3 4
    have d5 := obj_cell hq3 5
    have d6 := obj_cell hq3 6
    have d7 := obj_cell hq3 7
    simp at d0 d1 d2 d3 d4 d5 d6 d7
    clear hp3 hq3
    go_wp2_with fail
    refine (HF.out _).mono ?_
    rintro e w4 ⟨rfl, hb4⟩
    have HB4 := Lib.hid (HB3.out.trans (hb4.mono HB3.out.size))
    have HP4 := Lib.hid (obj_below HP3.out hb4)
    have HL4 := Lib.hid (obj_below HL3.out hb4)
    have HR4 := Lib.hid (obj_below HR3.out hb4)
    have hp4 := HP4.out
    have hl4 := HL4.out
    have hr4 := HR4.out
    clear hb4
    have e0 := obj_cell hp4 0
    have e1 := obj_cell hp4 1
    have e2 := obj_cell hp4 2
    have e3 := obj_cell hp4 3
    have e4 := obj_cell hp4 4
    have e5 := obj_cell hp4 5
    have e6 := obj_cell hp4 6
    have e7 := obj_cell hp4 7
    simp at e0 e1 e2 e3 e4 e5 e6 e7
    have g0 := obj_cell hl4 0
    simp at g0
    have r0 := obj_cell hr4 0
    simp at r0
    have rf := obj_free hr4 0
    clear hp4 hl4 hr4
    obtain ⟨J, hJ⟩ : ∃ J, J = fun W : World => Below w4.heap.size w4 W := ⟨_, rfl⟩
    have HJO : Hid (∀ W, J W → Below w4.heap.size w4 W) := Lib.hid fun W hW => by rw [hJ] at hW; exact hW
    have HJI : Hid (∀ W, Below w4.heap.size w4 W → J W) := Lib.hid fun W hW => by rw [hJ]; exact hW
    have HJD : Hid (∀ W, J W → J W.drew) := Lib.hid fun W hW => HJI.out _ ((HJO.out W hW).drew)
    have HJA : Hid (∀ W o, J W → J (W.alloc o)) := Lib.hid fun W o hW => HJI.out _ ((HJO.out W hW).alloc (HJO.out W hW).size o)
    have HJ0 : Hid (J w4) := Lib.hid (HJI.out _ (Below.refl _ _))
    have HCLX : Hid (∀ W, J W → Calls Try.prog 35 #[.slice ao 0 cap] W fun e w' => ∃ cv, e = .returned cv ∧ w'.ownsRow w4.heap.size 37 8 cv 0 CL ∧ J w' ∧ Below W.heap.size W w') := Lib.hid fun W hW => by
      refine (HCL.out W (HB4.out.trans ((HJO.out W hW).mono HB4.out.size))).mono ?_
      rintro e w' ⟨v', h1, h2, h3⟩
      exact ⟨v', h1, ownsRow_mono h2 (HJO.out W hW).size, HJI.out _ ((HJO.out W hW).trans (h3.mono (HJO.out W hW).size)), h3⟩
    have HMP : Hid (∀ W, J W → ∀ j, W.cell? ⟨w.heap.size + 1, j, none⟩ = #[.int .i64 x0, .int .i64 x1, .int .i64 x2, .int .i64 x3, .int .i64 x4, .int .i64 x5, .int .i64 x6, .int .i64 x7][j]?) := Lib.hid fun W hW j => obj_cell (obj_below HP4.out (HJO.out W hW)) j
    have HML : Hid (∀ W, J W → ∀ j, W.cell? ⟨w.heap.size, j, none⟩ = #[.slice ao 0 cap][j]?) := Lib.hid fun W hW j => obj_cell (obj_below HL4.out (HJO.out W hW)) j
    have HMR : Hid (∀ W, J W → W.heap[w.heap.size + 2]? = some (.cells #[.slice none 0 0] 28 (0, 0))) := Lib.hid fun W hW => obj_below HR4.out (HJO.out W hW)
    have egC : ∀ args w, (callFunc 35 args).run Try.prog w = .ok (.enter 35 args) w := enters_of Try.func35 (by kernel_rfl) rfl
    have hrb : w.heap.size + 2 < w4.heap.size := obj_lt HR4.out
    clear hJ
    go_upto_region 15 with fail
    obtain ⟨P, hP⟩ : ∃ P : Nat → Value → World → Prop, P = fun j v W => match j with | 0 => (v = .pointer (some ⟨w.heap.size, 0, none⟩)) | 1 => (v = .slice ao 0 cap) | 2 => (∃ cv, v = cv ∧ W.ownsRow w4.heap.size 37 8 cv (0) (CL)) | 3 => (v = .agg #[.int .i64 x0, .int .i64 x1, .int .i64 x2, .int .i64 x3, .int .i64 x4, .int .i64 x5, .int .i64 x6, .int .i64 x7]) | 4 => (∃ bq, v = .slice (some ⟨bq, 0, none⟩) 1 1 ∧ W.heap[bq]? = some (.cells #[.int .i64 x0, .int .i64 x1, .int .i64 x2, .int .i64 x3, .int .i64 x4, .int .i64 x5, .int .i64 x6, .int .i64 x7] 37 (0, 0))) | _ => True := ⟨_, rfl⟩
    have HPI0 : Hid (∀ v W, P 0 v W ↔ (v = .pointer (some ⟨w.heap.size, 0, none⟩))) := Lib.hid fun v W => by rw [hP] <;> exact Iff.rfl
    have HPI1 : Hid (∀ v W, P 1 v W ↔ (v = .slice ao 0 cap)) := Lib.hid fun v W => by rw [hP] <;> exact Iff.rfl
    have HPI2 : Hid (∀ v W, P 2 v W ↔ (∃ cv, v = cv ∧ W.ownsRow w4.heap.size 37 8 cv (0) (CL))) := Lib.hid fun v W => by rw [hP] <;> exact Iff.rfl
    have HPI3 : Hid (∀ v W, P 3 v W ↔ (v = .agg #[.int .i64 x0, .int .i64 x1, .int .i64 x2, .int .i64 x3, .int .i64 x4, .int .i64 x5, .int .i64 x6, .int .i64 x7])) := Lib.hid fun v W => by rw [hP] <;> exact Iff.rfl
    have HPI4 : Hid (∀ v W, P 4 v W ↔ (∃ bq, v = .slice (some ⟨bq, 0, none⟩) 1 1 ∧ W.heap[bq]? = some (.cells #[.int .i64 x0, .int .i64 x1, .int .i64 x2, .int .i64 x3, .int .i64 x4, .int .i64 x5, .int .i64 x6, .int .i64 x7] 37 (0, 0)))) := Lib.hid fun v W => by rw [hP] <;> exact Iff.rfl
    have HKP : Hid (∀ (j : Nat) v W W', Below W.heap.size W W' → P j v W → P j v W') := Lib.hid (by
      rw [hP]
      intro j v W W' hb h
      match j, h with
      | 0, h => exact h
      | 1, h => exact h
      | 2, ⟨cv, e, s0⟩ => exact ⟨cv, e, ownsRow_below s0 hb⟩
      | 3, h => exact h
      | 4, ⟨bq, e, s0⟩ => exact ⟨bq, e, obj_below s0 hb⟩
      | j + 5, _ => trivial)
    clear hP
    refine wp_region_tail [44, 45, 46, 47, 48, 49, 50, 5] (slotS [44, 45, 46, 47, 48]) (readsS [44, 45, 46, 47, 48]) (RP [44, 45, 46, 47, 48] P) J (fun k f W => match k with | 0 => (∃ (cv : Value) (bq : Nat), f 46 = cv ∧ f 48 = .slice (some ⟨bq, 0, none⟩) 1 1 ∧ J W ∧ W.ownsRow w4.heap.size 37 8 cv (0) (CL) ∧ W.heap[bq]? = some (.cells #[.int .i64 x0, .int .i64 x1, .int .i64 x2, .int .i64 x3, .int .i64 x4, .int .i64 x5, .int .i64 x6, .int .i64 x7] 37 (0, 0))) | 1 => (∃ uq : Value, f 49 = uq ∧ J W ∧ W.ownsRow w4.heap.size 37 8 uq (0 + 1) (CL ++ [.int .i64 x0, .int .i64 x1, .int .i64 x2, .int .i64 x3, .int .i64 x4, .int .i64 x5, .int .i64 x6, .int .i64 x7])) | 2 => (∃ uq : Value, f 50 = .agg #[uq] ∧ J W ∧ W.ownsRow w4.heap.size 37 8 uq (0 + 1) (CL ++ [.int .i64 x0, .int .i64 x1, .int .i64 x2, .int .i64 x3, .int .i64 x4, .int .i64 x5, .int .i64 x6, .int .i64 x7])) | 3 => (∃ uq : Value, Below w.heap.size w W ∧ W.heap[w.heap.size + 2]? = some (.cells #[uq] 28 (0, 0)) ∧ W.ownsRow w.heap.size 37 8 uq (0 + 1) (CL ++ [.int .i64 x0, .int .i64 x1, .int .i64 x2, .int .i64 x3, .int .i64 x4, .int .i64 x5, .int .i64 x6, .int .i64 x7])) | _ => (∃ uq : Value, f 5 = .int .i64 0 ∧ Below w.heap.size w W ∧ W.heap[w.heap.size + 2]? = some (.cells #[uq] 28 (0, 0)) ∧ W.ownsRow w.heap.size 37 8 uq (0 + 1) (CL ++ [.int .i64 x0, .int .i64 x1, .int .i64 x2, .int .i64 x3, .int .i64 x4, .int .i64 x5, .int .i64 x6, .int .i64 x7]))) 5 8 (by decide) (by kernel_rfl) (by kernel_rfl) (by kernel_rfl) (by kernel_rfl) (HJD.out _ HJ0.out) (fun j f q v W hq h => RP.upd hq h) ?_ ?_ ?_ ?_
    case refine_1 =>
      intro iq hiq f W hIW hdep0
      have hdep : ∀ j, depB _ iq j = true → P j (f (slotS [44, 45, 46, 47, 48] j)) W := hdep0
      clear hdep0
      generalize ha1 : putsL _ [44, 45, 46, 47, 48, 49, 50, 5] f = a1
      match iq, hiq, hdep with
      | 0, _, hdep0 =>
        have E2 : a1.tmps[2]?.getD undef = .pointer (some ⟨w.heap.size, 0, none⟩) := by rw [← ha1]; exact (putsL_out2 _ _ _ _ (by decide)).trans rfl
        exact wpOp_val rfl rfl (v := .pointer (some ⟨w.heap.size, 0, none⟩)) (w' := W) (by simp [execOp, go_sem, E2]) ⟨hIW, fun _ h => h, _, by decide, rfl, RP.set ((HPI0.out _ _).2 rfl)⟩
      | 1, _, hdep0 =>
        have hd0 := (HPI0.out _ _).1 (hdep0 0 (by kernel_rfl))
        have E44 : a1.tmps[44]?.getD undef = .pointer (some ⟨w.heap.size, 0, none⟩) := by rw [← ha1]; exact (putsL_in2 _ _ _ _ (by decide) (show 44 < 51 from by decide)).trans hd0
        have v0 : W.cell? ⟨w.heap.size, 0, none⟩ = some (.slice ao 0 cap) := by simpa using HML.out W hIW 0
        exact wpOp_val rfl rfl (v := .slice ao 0 cap) (w' := W) (by simp [execOp, go_sem, E44, v0]) ⟨hIW, fun _ h => h, _, by decide, rfl, RP.set ((HPI1.out _ _).2 rfl)⟩
      | 2, _, hdep0 =>
        have hd1 := (HPI1.out _ _).1 (hdep0 1 (by kernel_rfl))
        have E45 : a1.tmps[45]?.getD undef = .slice ao 0 cap := by rw [← ha1]; exact (putsL_in2 _ _ _ _ (by decide) (show 45 < 51 from by decide)).trans hd1
        refine wpOp_call rfl rfl (n := 35) (vs := #[.slice ao 0 cap]) (by have := egC #[.slice ao 0 cap] W; simp [execOp, E45, resolve, invoke, go_sem] <;> exact this) ((HCLX.out W hIW).mono fun e w' hh => (by obtain ⟨cv, rfl, p0, hJ', hb'⟩ := hh; exact ⟨_, rfl, (HPI2.out _ _).2 ⟨_, rfl, p0⟩, hJ', hb'⟩ : ∃ v, e = .returned v ∧ (P 2 v w' ∧ J w' ∧ Below W.heap.size W w'))) ?_
        rintro v w' ⟨hv, hI', hb'⟩
        exact ⟨hI', fun j h => HKP.out j _ _ _ hb' h, _, by decide, rfl, RP.set hv⟩
      | 3, _, hdep0 =>
        have E3 : a1.tmps[3]?.getD undef = .pointer (some ⟨w.heap.size + 1, 0, none⟩) := by rw [← ha1]; exact (putsL_out2 _ _ _ _ (by decide)).trans rfl
        have v0 : W.cell? ⟨w.heap.size + 1, 0, none⟩ = some (.int .i64 x0) := by simpa using HMP.out W hIW 0
        have v1 : W.cell? ⟨w.heap.size + 1, 1, none⟩ = some (.int .i64 x1) := by simpa using HMP.out W hIW 1
        have v2 : W.cell? ⟨w.heap.size + 1, 2, none⟩ = some (.int .i64 x2) := by simpa using HMP.out W hIW 2
        have v3 : W.cell? ⟨w.heap.size + 1, 3, none⟩ = some (.int .i64 x3) := by simpa using HMP.out W hIW 3
        have v4 : W.cell? ⟨w.heap.size + 1, 4, none⟩ = some (.int .i64 x4) := by simpa using HMP.out W hIW 4
        have v5 : W.cell? ⟨w.heap.size + 1, 5, none⟩ = some (.int .i64 x5) := by simpa using HMP.out W hIW 5
        have v6 : W.cell? ⟨w.heap.size + 1, 6, none⟩ = some (.int .i64 x6) := by simpa using HMP.out W hIW 6
        have v7 : W.cell? ⟨w.heap.size + 1, 7, none⟩ = some (.int .i64 x7) := by simpa using HMP.out W hIW 7
        exact wpOp_val rfl rfl (v := .agg #[.int .i64 x0, .int .i64 x1, .int .i64 x2, .int .i64 x3, .int .i64 x4, .int .i64 x5, .int .i64 x6, .int .i64 x7]) (w' := W) (by simp [execOp, go_sem, E3, v0, v1, v2, v3, v4, v5, v6, v7]) ⟨hIW, fun _ h => h, _, by decide, rfl, RP.set ((HPI3.out _ _).2 rfl)⟩
      | 4, _, hdep0 =>
        have hd3 := (HPI3.out _ _).1 (hdep0 3 (by kernel_rfl))
        have E47 : a1.tmps[47]?.getD undef = .agg #[.int .i64 x0, .int .i64 x1, .int .i64 x2, .int .i64 x3, .int .i64 x4, .int .i64 x5, .int .i64 x6, .int .i64 x7] := by rw [← ha1]; exact (putsL_in2 _ _ _ _ (by decide) (show 47 < 51 from by decide)).trans hd3
        exact wpOp_val rfl rfl (v := .slice (some ⟨W.heap.size, 0, none⟩) 1 1) (w' := W.alloc (.cells #[.int .i64 x0, .int .i64 x1, .int .i64 x2, .int .i64 x3, .int .i64 x4, .int .i64 x5, .int .i64 x6, .int .i64 x7] 37)) (by simp [execOp, go_sem, E47]) ⟨(HJA.out _ _ hIW), fun j h => HKP.out j _ _ _ (below_alloc _ _) h, _, by decide, rfl, RP.set ((HPI4.out _ _).2 ⟨_, rfl, heap_alloc_new _ _⟩)⟩
      | iq + 5, h, _ => exact absurd h (by omega)
    case refine_2 =>
      intro f W hIW hR
      have h46 := (HPI2.out _ _).1 (hR 2 (by decide))
      have h48 := (HPI4.out _ _).1 (hR 4 (by decide))
      obtain ⟨cv, h46, hown⟩ := h46
      obtain ⟨bq, h48, hbq⟩ := h48
      exact ⟨cv, bq, h46, h48, hIW, hown, hbq⟩
    case refine_3 =>
      intro iq hsq hiq f W hIt0
      have hiq2 : iq < 9 := hiq
      have hIt := hIt0
      clear hIt0
      rcases (show iq = 5 ∨ iq = 6 ∨ iq = 7 ∨ iq = 8 by omega) with rfl | rfl | rfl | rfl
      · clear hsq hiq hiq2
        obtain ⟨cv, bq, h46, h48, hIW, hown, hbq⟩ := hIt
        refine wpOp_append rfl rfl (.tmp 46) (.tmp 48) 26 rfl w4.heap.size 37 i0 (.agg #[.int .i64 0, .int .i64 0, .int .i64 0, .int .i64 0, .int .i64 0, .int .i64 0, .int .i64 0, .int .i64 0]) 8 64 Try.underlying26 hi0 hz0 hz1 hz2 rfl (by decide) cv (0) CL ?_ hown ⟨bq, 0, none⟩ 1 1 [.int .i64 x0, .int .i64 x1, .int .i64 x2, .int .i64 x3, .int .i64 x4, .int .i64 x5, .int .i64 x6, .int .i64 x7] ?_ rfl (obj_new_cells hbq) (pstF.one ⟨x0, x1, x2, x3, x4, x5, x6, x7⟩) (by unfold maxLen; omega) (by omega) (HJO.out W hIW).size ?_
        · exact (putsL_in _ _ _ _ (by decide) (show 46 < 51 from by decide)).trans h46
        · exact (putsL_in _ _ _ _ (by decide) (show 48 < 51 from by decide)).trans h48
        · intro v' w' h2 h3
          have hnew : ∃ uq : Value, updF f 49 v' 49 = uq ∧ J w' ∧ w'.ownsRow w4.heap.size 37 8 uq (0 + 1) (CL ++ [.int .i64 x0, .int .i64 x1, .int .i64 x2, .int .i64 x3, .int .i64 x4, .int .i64 x5, .int .i64 x6, .int .i64 x7]) := ⟨v', updF_same _ _ _, HJI.out _ ((HJO.out W hIW).grown h3 (HJO.out W hIW).size fun j e => ownBlock_le hown j e), h2⟩
          exact ⟨updF f 49 v', putsL_put _ _ _ _ _ (by decide), hnew⟩
      · clear hsq hiq hiq2
        obtain ⟨u, h49, hIW, hown⟩ := hIt
        obtain ⟨au, cu, rfl, -, -⟩ := owns_gen hown
        generalize ha1 : putsL _ [44, 45, 46, 47, 48, 49, 50, 5] f = a1
        have E49 : a1.tmps[49]?.getD undef = .slice au (0 + 1) cu := by rw [← ha1]; exact (putsL_in2 _ _ _ _ (by decide) (show 49 < 51 from by decide)).trans h49
        have hnew : ∃ uq : Value, updF f 50 (.agg #[.slice au (0 + 1) cu]) 50 = .agg #[uq] ∧ J W ∧ W.ownsRow w4.heap.size 37 8 uq (0 + 1) (CL ++ [.int .i64 x0, .int .i64 x1, .int .i64 x2, .int .i64 x3, .int .i64 x4, .int .i64 x5, .int .i64 x6, .int .i64 x7]) := ⟨_, updF_same _ _ _, hIW, hown⟩
        exact wpOp_val rfl rfl (v := .agg #[.slice au (0 + 1) cu]) (w' := W) (by simp [execOp, go_sem, E49]) ⟨updF f 50 (.agg #[.slice au (0 + 1) cu]), by rw [← ha1]; exact putsL_put _ _ _ _ _ (by decide), hnew⟩
      · clear hsq hiq hiq2
        obtain ⟨u, h50, hIW, hown⟩ := hIt
        obtain ⟨au, cu, rfl, -, -⟩ := owns_gen hown
        generalize ha1 : putsL _ [44, 45, 46, 47, 48, 49, 50, 5] f = a1
        have E50 : a1.tmps[50]?.getD undef = .agg #[.slice au (0 + 1) cu] := by rw [← ha1]; exact (putsL_in2 _ _ _ _ (by decide) (show 50 < 51 from by decide)).trans h50
        have E4 : a1.tmps[4]?.getD undef = .pointer (some ⟨w.heap.size + 2, 0, none⟩) := by rw [← ha1]; exact (putsL_out2 _ _ _ _ (by decide)).trans rfl
        have hR := HMR.out W hIW
        have p0 := obj_cell hR 0
        have f0 := obj_free hR 0
        simp at p0
        have hg : W.grownBy (W.setCell ⟨w.heap.size + 2, 0, none⟩ (.slice au (0 + 1) cu)) (some (w.heap.size + 2)) := setCell_grown _ _
        have hset := obj_set hR 0 (.slice au (0 + 1) cu)
        simp only [List.setIfInBounds_toArray, List.set_cons_zero] at hset
        have hnew : ∃ uq : Value, Below w.heap.size w (W.setCell ⟨w.heap.size + 2, 0, none⟩ (.slice au (0 + 1) cu)) ∧ (W.setCell ⟨w.heap.size + 2, 0, none⟩ (.slice au (0 + 1) cu)).heap[w.heap.size + 2]? = some (.cells #[uq] 28 (0, 0)) ∧ (W.setCell ⟨w.heap.size + 2, 0, none⟩ (.slice au (0 + 1) cu)).ownsRow w.heap.size 37 8 uq (0 + 1) (CL ++ [.int .i64 x0, .int .i64 x1, .int .i64 x2, .int .i64 x3, .int .i64 x4, .int .i64 x5, .int .i64 x6, .int .i64 x7]) := ⟨_, (HB4.out.trans ((HJO.out W hIW).mono HB4.out.size)).grown hg (HB4.out.trans ((HJO.out W hIW).mono HB4.out.size)).size (fun j e => by injection e with e; omega), hset, ownsRow_mono (hown.kept hg (ownBlock_ne hown _ hrb)) HB4.out.size⟩
        exact wpOp_skip rfl rfl (w' := W.setCell ⟨w.heap.size + 2, 0, none⟩ (.slice au (0 + 1) cu)) (by simp [execOp, go_sem, E4, E50, p0, f0]) ⟨f, ha1.symm, hnew⟩
      · clear hsq hiq hiq2
        obtain ⟨u, hbw, hset, hown⟩ := hIt
        generalize ha1 : putsL _ [44, 45, 46, 47, 48, 49, 50, 5] f = a1
        have hnew : ∃ uq : Value, updF f 5 (.int .i64 0) 5 = .int .i64 0 ∧ Below w.heap.size w W ∧ W.heap[w.heap.size + 2]? = some (.cells #[uq] 28 (0, 0)) ∧ W.ownsRow w.heap.size 37 8 uq (0 + 1) (CL ++ [.int .i64 x0, .int .i64 x1, .int .i64 x2, .int .i64 x3, .int .i64 x4, .int .i64 x5, .int .i64 x6, .int .i64 x7]) := ⟨u, updF_same _ _ _, hbw, hset, hown⟩
        exact wpOp_val rfl rfl (v := .int .i64 0) (w' := W) (by simp [execOp, go_sem]) ⟨updF f 5 (.int .i64 0), by rw [← ha1]; exact putsL_put _ _ _ _ _ (by decide), hnew⟩
    case refine_4 =>
      intro f W hIt
      simp only [putsL, List.foldl_cons, List.foldl_nil, Act.put, List.setIfInBounds_toArray, List.set_cons_zero, List.set_cons_succ]
      obtain ⟨u, h5, hbw, hset, hown⟩ := hIt
      have p0 := obj_cell hset 0
      simp at p0
      go_wp2
      refine bodyPost_ret (v := .tuple #[.agg #[u], .int .i64 0]) (by simp [results, Try.results13, go_sem, p0, h5]) rfl ⟨u, rfl, hown, hbw⟩

  | succ m =>
    have hqm := HLA.out m rfl
    obtain ⟨b, o, rfl, hb, hcc⟩ := HCS.out (by rw [← HN.out]; omega)
    have hcell := fun j (hj : j < 8) => (HB2.out.cell (p := ⟨b, o + m * 8 + j, none⟩) hb).trans (hcc m (by rw [← HN.out]; omega) j hj)
    rw [← hqm] at hcell
    have hb2 : b < w2.heap.size := by omega
    have hm0 : (0 : Int) ≤ (m : Int) := by omega
    have hm1 : (0 : Int) < ((m + 1 : Nat) : Int) := by omega
    have hwr : IntKind.i64.wrap (((m + 1 : Nat) : Int) - 1) = (m : Int) := by rw [show ((m + 1 : Nat) : Int) - 1 = (m : Int) by omega]; exact IntWalk.i64_in _ (by omega)
    clear hqm hcc HLA HZ
    obtain ⟨y0, y1, y2, y3, y4, y5, y6, y7⟩ := q
    simp only at HF
    have s0 := hcell 0 (by omega)
    have s1 := hcell 1 (by omega)
    have s2 := hcell 2 (by omega)
    have s3 := hcell 3 (by omega)
    have s4 := hcell 4 (by omega)
    have s5 := hcell 5 (by omega)
    have s6 := hcell 6 (by omega)
    have s7 := hcell 7 (by omega)
    simp [pstC] at s0 s1 s2 s3 s4 s5 s6 s7
    clear hcell
    obtain ⟨w3, hw3⟩ : ∃ w3, w3 = w2.alloc (.cells #[.int .i64 y0, .int .i64 y1, .int .i64 y2, .int .i64 y3, .int .i64 y4, .int .i64 y5, .int .i64 y6, .int .i64 y7] 37) := ⟨_, rfl⟩
    have HB3 : Hid (Below w.heap.size w w3) := Lib.hid (by rw [hw3]; exact HB2.out.alloc HB2.out.size _)
    have HL3 : Hid (w3.heap[w.heap.size]? = some (.cells #[.slice (some ⟨b, o, none⟩) (m + 1) cap] 28 (0, 0))) := Lib.hid (by rw [hw3]; exact obj_below HL2.out (below_alloc w2 _))
    have HP3 : Hid (w3.heap[w.heap.size + 1]? = some (.cells #[.int .i64 x0, .int .i64 x1, .int .i64 x2, .int .i64 x3, .int .i64 x4, .int .i64 x5, .int .i64 x6, .int .i64 x7] 37 (0, 0))) := Lib.hid (by rw [hw3]; exact obj_below HP2.out (below_alloc w2 _))
    have HR3 : Hid (w3.heap[w.heap.size + 2]? = some (.cells #[.slice none 0 0] 28 (0, 0))) := Lib.hid (by rw [hw3]; exact obj_below HR2.out (below_alloc w2 _))
    have HQ3 : Hid (w3.heap[w2.heap.size]? = some (.cells #[.int .i64 y0, .int .i64 y1, .int .i64 y2, .int .i64 y3, .int .i64 y4, .int .i64 y5, .int .i64 y6, .int .i64 y7] 37 (0, 0))) := Lib.hid (by rw [hw3]; exact heap_alloc_new w2 _)
    have HW3 := Lib.hid hw3
    clear hw3
    go_upto_region 12 with fail
    rw [← HW3.out]
    have hp3 := HP3.out
    have hq3 := HQ3.out
    have c0 := obj_cell hp3 0
    have c1 := obj_cell hp3 1
    have c2 := obj_cell hp3 2
    have c3 := obj_cell hp3 3
    have c4 := obj_cell hp3 4
    have c5 := obj_cell hp3 5
    have c6 := obj_cell hp3 6
    have c7 := obj_cell hp3 7
    simp at c0 c1 c2 c3 c4 c5 c6 c7
    have d0 := obj_cell hq3 0
    have d1 := obj_cell hq3 1
    have d2 := obj_cell hq3 2
    have d3 := obj_cell hq3 3
    have d4 := obj_cell hq3 4
    have d5 := obj_cell hq3 5
    have d6 := obj_cell hq3 6
    have d7 := obj_cell hq3 7
    simp at d0 d1 d2 d3 d4 d5 d6 d7
    clear hp3 hq3
    go_wp2_with fail
    refine (HF.out _).mono ?_
    rintro e w4 ⟨rfl, hb4⟩
    have HB4 := Lib.hid (HB3.out.trans (hb4.mono HB3.out.size))
    have HP4 := Lib.hid (obj_below HP3.out hb4)
    have HL4 := Lib.hid (obj_below HL3.out hb4)
    have HR4 := Lib.hid (obj_below HR3.out hb4)
    have hp4 := HP4.out
    have hl4 := HL4.out
    have hr4 := HR4.out
    clear hb4
    have e0 := obj_cell hp4 0
    have e1 := obj_cell hp4 1
    have e2 := obj_cell hp4 2
    have e3 := obj_cell hp4 3
    have e4 := obj_cell hp4 4
    have e5 := obj_cell hp4 5
    have e6 := obj_cell hp4 6
    have e7 := obj_cell hp4 7
    simp at e0 e1 e2 e3 e4 e5 e6 e7
    have g0 := obj_cell hl4 0
    simp at g0
    have r0 := obj_cell hr4 0
    simp at r0
    have rf := obj_free hr4 0
    clear hp4 hl4 hr4
    obtain ⟨J, hJ⟩ : ∃ J, J = fun W : World => Below w4.heap.size w4 W := ⟨_, rfl⟩
    have HJO : Hid (∀ W, J W → Below w4.heap.size w4 W) := Lib.hid fun W hW => by rw [hJ] at hW; exact hW
    have HJI : Hid (∀ W, Below w4.heap.size w4 W → J W) := Lib.hid fun W hW => by rw [hJ]; exact hW
    have HJD : Hid (∀ W, J W → J W.drew) := Lib.hid fun W hW => HJI.out _ ((HJO.out W hW).drew)
    have HJA : Hid (∀ W o, J W → J (W.alloc o)) := Lib.hid fun W o hW => HJI.out _ ((HJO.out W hW).alloc (HJO.out W hW).size o)
    have HJ0 : Hid (J w4) := Lib.hid (HJI.out _ (Below.refl _ _))
    have HCLX : Hid (∀ W, J W → Calls Try.prog 35 #[.slice (some ⟨b, o, none⟩) (m + 1) cap] W fun e w' => ∃ cv, e = .returned cv ∧ w'.ownsRow w4.heap.size 37 8 cv (m + 1) CL ∧ J w' ∧ Below W.heap.size W w') := Lib.hid fun W hW => by
      refine (HCL.out W (HB4.out.trans ((HJO.out W hW).mono HB4.out.size))).mono ?_
      rintro e w' ⟨v', h1, h2, h3⟩
      exact ⟨v', h1, ownsRow_mono h2 (HJO.out W hW).size, HJI.out _ ((HJO.out W hW).trans (h3.mono (HJO.out W hW).size)), h3⟩
    have HMP : Hid (∀ W, J W → ∀ j, W.cell? ⟨w.heap.size + 1, j, none⟩ = #[.int .i64 x0, .int .i64 x1, .int .i64 x2, .int .i64 x3, .int .i64 x4, .int .i64 x5, .int .i64 x6, .int .i64 x7][j]?) := Lib.hid fun W hW j => obj_cell (obj_below HP4.out (HJO.out W hW)) j
    have HML : Hid (∀ W, J W → ∀ j, W.cell? ⟨w.heap.size, j, none⟩ = #[.slice (some ⟨b, o, none⟩) (m + 1) cap][j]?) := Lib.hid fun W hW j => obj_cell (obj_below HL4.out (HJO.out W hW)) j
    have HMR : Hid (∀ W, J W → W.heap[w.heap.size + 2]? = some (.cells #[.slice none 0 0] 28 (0, 0))) := Lib.hid fun W hW => obj_below HR4.out (HJO.out W hW)
    have egC : ∀ args w, (callFunc 35 args).run Try.prog w = .ok (.enter 35 args) w := enters_of Try.func35 (by kernel_rfl) rfl
    have hrb : w.heap.size + 2 < w4.heap.size := obj_lt HR4.out
    clear hJ
    go_upto_region 15 with fail
    obtain ⟨P, hP⟩ : ∃ P : Nat → Value → World → Prop, P = fun j v W => match j with | 0 => (v = .pointer (some ⟨w.heap.size, 0, none⟩)) | 1 => (v = .slice (some ⟨b, o, none⟩) (m + 1) cap) | 2 => (∃ cv, v = cv ∧ W.ownsRow w4.heap.size 37 8 cv ((m + 1)) (CL)) | 3 => (v = .agg #[.int .i64 x0, .int .i64 x1, .int .i64 x2, .int .i64 x3, .int .i64 x4, .int .i64 x5, .int .i64 x6, .int .i64 x7]) | 4 => (∃ bq, v = .slice (some ⟨bq, 0, none⟩) 1 1 ∧ W.heap[bq]? = some (.cells #[.int .i64 x0, .int .i64 x1, .int .i64 x2, .int .i64 x3, .int .i64 x4, .int .i64 x5, .int .i64 x6, .int .i64 x7] 37 (0, 0))) | _ => True := ⟨_, rfl⟩
    have HPI0 : Hid (∀ v W, P 0 v W ↔ (v = .pointer (some ⟨w.heap.size, 0, none⟩))) := Lib.hid fun v W => by rw [hP] <;> exact Iff.rfl
    have HPI1 : Hid (∀ v W, P 1 v W ↔ (v = .slice (some ⟨b, o, none⟩) (m + 1) cap)) := Lib.hid fun v W => by rw [hP] <;> exact Iff.rfl
    have HPI2 : Hid (∀ v W, P 2 v W ↔ (∃ cv, v = cv ∧ W.ownsRow w4.heap.size 37 8 cv ((m + 1)) (CL))) := Lib.hid fun v W => by rw [hP] <;> exact Iff.rfl
    have HPI3 : Hid (∀ v W, P 3 v W ↔ (v = .agg #[.int .i64 x0, .int .i64 x1, .int .i64 x2, .int .i64 x3, .int .i64 x4, .int .i64 x5, .int .i64 x6, .int .i64 x7])) := Lib.hid fun v W => by rw [hP] <;> exact Iff.rfl
    have HPI4 : Hid (∀ v W, P 4 v W ↔ (∃ bq, v = .slice (some ⟨bq, 0, none⟩) 1 1 ∧ W.heap[bq]? = some (.cells #[.int .i64 x0, .int .i64 x1, .int .i64 x2, .int .i64 x3, .int .i64 x4, .int .i64 x5, .int .i64 x6, .int .i64 x7] 37 (0, 0)))) := Lib.hid fun v W => by rw [hP] <;> exact Iff.rfl
    have HKP : Hid (∀ (j : Nat) v W W', Below W.heap.size W W' → P j v W → P j v W') := Lib.hid (by
      rw [hP]
      intro j v W W' hb h
      match j, h with
      | 0, h => exact h
      | 1, h => exact h
      | 2, ⟨cv, e, s0⟩ => exact ⟨cv, e, ownsRow_below s0 hb⟩
      | 3, h => exact h
      | 4, ⟨bq, e, s0⟩ => exact ⟨bq, e, obj_below s0 hb⟩
      | j + 5, _ => trivial)
    clear hP
    refine wp_region_tail [44, 45, 46, 47, 48, 49, 50, 5] (slotS [44, 45, 46, 47, 48]) (readsS [44, 45, 46, 47, 48]) (RP [44, 45, 46, 47, 48] P) J (fun k f W => match k with | 0 => (∃ (cv : Value) (bq : Nat), f 46 = cv ∧ f 48 = .slice (some ⟨bq, 0, none⟩) 1 1 ∧ J W ∧ W.ownsRow w4.heap.size 37 8 cv ((m + 1)) (CL) ∧ W.heap[bq]? = some (.cells #[.int .i64 x0, .int .i64 x1, .int .i64 x2, .int .i64 x3, .int .i64 x4, .int .i64 x5, .int .i64 x6, .int .i64 x7] 37 (0, 0))) | 1 => (∃ uq : Value, f 49 = uq ∧ J W ∧ W.ownsRow w4.heap.size 37 8 uq ((m + 1) + 1) (CL ++ [.int .i64 x0, .int .i64 x1, .int .i64 x2, .int .i64 x3, .int .i64 x4, .int .i64 x5, .int .i64 x6, .int .i64 x7])) | 2 => (∃ uq : Value, f 50 = .agg #[uq] ∧ J W ∧ W.ownsRow w4.heap.size 37 8 uq ((m + 1) + 1) (CL ++ [.int .i64 x0, .int .i64 x1, .int .i64 x2, .int .i64 x3, .int .i64 x4, .int .i64 x5, .int .i64 x6, .int .i64 x7])) | 3 => (∃ uq : Value, Below w.heap.size w W ∧ W.heap[w.heap.size + 2]? = some (.cells #[uq] 28 (0, 0)) ∧ W.ownsRow w.heap.size 37 8 uq ((m + 1) + 1) (CL ++ [.int .i64 x0, .int .i64 x1, .int .i64 x2, .int .i64 x3, .int .i64 x4, .int .i64 x5, .int .i64 x6, .int .i64 x7])) | _ => (∃ uq : Value, f 5 = .int .i64 0 ∧ Below w.heap.size w W ∧ W.heap[w.heap.size + 2]? = some (.cells #[uq] 28 (0, 0)) ∧ W.ownsRow w.heap.size 37 8 uq ((m + 1) + 1) (CL ++ [.int .i64 x0, .int .i64 x1, .int .i64 x2, .int .i64 x3, .int .i64 x4, .int .i64 x5, .int .i64 x6, .int .i64 x7]))) 5 8 (by decide) (by kernel_rfl) (by kernel_rfl) (by kernel_rfl) (by kernel_rfl) (HJD.out _ HJ0.out) (fun j f q v W hq h => RP.upd hq h) ?_ ?_ ?_ ?_
    case refine_1 =>
      intro iq hiq f W hIW hdep0
      have hdep : ∀ j, depB _ iq j = true → P j (f (slotS [44, 45, 46, 47, 48] j)) W := hdep0
      clear hdep0
      generalize ha1 : putsL _ [44, 45, 46, 47, 48, 49, 50, 5] f = a1
      match iq, hiq, hdep with
      | 0, _, hdep0 =>
        have E2 : a1.tmps[2]?.getD undef = .pointer (some ⟨w.heap.size, 0, none⟩) := by rw [← ha1]; exact (putsL_out2 _ _ _ _ (by decide)).trans rfl
        exact wpOp_val rfl rfl (v := .pointer (some ⟨w.heap.size, 0, none⟩)) (w' := W) (by simp [execOp, go_sem, E2]) ⟨hIW, fun _ h => h, _, by decide, rfl, RP.set ((HPI0.out _ _).2 rfl)⟩
      | 1, _, hdep0 =>
        have hd0 := (HPI0.out _ _).1 (hdep0 0 (by kernel_rfl))
        have E44 : a1.tmps[44]?.getD undef = .pointer (some ⟨w.heap.size, 0, none⟩) := by rw [← ha1]; exact (putsL_in2 _ _ _ _ (by decide) (show 44 < 51 from by decide)).trans hd0
        have v0 : W.cell? ⟨w.heap.size, 0, none⟩ = some (.slice (some ⟨b, o, none⟩) (m + 1) cap) := by simpa using HML.out W hIW 0
        exact wpOp_val rfl rfl (v := .slice (some ⟨b, o, none⟩) (m + 1) cap) (w' := W) (by simp [execOp, go_sem, E44, v0]) ⟨hIW, fun _ h => h, _, by decide, rfl, RP.set ((HPI1.out _ _).2 rfl)⟩
      | 2, _, hdep0 =>
        have hd1 := (HPI1.out _ _).1 (hdep0 1 (by kernel_rfl))
        have E45 : a1.tmps[45]?.getD undef = .slice (some ⟨b, o, none⟩) (m + 1) cap := by rw [← ha1]; exact (putsL_in2 _ _ _ _ (by decide) (show 45 < 51 from by decide)).trans hd1
        refine wpOp_call rfl rfl (n := 35) (vs := #[.slice (some ⟨b, o, none⟩) (m + 1) cap]) (by have := egC #[.slice (some ⟨b, o, none⟩) (m + 1) cap] W; simp [execOp, E45, resolve, invoke, go_sem] <;> exact this) ((HCLX.out W hIW).mono fun e w' hh => (by obtain ⟨cv, rfl, p0, hJ', hb'⟩ := hh; exact ⟨_, rfl, (HPI2.out _ _).2 ⟨_, rfl, p0⟩, hJ', hb'⟩ : ∃ v, e = .returned v ∧ (P 2 v w' ∧ J w' ∧ Below W.heap.size W w'))) ?_
        rintro v w' ⟨hv, hI', hb'⟩
        exact ⟨hI', fun j h => HKP.out j _ _ _ hb' h, _, by decide, rfl, RP.set hv⟩
      | 3, _, hdep0 =>
        have E3 : a1.tmps[3]?.getD undef = .pointer (some ⟨w.heap.size + 1, 0, none⟩) := by rw [← ha1]; exact (putsL_out2 _ _ _ _ (by decide)).trans rfl
        have v0 : W.cell? ⟨w.heap.size + 1, 0, none⟩ = some (.int .i64 x0) := by simpa using HMP.out W hIW 0
        have v1 : W.cell? ⟨w.heap.size + 1, 1, none⟩ = some (.int .i64 x1) := by simpa using HMP.out W hIW 1
        have v2 : W.cell? ⟨w.heap.size + 1, 2, none⟩ = some (.int .i64 x2) := by simpa using HMP.out W hIW 2
        have v3 : W.cell? ⟨w.heap.size + 1, 3, none⟩ = some (.int .i64 x3) := by simpa using HMP.out W hIW 3
        have v4 : W.cell? ⟨w.heap.size + 1, 4, none⟩ = some (.int .i64 x4) := by simpa using HMP.out W hIW 4
        have v5 : W.cell? ⟨w.heap.size + 1, 5, none⟩ = some (.int .i64 x5) := by simpa using HMP.out W hIW 5
        have v6 : W.cell? ⟨w.heap.size + 1, 6, none⟩ = some (.int .i64 x6) := by simpa using HMP.out W hIW 6
        have v7 : W.cell? ⟨w.heap.size + 1, 7, none⟩ = some (.int .i64 x7) := by simpa using HMP.out W hIW 7
        exact wpOp_val rfl rfl (v := .agg #[.int .i64 x0, .int .i64 x1, .int .i64 x2, .int .i64 x3, .int .i64 x4, .int .i64 x5, .int .i64 x6, .int .i64 x7]) (w' := W) (by simp [execOp, go_sem, E3, v0, v1, v2, v3, v4, v5, v6, v7]) ⟨hIW, fun _ h => h, _, by decide, rfl, RP.set ((HPI3.out _ _).2 rfl)⟩
      | 4, _, hdep0 =>
        have hd3 := (HPI3.out _ _).1 (hdep0 3 (by kernel_rfl))
        have E47 : a1.tmps[47]?.getD undef = .agg #[.int .i64 x0, .int .i64 x1, .int .i64 x2, .int .i64 x3, .int .i64 x4, .int .i64 x5, .int .i64 x6, .int .i64 x7] := by rw [← ha1]; exact (putsL_in2 _ _ _ _ (by decide) (show 47 < 51 from by decide)).trans hd3
        exact wpOp_val rfl rfl (v := .slice (some ⟨W.heap.size, 0, none⟩) 1 1) (w' := W.alloc (.cells #[.int .i64 x0, .int .i64 x1, .int .i64 x2, .int .i64 x3, .int .i64 x4, .int .i64 x5, .int .i64 x6, .int .i64 x7] 37)) (by simp [execOp, go_sem, E47]) ⟨(HJA.out _ _ hIW), fun j h => HKP.out j _ _ _ (below_alloc _ _) h, _, by decide, rfl, RP.set ((HPI4.out _ _).2 ⟨_, rfl, heap_alloc_new _ _⟩)⟩
      | iq + 5, h, _ => exact absurd h (by omega)
    case refine_2 =>
      intro f W hIW hR
      have h46 := (HPI2.out _ _).1 (hR 2 (by decide))
      have h48 := (HPI4.out _ _).1 (hR 4 (by decide))
      obtain ⟨cv, h46, hown⟩ := h46
      obtain ⟨bq, h48, hbq⟩ := h48
      exact ⟨cv, bq, h46, h48, hIW, hown, hbq⟩
    case refine_3 =>
      intro iq hsq hiq f W hIt0
      have hiq2 : iq < 9 := hiq
      have hIt := hIt0
      clear hIt0
      rcases (show iq = 5 ∨ iq = 6 ∨ iq = 7 ∨ iq = 8 by omega) with rfl | rfl | rfl | rfl
      · clear hsq hiq hiq2
        obtain ⟨cv, bq, h46, h48, hIW, hown, hbq⟩ := hIt
        refine wpOp_append rfl rfl (.tmp 46) (.tmp 48) 26 rfl w4.heap.size 37 i0 (.agg #[.int .i64 0, .int .i64 0, .int .i64 0, .int .i64 0, .int .i64 0, .int .i64 0, .int .i64 0, .int .i64 0]) 8 64 Try.underlying26 hi0 hz0 hz1 hz2 rfl (by decide) cv ((m + 1)) CL ?_ hown ⟨bq, 0, none⟩ 1 1 [.int .i64 x0, .int .i64 x1, .int .i64 x2, .int .i64 x3, .int .i64 x4, .int .i64 x5, .int .i64 x6, .int .i64 x7] ?_ rfl (obj_new_cells hbq) (pstF.one ⟨x0, x1, x2, x3, x4, x5, x6, x7⟩) (by unfold maxLen; omega) (by omega) (HJO.out W hIW).size ?_
        · exact (putsL_in _ _ _ _ (by decide) (show 46 < 51 from by decide)).trans h46
        · exact (putsL_in _ _ _ _ (by decide) (show 48 < 51 from by decide)).trans h48
        · intro v' w' h2 h3
          have hnew : ∃ uq : Value, updF f 49 v' 49 = uq ∧ J w' ∧ w'.ownsRow w4.heap.size 37 8 uq ((m + 1) + 1) (CL ++ [.int .i64 x0, .int .i64 x1, .int .i64 x2, .int .i64 x3, .int .i64 x4, .int .i64 x5, .int .i64 x6, .int .i64 x7]) := ⟨v', updF_same _ _ _, HJI.out _ ((HJO.out W hIW).grown h3 (HJO.out W hIW).size fun j e => ownBlock_le hown j e), h2⟩
          exact ⟨updF f 49 v', putsL_put _ _ _ _ _ (by decide), hnew⟩
      · clear hsq hiq hiq2
        obtain ⟨u, h49, hIW, hown⟩ := hIt
        obtain ⟨au, cu, rfl, -, -⟩ := owns_gen hown
        generalize ha1 : putsL _ [44, 45, 46, 47, 48, 49, 50, 5] f = a1
        have E49 : a1.tmps[49]?.getD undef = .slice au ((m + 1) + 1) cu := by rw [← ha1]; exact (putsL_in2 _ _ _ _ (by decide) (show 49 < 51 from by decide)).trans h49
        have hnew : ∃ uq : Value, updF f 50 (.agg #[.slice au ((m + 1) + 1) cu]) 50 = .agg #[uq] ∧ J W ∧ W.ownsRow w4.heap.size 37 8 uq ((m + 1) + 1) (CL ++ [.int .i64 x0, .int .i64 x1, .int .i64 x2, .int .i64 x3, .int .i64 x4, .int .i64 x5, .int .i64 x6, .int .i64 x7]) := ⟨_, updF_same _ _ _, hIW, hown⟩
        exact wpOp_val rfl rfl (v := .agg #[.slice au ((m + 1) + 1) cu]) (w' := W) (by simp [execOp, go_sem, E49]) ⟨updF f 50 (.agg #[.slice au ((m + 1) + 1) cu]), by rw [← ha1]; exact putsL_put _ _ _ _ _ (by decide), hnew⟩
      · clear hsq hiq hiq2
        obtain ⟨u, h50, hIW, hown⟩ := hIt
        obtain ⟨au, cu, rfl, -, -⟩ := owns_gen hown
        generalize ha1 : putsL _ [44, 45, 46, 47, 48, 49, 50, 5] f = a1
        have E50 : a1.tmps[50]?.getD undef = .agg #[.slice au ((m + 1) + 1) cu] := by rw [← ha1]; exact (putsL_in2 _ _ _ _ (by decide) (show 50 < 51 from by decide)).trans h50
        have E4 : a1.tmps[4]?.getD undef = .pointer (some ⟨w.heap.size + 2, 0, none⟩) := by rw [← ha1]; exact (putsL_out2 _ _ _ _ (by decide)).trans rfl
        have hR := HMR.out W hIW
        have p0 := obj_cell hR 0
        have f0 := obj_free hR 0
        simp at p0
        have hg : W.grownBy (W.setCell ⟨w.heap.size + 2, 0, none⟩ (.slice au ((m + 1) + 1) cu)) (some (w.heap.size + 2)) := setCell_grown _ _
        have hset := obj_set hR 0 (.slice au ((m + 1) + 1) cu)
        simp only [List.setIfInBounds_toArray, List.set_cons_zero] at hset
        have hnew : ∃ uq : Value, Below w.heap.size w (W.setCell ⟨w.heap.size + 2, 0, none⟩ (.slice au ((m + 1) + 1) cu)) ∧ (W.setCell ⟨w.heap.size + 2, 0, none⟩ (.slice au ((m + 1) + 1) cu)).heap[w.heap.size + 2]? = some (.cells #[uq] 28 (0, 0)) ∧ (W.setCell ⟨w.heap.size + 2, 0, none⟩ (.slice au ((m + 1) + 1) cu)).ownsRow w.heap.size 37 8 uq ((m + 1) + 1) (CL ++ [.int .i64 x0, .int .i64 x1, .int .i64 x2, .int .i64 x3, .int .i64 x4, .int .i64 x5, .int .i64 x6, .int .i64 x7]) := ⟨_, (HB4.out.trans ((HJO.out W hIW).mono HB4.out.size)).grown hg (HB4.out.trans ((HJO.out W hIW).mono HB4.out.size)).size (fun j e => by injection e with e; omega), hset, ownsRow_mono (hown.kept hg (ownBlock_ne hown _ hrb)) HB4.out.size⟩
        exact wpOp_skip rfl rfl (w' := W.setCell ⟨w.heap.size + 2, 0, none⟩ (.slice au ((m + 1) + 1) cu)) (by simp [execOp, go_sem, E4, E50, p0, f0]) ⟨f, ha1.symm, hnew⟩
      · clear hsq hiq hiq2
        obtain ⟨u, hbw, hset, hown⟩ := hIt
        generalize ha1 : putsL _ [44, 45, 46, 47, 48, 49, 50, 5] f = a1
        have hnew : ∃ uq : Value, updF f 5 (.int .i64 0) 5 = .int .i64 0 ∧ Below w.heap.size w W ∧ W.heap[w.heap.size + 2]? = some (.cells #[uq] 28 (0, 0)) ∧ W.ownsRow w.heap.size 37 8 uq ((m + 1) + 1) (CL ++ [.int .i64 x0, .int .i64 x1, .int .i64 x2, .int .i64 x3, .int .i64 x4, .int .i64 x5, .int .i64 x6, .int .i64 x7]) := ⟨u, updF_same _ _ _, hbw, hset, hown⟩
        exact wpOp_val rfl rfl (v := .int .i64 0) (w' := W) (by simp [execOp, go_sem]) ⟨updF f 5 (.int .i64 0), by rw [← ha1]; exact putsL_put _ _ _ _ _ (by decide), hnew⟩
    case refine_4 =>
      intro f W hIt
      simp only [putsL, List.foldl_cons, List.foldl_nil, Act.put, List.setIfInBounds_toArray, List.set_cons_zero, List.set_cons_succ]
      obtain ⟨u, h5, hbw, hset, hown⟩ := hIt
      have p0 := obj_cell hset 0
      simp at p0
      go_wp2
      refine bodyPost_ret (v := .tuple #[.agg #[u], .int .i64 0]) (by simp [results, Try.results13, go_sem, p0, h5]) rfl ⟨u, rfl, hown, hbw⟩


end Go.Proofs.Ytoelidndnajedab
