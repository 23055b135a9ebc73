/- The package's Present of right histories. -/
import Derived.Test.YtoccnindkimjdaaMRsV
import Derived.Test.YtoccnindkimjdaaMRsQ
set_option linter.unusedSimpArgs false
set_option linter.unusedVariables false
set_option linter.unusedSimpArgs false
set_option linter.unusedVariables false
namespace Go.Proofs.Ytoccnindkimjdaa
open Go.RowKit Go.Lib Go.Proofs

structure HRows (base : Nat) (ul up uc : Value) (L : List Pst) (P : List Prs) (rs : List Crr) (C : List Cor) (W : World) : Prop where
  led : W.ownsRow base 55 8 ul L.length (cellsL pstC L)
  prs : W.ownsRow base 40 7 up P.length (cellsL prsC P)
  cor : CorsW W base rs C
  row : W.ownsRow base 49 3 uc C.length (cellsL crrC rs)
theorem HRows.old {base b : Nat} {ul up uc : Value} {L : List Pst} {P : List Prs} {rs : List Crr} {C : List Cor} {W W' : World} (k : HRows base ul up uc L P rs C W) (hg : W.grownBy W' (some b)) (hb : b < base) : HRows base ul up uc L P rs C W' :=
  ⟨k.led.kept hg (ownBlock_ne k.led _ hb), k.prs.kept hg (ownBlock_ne k.prs _ hb), k.cor.imp fun _ _ _ q => q.kept hg (ownBlock_ne q _ hb), k.row.kept hg (ownBlock_ne k.row _ hb)⟩
theorem HRows.below {base : Nat} {ul up uc : Value} {L : List Pst} {P : List Prs} {rs : List Crr} {C : List Cor} {W W' : World} (k : HRows base ul up uc L P rs C W) (hb : Below W.heap.size W W') : HRows base ul up uc L P rs C W' :=
  ⟨ownsRow_below k.led hb, ownsRow_below k.prs hb, k.cor.below hb, ownsRow_below k.row hb⟩
theorem HRows.hst {base : Nat} {ul up uc : Value} {L : List Pst} {P : List Prs} {rs : List Crr} {C : List Cor} {W : World} (k : HRows base ul up uc L P rs C W) : HstAt W ul up uc ⟨L, P, C⟩ := by
  refine ⟨psts_owns k.led, ?_, rs, ?_, k.cor.R⟩
  · unfold ListAt
    exact RowG.owns k.prs
  · unfold ListAt
    rw [k.cor.len]
    exact RowG.owns k.row
theorem cp_present {w W W' : World} {bN n : Nat} {ul up uc up' : Value} {L : List Pst} {P : List Prs} {rs : List Crr} {C : List Cor} {p : Prs} (hk : CpK w ul up L P rs C W) (ho : W.ownsRow w.heap.size 49 3 uc C.length (cellsL crrC rs)) (hN : W.heap[bN]? = some (.cells #[ul, up, uc] 31 (0, 0))) (hn : w.heap.size ≤ bN) (hg : W.grownBy W' up.ownBlock) (hp : P.length = n) (h' : W'.ownsRow w.heap.size 40 7 up' (n + 1) (cellsL prsC P ++ prsC p)) :
    HRows w.heap.size ul up' uc L (P ++ [p]) rs C (W'.setCell ⟨bN, 1, none⟩ up') ∧ (W'.setCell ⟨bN, 1, none⟩ up').heap[bN]? = some (.cells #[ul, up', uc] 31 (0, 0)) ∧ Below w.heap.size w (W'.setCell ⟨bN, 1, none⟩ up') ∧ W'.heap[bN]? = some (.cells #[ul, up, uc] 31 (0, 0)) := by
  have h1 := owns_keep hk.led hg (notOf_owns hk.prs (by decide))
  have h2 := hk.cor.keep hg (notOf_owns hk.prs (by decide))
  have h3 := owns_keep ho hg (notOf_owns hk.prs (by decide))
  have h4 := box_keep hN hg (notOf_owns hk.prs (by decide))
  have h5 : Below w.heap.size w W' := hk.bel.grown hg hk.bel.size (fun b e => ownBlock_le hk.prs b e)
  have hs : W'.grownBy (W'.setCell ⟨bN, 1, none⟩ up') (some bN) := setCell_grown _ _
  have hset := obj_set h4 1 up'
  simp only [List.setIfInBounds_toArray, List.set_cons_zero, List.set_cons_succ] at hset
  refine ⟨⟨owns_keep h1 hs (notOf_box h4 (by decide)), ?_, h2.keep hs (notOf_box h4 (by decide)), owns_keep h3 hs (notOf_box h4 (by decide))⟩, hset, h5.grown hs h5.size (fun b e => by injection e with e; omega), h4⟩
  have h6 := owns_keep h' hs (notOf_box h4 (by decide))
  rw [cellsL_snoc] at h6
  rw [List.length_append, List.length_singleton, hp]
  exact h6
/-- Within the last region of Present: what stands in the slots and in the boxes. -/
def LastK (w : World) (bH bX bR bP : Nat) (CH CX : Array Value) (O : World → Prop) (L : Array Bool) (f : Nat → Value) (W : World) : Prop :=
  Below w.heap.size w W ∧ W.heap[bH]? = some (.cells CH 31 (0, 0)) ∧ W.heap[bX]? = some (.cells CX 40 (0, 0)) ∧ O W ∧
  (L.getD 0 false = true → f 44 = .agg CH) ∧ (L.getD 1 false = true → f 45 = .agg CX) ∧
  (∃ cr, W.heap[bR]? = some (.cells cr 31 (0, 0)) ∧ cr.size = 3 ∧ (L.getD 2 false = true → cr = CH)) ∧
  (∃ cp, W.heap[bP]? = some (.cells cp 40 (0, 0)) ∧ cp.size = 7 ∧ (L.getD 3 false = true → cp = CX)) ∧
  (L.getD 4 false = true → f 6 = .int .i64 0)

set_option maxRecDepth 100000 in
set_option maxHeartbeats 16000000 in
theorem rsPresent_ok {h : Hst} (hh : HstOk h) {y : Int} (hy : 0 ≤ y ∧ y ≤ 99) (hpn : h.pres.length < 20) (vl vp vc : Value) (w : World) (ha : HstAt w vl vp vc h) :
    Calls Try.prog 22 #[.agg #[vl, vp, vc], .int .i64 y] w fun e w' => ∃ ul up uc, e = .returned (.tuple #[.agg #[ul, up, uc], .agg (prsC ⟨y, versM y h.pres + 1, restM y h⟩).toArray, .int .i64 0]) ∧ HstAt w' ul up uc ⟨h.led, h.pres ++ [⟨y, versM y h.pres + 1, restM y h⟩], h.cors⟩ ∧ Below w.heap.size w w' := by
  obtain ⟨i0, hi0, hz0, hz1, hz2⟩ := info_parts Try.infoRsPrs
  have HRE := Lib.hid (fun W (hW : Below w.heap.size w W) => rsRestated_ok hh hy vl vp vc W (ha.below hW))
  have HCP := Lib.hid (fun W (hW : Below w.heap.size w W) => rscopyOf_ok hh vl vp vc W (ha.below hW))
  have HVE0 := Lib.hid (fun W (hW : Below w.heap.size w W) => rsversions_ok (PS := h.pres) (by have := hh.np; omega) y vp W (ha.pres.below hW))
  obtain ⟨al, ap, ac, cl, cp, cc, rfl, rfl, rfl⟩ := ha.parts
  obtain ⟨nl, hnl⟩ : ∃ q, q = h.led.length := ⟨_, rfl⟩
  obtain ⟨nc, hnc⟩ : ∃ q, q = h.cors.length := ⟨_, rfl⟩
  obtain ⟨L, PS, C⟩ := h
  simp only at hpn hnl hnc HVE0 HCP
  obtain ⟨R, hR⟩ : ∃ R, R = restM y ⟨L, PS, C⟩ := ⟨_, rfl⟩
  rw [← hR] at HRE ⊢
  obtain ⟨s0, s1, s2, s3, s4⟩ := R
  simp only [stmA] at HRE
  simp only at HRE ⊢
  rw [← hnl, ← hnc] at HRE HCP ⊢
  have hvb := versM_len y PS
  obtain ⟨vn, hv⟩ : ∃ v, v = versM y PS := ⟨_, rfl⟩
  rw [← hv] at HVE0 hvb ⊢
  obtain ⟨q, hq⟩ : ∃ q, q = vn + 1 := ⟨_, rfl⟩
  have hwq : IntKind.i64.wrap (vn + 1) = q := by rw [hq]; exact IntWalk.i64_in _ (by omega)
  have hwq2 : wrap64 (vn + 1) = q := by rw [hq]; exact IntWalk.wrap64_in _ (by omega)
  rw [← hq]
  obtain ⟨n, hn⟩ : ∃ n, n = PS.length := ⟨_, rfl⟩
  rw [← hn] at hpn HRE HCP HVE0 ⊢
  have HN := Lib.hid hn
  have HNC := Lib.hid hnc
  have HEO : Hid (∀ u ∈ ([.int .i64 y, .int .i64 q, .int .i64 s0, .int .i64 s1, .int .i64 s2, .int .i64 s3, .int .i64 s4] : List Value), u.oneCell' = true) := Lib.hid (prsF.one ⟨y, q, s0, s1, s2, s3, s4⟩)
  simp only [prsC]
  clear hnl hnc hR hv hq hn ha hh hvb
  obtain ⟨w0, hw0⟩ : ∃ w0, w0 = ((w.alloc (.cells #[.slice al nl cl, .slice ap n cp, .slice ac nc cc] 31)).alloc (.cells #[.slice none 0 0, .slice none 0 0, .slice none 0 0] 31)).alloc (.cells #[.int .i64 0, .int .i64 0, .int .i64 0, .int .i64 0, .int .i64 0, .int .i64 0, .int .i64 0] 40) := ⟨_, rfl⟩
  obtain ⟨bH, hbH⟩ : ∃ b, b = w.heap.size := ⟨_, rfl⟩
  obtain ⟨bR, hbR⟩ : ∃ b, b = w.heap.size + 1 := ⟨_, rfl⟩
  obtain ⟨bP, hbP⟩ : ∃ b, b = w.heap.size + 2 := ⟨_, rfl⟩
  have HH0 : Hid (w0.heap[bH]? = some (.cells #[.slice al nl cl, .slice ap n cp, .slice ac nc cc] 31 (0, 0))) := Lib.hid (by rw [hw0, hbH]; exact obj_below (alloc1_at w _ _) (below_alloc _ _))
  have HR0 : Hid (w0.heap[bR]? = some (.cells #[.slice none 0 0, .slice none 0 0, .slice none 0 0] 31 (0, 0))) := Lib.hid (by rw [hw0, hbR]; exact obj_below (alloc2_at w _ _) (below_alloc _ _))
  have HP0 : Hid (w0.heap[bP]? = some (.cells #[.int .i64 0, .int .i64 0, .int .i64 0, .int .i64 0, .int .i64 0, .int .i64 0, .int .i64 0] 40 (0, 0))) := Lib.hid (by
    rw [hw0, hbP]
    have := heap_alloc_new ((w.alloc (.cells #[.slice al nl cl, .slice ap n cp, .slice ac nc cc] 31)).alloc (.cells #[.slice none 0 0, .slice none 0 0, .slice none 0 0] 31)) (.cells #[.int .i64 0, .int .i64 0, .int .i64 0, .int .i64 0, .int .i64 0, .int .i64 0, .int .i64 0] 40)
    rw [show ((w.alloc (.cells #[.slice al nl cl, .slice ap n cp, .slice ac nc cc] 31)).alloc (.cells #[.slice none 0 0, .slice none 0 0, .slice none 0 0] 31)).heap.size = w.heap.size + 2 by simp] at this
    exact this)
  have HB0 : Hid (Below w.heap.size w w0) := Lib.hid (by rw [hw0]; exact (below2 w _ _).trans ((below_alloc _ _).mono (below2 w _ _).size))
  have HBH0 : Hid (w.heap.size ≤ bR ∧ w.heap.size ≤ bP ∧ bR ≠ bP) := Lib.hid (by omega)
  have HW0 := Lib.hid hw0
  have HBH := Lib.hid hbH
  have HBR := Lib.hid hbR
  have HBP := Lib.hid hbP
  have hbx := HH0.out
  have ub0 := obj_cell hbx 0
  have ub1 := obj_cell hbx 1
  have ub2 := obj_cell hbx 2
  simp at ub0 ub1 ub2
  clear hw0 hbH hbR hbP hbx
  go_enter Try.func22, Try.ntmps22
  go_upto_region 1 with fail
  rw [← HW0.out, ← HBP.out, ← HBR.out, ← HBH.out]
  go_wp2_with fail
  refine (HRE.out _ HB0.out).mono ?_
  rintro e w2 ⟨rfl, hb2⟩
  have HB2 := Lib.hid (HB0.out.trans (hb2.mono HB0.out.size))
  obtain ⟨w3, hw3⟩ : ∃ W, W = w2.alloc (.cells #[.int .i64 s0, .int .i64 s1, .int .i64 s2, .int .i64 s3, .int .i64 s4] 38) := ⟨_, rfl⟩
  obtain ⟨bS, hbS⟩ : ∃ b, b = w2.heap.size := ⟨_, rfl⟩
  have hx3 : w3.heap[bS]? = some (.cells #[.int .i64 s0, .int .i64 s1, .int .i64 s2, .int .i64 s3, .int .i64 s4] 38 (0, 0)) := by rw [hw3, hbS]; exact heap_alloc_new _ _
  have hb3 : Below w2.heap.size w2 w3 := by rw [hw3]; exact below_alloc _ _
  have HB3 := Lib.hid (HB2.out.trans (hb3.mono HB2.out.size))
  have HH3 := Lib.hid (obj_below (obj_below HH0.out hb2) hb3)
  have HR3 := Lib.hid (obj_below (obj_below HR0.out hb2) hb3)
  have HP3 := Lib.hid (obj_below (obj_below HP0.out hb2) hb3)
  have HS3 := Lib.hid hx3
  have hbx := HH3.out
  clear ub0 ub1 ub2 hb2 hb3
  have ub0 := obj_cell hbx 0
  have ub1 := obj_cell hbx 1
  have ub2 := obj_cell hbx 2
  simp at ub0 ub1 ub2
  have hn20 : ¬ (n : Int) = 20 := by omega
  have hn20b : ((n : Int) == 20) = false := by rw [beq_eq_false_iff_ne]; exact hn20
  have HW3 := Lib.hid hw3
  have HBS := Lib.hid hbS
  clear hbx hx3 hw3 hbS HRE HH0 HR0 HP0 HB0
  obtain ⟨J, hJ⟩ : ∃ J, J = fun W : World => Below w3.heap.size w3 W := ⟨_, rfl⟩
  have HJO : Hid (∀ W, J W → Below w3.heap.size w3 W) := Lib.hid fun W hW => by rw [hJ] at hW; exact hW
  have HJI : Hid (∀ W, Below w3.heap.size w3 W → J W) := Lib.hid fun W hW => by rw [hJ]; exact hW
  have HJD : Hid (∀ W, J W → J W.drew) := Lib.hid fun W hW => HJI.out _ ((HJO.out W hW).drew)
  have HJA : Hid (∀ W o, J W → J (W.alloc o)) := Lib.hid fun W o hW => HJI.out _ ((HJO.out W hW).alloc (HJO.out W hW).size o)
  have HJ0 : Hid (J w3) := Lib.hid (HJI.out _ (Below.refl _ _))
  have HMH : Hid (∀ W, J W → ∀ j, W.cell? ⟨bH, j, none⟩ = #[.slice al nl cl, .slice ap n cp, .slice ac nc cc][j]?) := Lib.hid fun W hW j => obj_cell (obj_below HH3.out (HJO.out W hW)) j
  have HMS : Hid (∀ W, J W → ∀ j, W.cell? ⟨bS, j, none⟩ = #[.int .i64 s0, .int .i64 s1, .int .i64 s2, .int .i64 s3, .int .i64 s4][j]?) := Lib.hid fun W hW j => obj_cell (obj_below HS3.out (HJO.out W hW)) j
  have HVC : Hid (∀ W, J W → Calls Try.prog 44 #[.slice ap n cp, .int .i64 y] W fun e w' => e = .returned (.int .i64 vn) ∧ J w' ∧ Below W.heap.size W w') := Lib.hid fun W hW => (HVE0.out W (HB3.out.trans ((HJO.out W hW).mono HB3.out.size))).mono fun e w' ⟨h1, h2⟩ => ⟨h1, HJI.out _ ((HJO.out W hW).trans (h2.mono (HJO.out W hW).size)), h2⟩
  have egV := enters_of Try.func44 (by kernel_rfl) rfl
  clear hJ HVE0
  go_upto_region 4 with fail
  rw [← HW3.out, ← HBS.out]
  go_upto_region 6 with fail
  clear ub0 ub1 ub2
  obtain ⟨P, hP⟩ : ∃ P : Nat → Value → World → Prop, P = fun j v W => match j with | 0 => (v = .int .i64 y) | 1 => (v = .pointer (some ⟨bH, 1, none⟩)) | 2 => (v = .slice ap n cp) | 3 => (v = .int .i64 y) | 4 => (v = .int .i64 vn) | 5 => (v = .int .i64 q) | 6 => (v = .agg #[.int .i64 s0, .int .i64 s1, .int .i64 s2, .int .i64 s3, .int .i64 s4]) | 7 => (v = .agg #[.int .i64 y, .int .i64 q, .int .i64 s0, .int .i64 s1, .int .i64 s2, .int .i64 s3, .int .i64 s4]) | 8 => (∃ bX, v = .pointer (some ⟨bX, 0, none⟩) ∧ (w3.heap.size ≤ bX ∧ W.heap[bX]? = some (.cells #[.int .i64 0, .int .i64 0, .int .i64 0, .int .i64 0, .int .i64 0, .int .i64 0, .int .i64 0] 40 (0, 0)))) | _ => True := ⟨_, rfl⟩
  have HPI0 : Hid (∀ v W, P 0 v W ↔ (v = .int .i64 y)) := Lib.hid fun v W => by rw [hP] <;> exact Iff.rfl
  have HPI1 : Hid (∀ v W, P 1 v W ↔ (v = .pointer (some ⟨bH, 1, none⟩))) := Lib.hid fun v W => by rw [hP] <;> exact Iff.rfl
  have HPI2 : Hid (∀ v W, P 2 v W ↔ (v = .slice ap n cp)) := Lib.hid fun v W => by rw [hP] <;> exact Iff.rfl
  have HPI3 : Hid (∀ v W, P 3 v W ↔ (v = .int .i64 y)) := Lib.hid fun v W => by rw [hP] <;> exact Iff.rfl
  have HPI4 : Hid (∀ v W, P 4 v W ↔ (v = .int .i64 vn)) := Lib.hid fun v W => by rw [hP] <;> exact Iff.rfl
  have HPI5 : Hid (∀ v W, P 5 v W ↔ (v = .int .i64 q)) := Lib.hid fun v W => by rw [hP] <;> exact Iff.rfl
  have HPI6 : Hid (∀ v W, P 6 v W ↔ (v = .agg #[.int .i64 s0, .int .i64 s1, .int .i64 s2, .int .i64 s3, .int .i64 s4])) := Lib.hid fun v W => by rw [hP] <;> exact Iff.rfl
  have HPI7 : Hid (∀ v W, P 7 v W ↔ (v = .agg #[.int .i64 y, .int .i64 q, .int .i64 s0, .int .i64 s1, .int .i64 s2, .int .i64 s3, .int .i64 s4])) := Lib.hid fun v W => by rw [hP] <;> exact Iff.rfl
  have HPI8 : Hid (∀ v W, P 8 v W ↔ (∃ bX, v = .pointer (some ⟨bX, 0, none⟩) ∧ (w3.heap.size ≤ bX ∧ W.heap[bX]? = some (.cells #[.int .i64 0, .int .i64 0, .int .i64 0, .int .i64 0, .int .i64 0, .int .i64 0, .int .i64 0] 40 (0, 0))))) := Lib.hid fun v W => by rw [hP] <;> exact Iff.rfl
  have HKP : Hid (∀ (j : Nat) v W W', Below W.heap.size W W' → P j v W → P j v W') := Lib.hid (by
    rw [hP]
    intro j v W W' hb h
    match j, h with
    | 0, h => exact h
    | 1, h => exact h
    | 2, h => exact h
    | 3, h => exact h
    | 4, h => exact h
    | 5, h => exact h
    | 6, h => exact h
    | 7, h => exact h
    | 8, ⟨bX, e, s0⟩ => exact ⟨bX, e, ⟨s0.1, obj_below s0.2 hb⟩⟩
    | j + 9, _ => trivial)
  clear hP
  go_cut [9] (fun pv wx => ∃ bX, pv = .pointer (some ⟨bX, 0, none⟩) ∧ w3.heap.size ≤ bX ∧ Hid (Below w3.heap.size w3 wx) ∧ Hid (wx.heap[bX]? = some (.cells #[.int .i64 y, .int .i64 q, .int .i64 s0, .int .i64 s1, .int .i64 s2, .int .i64 s3, .int .i64 s4] 40 (0, 0))))
  case first =>
    refine wp_region_last [28, 29, 30, 31, 32, 33, 34, 35, 9] (slotS [28, 29, 30, 31, 32, 33, 34, 35, 9]) (readsS [28, 29, 30, 31, 32, 33, 34, 35, 9]) (RP [28, 29, 30, 31, 32, 33, 34, 35, 9] P) J (fun f W => ∃ bX, f 9 = .pointer (some ⟨bX, 0, none⟩) ∧ w3.heap.size ≤ bX ∧ Below w3.heap.size w3 W ∧ W.heap[bX]? = some (.cells #[.int .i64 y, .int .i64 q, .int .i64 s0, .int .i64 s1, .int .i64 s2, .int .i64 s3, .int .i64 s4] 40 (0, 0))) 9 8 rfl (by kernel_rfl) (by kernel_rfl) (by kernel_rfl) (by kernel_rfl) (HJD.out _ HJ0.out) (fun j f q v W hq h => RP.upd hq h) ?_ ?_ ?_
    case refine_1 =>
      intro iq hiq f W hIW hdep0
      have hiq' : iq < 9 := hiq
      have hdep : ∀ j, j < 9 → depB _ iq j = true → P j (f (slotS [28, 29, 30, 31, 32, 33, 34, 35, 9] j)) W := hdep0
      clear hdep0
      generalize ha1 : putsL _ [28, 29, 30, 31, 32, 33, 34, 35, 9] f = a1
      match iq, hiq', hdep with
      | 0, _, hdep0 =>
        have E1 : a1.tmps[1]?.getD undef = .int .i64 y := by rw [← ha1]; exact (putsL_out2 _ _ _ _ (by decide)).trans rfl
        exact wpOp_val rfl rfl (v := .int .i64 y) (w' := W) (by simp [execOp, go_sem, E1]) ⟨hIW, fun _ h => h, _, by decide, rfl, RP.set ((HPI0.out _ _).2 rfl)⟩
      | 1, _, hdep0 =>
        have E2 : a1.tmps[2]?.getD undef = .pointer (some ⟨bH, 0, none⟩) := by rw [← ha1]; exact (putsL_out2 _ _ _ _ (by decide)).trans rfl
        exact wpOp_val rfl rfl (v := .pointer (some ⟨bH, 1, none⟩)) (w' := W) (by simp [execOp, go_sem, E2]) ⟨hIW, fun _ h => h, _, by decide, rfl, RP.set ((HPI1.out _ _).2 rfl)⟩
      | 2, _, hdep0 =>
        have hd1 := (HPI1.out _ _).1 (hdep0 1 (by decide) (by kernel_rfl))
        have E29 : a1.tmps[29]?.getD undef = .pointer (some ⟨bH, 1, none⟩) := by rw [← ha1]; exact (putsL_in2 _ _ _ _ (by decide) (show 29 < 46 from by decide)).trans hd1
        have v1 : W.cell? ⟨bH, 1, none⟩ = some (.slice ap n cp) := by simpa using HMH.out W hIW 1
        exact wpOp_val rfl rfl (v := .slice ap n cp) (w' := W) (by simp [execOp, go_sem, E29, v1]) ⟨hIW, fun _ h => h, _, by decide, rfl, RP.set ((HPI2.out _ _).2 rfl)⟩
      | 3, _, hdep0 =>
        have E1 : a1.tmps[1]?.getD undef = .int .i64 y := by rw [← ha1]; exact (putsL_out2 _ _ _ _ (by decide)).trans rfl
        exact wpOp_val rfl rfl (v := .int .i64 y) (w' := W) (by simp [execOp, go_sem, E1]) ⟨hIW, fun _ h => h, _, by decide, rfl, RP.set ((HPI3.out _ _).2 rfl)⟩
      | 4, _, hdep0 =>
        have hd2 := (HPI2.out _ _).1 (hdep0 2 (by decide) (by kernel_rfl))
        have hd3 := (HPI3.out _ _).1 (hdep0 3 (by decide) (by kernel_rfl))
        have E30 : a1.tmps[30]?.getD undef = .slice ap n cp := by rw [← ha1]; exact (putsL_in2 _ _ _ _ (by decide) (show 30 < 46 from by decide)).trans hd2
        have E31 : a1.tmps[31]?.getD undef = .int .i64 y := by rw [← ha1]; exact (putsL_in2 _ _ _ _ (by decide) (show 31 < 46 from by decide)).trans hd3
        refine wpOp_call rfl rfl (n := 44) (vs := #[.slice ap n cp, .int .i64 y]) (by have := egV #[.slice ap n cp, .int .i64 y] W; simp [execOp, E30, E31, resolve, invoke, go_sem] <;> exact this) ((HVC.out W hIW).mono fun e w' hh => (by obtain ⟨rfl, hJ', hb'⟩ := hh; exact ⟨_, rfl, (HPI4.out _ _).2 rfl, hJ', hb'⟩ : ∃ v, e = .returned v ∧ (P 4 v w' ∧ J w' ∧ Below W.heap.size W w'))) ?_
        rintro v w' ⟨hv, hI', hb'⟩
        exact ⟨hI', fun j h => HKP.out j _ _ _ hb' h, _, by decide, rfl, RP.set hv⟩
      | 5, _, hdep0 =>
        have hd4 := (HPI4.out _ _).1 (hdep0 4 (by decide) (by kernel_rfl))
        have E32 : a1.tmps[32]?.getD undef = .int .i64 vn := by rw [← ha1]; exact (putsL_in2 _ _ _ _ (by decide) (show 32 < 46 from by decide)).trans hd4
        exact wpOp_val rfl rfl (v := .int .i64 q) (w' := W) (by simp [execOp, go_sem, E32, hwq]) ⟨hIW, fun _ h => h, _, by decide, rfl, RP.set ((HPI5.out _ _).2 rfl)⟩
      | 6, _, hdep0 =>
        have E7 : a1.tmps[7]?.getD undef = .pointer (some ⟨bS, 0, none⟩) := by rw [← ha1]; exact (putsL_out2 _ _ _ _ (by decide)).trans rfl
        have v0 : W.cell? ⟨bS, 0, none⟩ = some (.int .i64 s0) := by simpa using HMS.out W hIW 0
        have v1 : W.cell? ⟨bS, 1, none⟩ = some (.int .i64 s1) := by simpa using HMS.out W hIW 1
        have v2 : W.cell? ⟨bS, 2, none⟩ = some (.int .i64 s2) := by simpa using HMS.out W hIW 2
        have v3 : W.cell? ⟨bS, 3, none⟩ = some (.int .i64 s3) := by simpa using HMS.out W hIW 3
        have v4 : W.cell? ⟨bS, 4, none⟩ = some (.int .i64 s4) := by simpa using HMS.out W hIW 4
        exact wpOp_val rfl rfl (v := .agg #[.int .i64 s0, .int .i64 s1, .int .i64 s2, .int .i64 s3, .int .i64 s4]) (w' := W) (by simp [execOp, go_sem, E7, v0, v1, v2, v3, v4]) ⟨hIW, fun _ h => h, _, by decide, rfl, RP.set ((HPI6.out _ _).2 rfl)⟩
      | 7, _, hdep0 =>
        have hd0 := (HPI0.out _ _).1 (hdep0 0 (by decide) (by kernel_rfl))
        have hd5 := (HPI5.out _ _).1 (hdep0 5 (by decide) (by kernel_rfl))
        have hd6 := (HPI6.out _ _).1 (hdep0 6 (by decide) (by kernel_rfl))
        have E28 : a1.tmps[28]?.getD undef = .int .i64 y := by rw [← ha1]; exact (putsL_in2 _ _ _ _ (by decide) (show 28 < 46 from by decide)).trans hd0
        have E33 : a1.tmps[33]?.getD undef = .int .i64 q := by rw [← ha1]; exact (putsL_in2 _ _ _ _ (by decide) (show 33 < 46 from by decide)).trans hd5
        have E34 : a1.tmps[34]?.getD undef = .agg #[.int .i64 s0, .int .i64 s1, .int .i64 s2, .int .i64 s3, .int .i64 s4] := by rw [← ha1]; exact (putsL_in2 _ _ _ _ (by decide) (show 34 < 46 from by decide)).trans hd6
        exact wpOp_val rfl rfl (v := .agg #[.int .i64 y, .int .i64 q, .int .i64 s0, .int .i64 s1, .int .i64 s2, .int .i64 s3, .int .i64 s4]) (w' := W) (by simp [execOp, go_sem, E28, E33, E34]) ⟨hIW, fun _ h => h, _, by decide, rfl, RP.set ((HPI7.out _ _).2 rfl)⟩
      | 8, _, hdep0 =>
        exact wpOp_val rfl rfl (v := .pointer (some ⟨W.heap.size, 0, none⟩)) (w' := W.alloc (.cells #[.int .i64 0, .int .i64 0, .int .i64 0, .int .i64 0, .int .i64 0, .int .i64 0, .int .i64 0] 40)) (by simp [execOp, go_sem]) ⟨(HJA.out _ _ hIW), fun j h => HKP.out j _ _ _ (below_alloc _ _) h, _, by decide, rfl, RP.set ((HPI8.out _ _).2 ⟨_, rfl, (HJO.out _ hIW).size, heap_alloc_new _ _⟩)⟩
      | iq + 9, h, _ => exact absurd h (by omega)
    case refine_2 =>
      intro f W hIW hdep0
      have hdep : ∀ j, j < 9 → P j (f (slotS [28, 29, 30, 31, 32, 33, 34, 35, 9] j)) W := hdep0
      clear hdep0
      generalize ha1 : putsL _ [28, 29, 30, 31, 32, 33, 34, 35, 9] f = a1
      obtain ⟨bX, q8, r8_0⟩ := ((HPI8.out _ _).1 (hdep 8 (by decide)))
      have E9 : a1.tmps[9]?.getD undef = .pointer (some ⟨bX, 0, none⟩) := by rw [← ha1]; exact (putsL_in2 _ _ _ _ (by decide) (show 9 < 46 from by decide)).trans q8
      have E35 : a1.tmps[35]?.getD undef = .agg #[.int .i64 y, .int .i64 q, .int .i64 s0, .int .i64 s1, .int .i64 s2, .int .i64 s3, .int .i64 s4] := by rw [← ha1]; exact (putsL_in2 _ _ _ _ (by decide) (show 35 < 46 from by decide)).trans ((HPI7.out _ _).1 (hdep 7 (by decide)))
      have p0 := obj_cell r8_0.2 0
      have f0 := obj_free r8_0.2 0
      have p1 := obj_cell r8_0.2 1
      have f1 := obj_free r8_0.2 1
      have p2 := obj_cell r8_0.2 2
      have f2 := obj_free r8_0.2 2
      have p3 := obj_cell r8_0.2 3
      have f3 := obj_free r8_0.2 3
      have p4 := obj_cell r8_0.2 4
      have f4 := obj_free r8_0.2 4
      have p5 := obj_cell r8_0.2 5
      have f5 := obj_free r8_0.2 5
      have p6 := obj_cell r8_0.2 6
      have f6 := obj_free r8_0.2 6
      simp at p0 p1 p2 p3 p4 p5 p6
      have hg := put7_grown W bX (.int .i64 y) (.int .i64 q) (.int .i64 s0) (.int .i64 s1) (.int .i64 s2) (.int .i64 s3) (.int .i64 s4)
      have hb7 : Below w3.heap.size w3 (put7 W bX (.int .i64 y) (.int .i64 q) (.int .i64 s0) (.int .i64 s1) (.int .i64 s2) (.int .i64 s3) (.int .i64 s4)) := (HJO.out W hIW).grown hg (HJO.out W hIW).size (fun j e => by injection e with e; have := r8_0.1; omega)
      exact wpOp_skip rfl rfl (w' := put7 W bX (.int .i64 y) (.int .i64 q) (.int .i64 s0) (.int .i64 s1) (.int .i64 s2) (.int .i64 s3) (.int .i64 s4)) (by unfold put7; simp [execOp, go_sem, E9, E35, p0, f0, p1, f1, p2, f2, p3, f3, p4, f4, p5, f5, p6, f6]) ⟨rfl, bX, q8, r8_0.1, hb7, put7_at r8_0.2 rfl _ _ _ _ _ _ _⟩
    case refine_3 =>
      intro f W hIW
      simp only [putsL, List.foldl_cons, List.foldl_nil, Act.put, List.setIfInBounds_toArray, List.set_cons_zero, List.set_cons_succ]
      obtain ⟨bX, h9, hn, hb, hx⟩ := hIW
      go_wp2
      go_meet
      exact ⟨bX, (by first | exact h9 | rfl), hn, Lib.hid hb, Lib.hid hx⟩
  case rest =>
  obtain ⟨bX, rfl, hxl, HB6, HX6⟩ := hcut
  clear HJO HJI HJD HJA HJ0 HMH HMS HVC J
  obtain ⟨w6, hw6⟩ : ∃ W, W = wc := ⟨_, rfl⟩
  rw [← hw6] at HB6 HX6 ⊢
  clear hw6
  have HB7 := Lib.hid (HB3.out.trans (HB6.out.mono HB3.out.size))
  have HH6 := Lib.hid (obj_below HH3.out HB6.out)
  have HR6 := Lib.hid (obj_below HR3.out HB6.out)
  have HP6 := Lib.hid (obj_below HP3.out HB6.out)
  have HXL := Lib.hid hxl
  have hbx := HH6.out
  have ub0 := obj_cell hbx 0
  have ub1 := obj_cell hbx 1
  have ub2 := obj_cell hbx 2
  simp at ub0 ub1 ub2
  clear hbx hxl
  go_wp2_with fail
  refine (HCP.out _ HB7.out).mono ?_
  rintro e w7 ⟨xl, yl, xp, yp, xc, yc, rs, rfl, hk7, ho7⟩
  clear ub0 ub1 ub2
  obtain ⟨w8, hw8⟩ : ∃ W, W = w7.alloc (.cells #[.slice xl nl yl, .slice xp n yp, .slice xc nc yc] 31) := ⟨_, rfl⟩
  obtain ⟨bN, hbN⟩ : ∃ b, b = w7.heap.size := ⟨_, rfl⟩
  have hb8 : Below w7.heap.size w7 w8 := by rw [hw8]; exact below_alloc _ _
  have HN8 : Hid (w8.heap[bN]? = some (.cells #[.slice xl nl yl, .slice xp n yp, .slice xc nc yc] 31 (0, 0))) := Lib.hid (by rw [hw8, hbN]; exact heap_alloc_new _ _)
  have HK8 := Lib.hid (hk7.below hb8)
  have HO8 := Lib.hid (ownsRow_below ho7 hb8)
  have HLN : Hid (w6.heap.size ≤ bN) := Lib.hid (by rw [hbN]; exact hk7.bel.size)
  have hx8 := obj_below HX6.out HK8.out.bel
  have hn8 := HN8.out
  have t0 := obj_cell hx8 0
  have t1 := obj_cell hx8 1
  have t2 := obj_cell hx8 2
  have t3 := obj_cell hx8 3
  have t4 := obj_cell hx8 4
  have t5 := obj_cell hx8 5
  have t6 := obj_cell hx8 6
  simp at t0 t1 t2 t3 t4 t5 t6
  have nn0 := obj_cell hn8 0
  have nn1 := obj_cell hn8 1
  have nn2 := obj_cell hn8 2
  simp at nn0 nn1 nn2
  have HW8 := Lib.hid hw8
  have HBN := Lib.hid hbN
  clear hk7 ho7 hw8 hbN hb8 hx8 hn8 HCP
  obtain ⟨w9, hw9⟩ : ∃ W, W = w8.alloc (.cells #[.int .i64 y, .int .i64 q, .int .i64 s0, .int .i64 s1, .int .i64 s2, .int .i64 s3, .int .i64 s4] 40) := ⟨_, rfl⟩
  have HB9 : Hid (Below w8.heap.size w8 w9) := Lib.hid (by rw [hw9]; exact below_alloc _ _)
  have HK9 := Lib.hid (HK8.out.below HB9.out)
  have HO9 := Lib.hid (ownsRow_below HO8.out HB9.out)
  have HN9 := Lib.hid (obj_below HN8.out HB9.out)
  have HPR9 : Hid (w9.ownsRow w6.heap.size 40 7 (.slice xp n yp) n (cellsL prsC PS)) := Lib.hid (by rw [HN.out]; have := HK9.out.prs; rw [← HN.out] at this; rw [← HN.out]; exact this)
  have HNW : Hid (1 = 0 ∨ ∃ ad : Addr, (some ⟨w8.heap.size, 0, none⟩ : Option Addr) = some ad ∧ ∀ j u, ([.int .i64 y, .int .i64 q, .int .i64 s0, .int .i64 s1, .int .i64 s2, .int .i64 s3, .int .i64 s4] : List Value)[j]? = some u → w9.cell? (ad.add j) = some u) := Lib.hid (Or.inr ⟨_, rfl, fun j u hu => by
    rw [hw9]
    exact obj_new_cells (heap_alloc_new w8 (.cells #[.int .i64 y, .int .i64 q, .int .i64 s0, .int .i64 s1, .int .i64 s2, .int .i64 s3, .int .i64 s4] 40)) j u hu⟩)
  have HBS9 : Hid (w6.heap.size ≤ w9.heap.size) := Lib.hid HK9.out.bel.size
  have HW9 := Lib.hid hw9
  clear hw9
  go_upto_region 8 with fail
  rw [← HW8.out, ← HBN.out]
  go_wp2_with (at_builtin; rw [← HW9.out]; refine wpList_ownO w9 rfl _ _ 28 rfl w6.heap.size 40 i0 (.agg #[.int .i64 0, .int .i64 0, .int .i64 0, .int .i64 0, .int .i64 0, .int .i64 0, .int .i64 0]) 7 56 Try.underlying28 hi0 hz0 hz1 hz2 rfl (by decide) (.slice xp n yp) n (cellsL prsC PS) rfl HPR9.out (some ⟨w8.heap.size, 0, none⟩) 1 1 [.int .i64 y, .int .i64 q, .int .i64 s0, .int .i64 s1, .int .i64 s2, .int .i64 s3, .int .i64 s4] rfl rfl HNW.out HEO.out (by unfold maxLen; omega) (by omega) HBS9.out ?_; intro v10 w10 hown hgr; obtain ⟨au, cu, rfl, -, -⟩ := owns_gen hown; have hcp := cp_present (p := ⟨y, q, s0, s1, s2, s3, s4⟩) HK9.out (by rw [← HNC.out]; exact HO9.out) HN9.out HLN.out hgr HN.out.symm hown; have HCPX := Lib.hid hcp; have hn10 := hcp.2.2.2; have mm0 := obj_cell hn10 0; have mm1 := obj_cell hn10 1; have mm2 := obj_cell hn10 2; simp at mm0 mm1 mm2; have mf0 := obj_free hn10 0; have mf1 := obj_free hn10 1; have mf2 := obj_free hn10 2; clear hn10 hcp hown hgr)
  have hcp := HCPX.out
  obtain ⟨w11, hw11⟩ : ∃ W, W = w10.setCell ⟨bN, 1, none⟩ (.slice au (n + 1) cu) := ⟨_, rfl⟩
  rw [← hw11] at hcp
  have HRO := Lib.hid hcp.1
  have HSET := Lib.hid hcp.2.1
  have HBC := Lib.hid hcp.2.2.1
  have HW11 := Lib.hid hw11
  clear hcp hw11 HCPX
  go_upto_region 9 with fail
  rw [← HW11.out]
  have HBW := Lib.hid (HB7.out.trans (HBC.out.mono HB7.out.size))
  have HK : Hid (w11.heap[bR]? = some (.cells #[.slice none 0 0, .slice none 0 0, .slice none 0 0] 31 (0, 0)) ∧ w11.heap[bP]? = some (.cells #[.int .i64 0, .int .i64 0, .int .i64 0, .int .i64 0, .int .i64 0, .int .i64 0, .int .i64 0] 40 (0, 0)) ∧ w11.heap[bX]? = some (.cells #[.int .i64 y, .int .i64 q, .int .i64 s0, .int .i64 s1, .int .i64 s2, .int .i64 s3, .int .i64 s4] 40 (0, 0))) := Lib.hid ⟨obj_below HR6.out HBC.out, obj_below HP6.out HBC.out, obj_below HX6.out HBC.out⟩
  have HRL : Hid (bR < w6.heap.size ∧ bP < w6.heap.size ∧ bN ≠ bX ∧ bR ≠ bX ∧ bP ≠ bX) := Lib.hid (by
    have h1 := obj_lt HR6.out
    have h2 := obj_lt HP6.out
    have h3 := obj_lt HX6.out
    have h4 := obj_lt HR3.out
    have h5 := obj_lt HP3.out
    have h6 := HXL.out
    have h7 := HLN.out
    omega)
  have HBHL : Hid (w.heap.size ≤ bN ∧ w.heap.size ≤ bR ∧ w.heap.size ≤ bP ∧ bN ≠ bR ∧ bN ≠ bP ∧ bR ≠ bP) := Lib.hid (by
    have h1 := HRL.out
    have h2 := HBH0.out
    have h3 := HLN.out
    have h4 := HB7.out.size
    omega)
  clear HB3 HH3 HR3 HP3 HH6 HR6 HP6 HX6 HB6 HN8 HK8 HO8 HK9 HO9 HN9 HPR9 HNW
  refine wp_region_slots [44, 45, 6] (LastK w bN bX bR bP #[.slice xl nl yl, .slice au (n + 1) cu, .slice xc nc yc] #[.int .i64 y, .int .i64 q, .int .i64 s0, .int .i64 s1, .int .i64 s2, .int .i64 s3, .int .i64 s4] (HRows w6.heap.size (.slice xl nl yl) (.slice au (n + 1) cu) (.slice xc nc yc) L (PS ++ [⟨y, q, s0, s1, s2, s3, s4⟩]) rs C)) (by kernel_rfl) (by kernel_rfl) ⟨HBW.out.drew, HSET.out, HK.out.2.2, HRO.out.below (Below.refl _ _).drew, (fun h => by cases h), (fun h => by cases h), ⟨_, HK.out.1, rfl, fun h => by cases h⟩, ⟨_, HK.out.2.1, rfl, fun h => by cases h⟩, fun h => by cases h⟩ ?_ ?_
  · rintro L f W i hs hc ⟨hB, hH, hX, hO, h0, h1, ⟨cr, hR, hRs, hRl⟩, ⟨cz, hP, hPs, hPl⟩, h4⟩ hi hun hdep
    have hs5 : L.size = 5 := hs
    have hi5 : i < 5 := hi
    clear hi hs hun hc
    rcases (show i = 0 ∨ i = 1 ∨ i = 2 ∨ i = 3 ∨ i = 4 by omega) with rfl | rfl | rfl | rfl | rfl
    · have hl : ∀ j, j ≠ 0 → (L.setIfInBounds 0 true).getD j false = L.getD j false := fun j hj => by rw [flag_set _ _ _ (by omega), if_neg (fun e => hj e.symm)]
      generalize ha1 : putsL _ [44, 45, 6] f = a1
      have E2 : a1.tmps[10]?.getD undef = .pointer (some ⟨bN, 0, none⟩) := by rw [← ha1]; exact (putsL_out2 _ _ _ _ (by decide)).trans rfl
      have p0 := obj_cell hH 0
      have p1 := obj_cell hH 1
      have p2 := obj_cell hH 2
      simp at p0 p1 p2
      exact wpOp_val rfl rfl (v := .agg #[.slice xl nl yl, .slice au (n + 1) cu, .slice xc nc yc]) (w' := W) (by simp [execOp, go_sem, E2, p0, p1, p2]) ⟨updF f 44 (.agg #[.slice xl nl yl, .slice au (n + 1) cu, .slice xc nc yc]), by rw [← ha1]; exact putsL_put _ _ _ _ _ (by decide), hB, hH, hX, hO, (fun _ => updF_same _ _ _), (fun h => by rw [hl 1 (by decide)] at h; rw [updF_other _ _ (by decide)]; exact h1 h), ⟨cr, hR, hRs, fun h => by rw [hl 2 (by decide)] at h; exact hRl h⟩, ⟨cz, hP, hPs, fun h => by rw [hl 3 (by decide)] at h; exact hPl h⟩, (fun h => by rw [hl 4 (by decide)] at h; rw [updF_other _ _ (by decide)]; exact h4 h)⟩
    · have hl : ∀ j, j ≠ 1 → (L.setIfInBounds 1 true).getD j false = L.getD j false := fun j hj => by rw [flag_set _ _ _ (by omega), if_neg (fun e => hj e.symm)]
      generalize ha1 : putsL _ [44, 45, 6] f = a1
      have E2 : a1.tmps[9]?.getD undef = .pointer (some ⟨bX, 0, none⟩) := by rw [← ha1]; exact (putsL_out2 _ _ _ _ (by decide)).trans rfl
      have p0 := obj_cell hX 0
      have p1 := obj_cell hX 1
      have p2 := obj_cell hX 2
      have p3 := obj_cell hX 3
      have p4 := obj_cell hX 4
      have p5 := obj_cell hX 5
      have p6 := obj_cell hX 6
      simp at p0 p1 p2 p3 p4 p5 p6
      exact wpOp_val rfl rfl (v := .agg #[.int .i64 y, .int .i64 q, .int .i64 s0, .int .i64 s1, .int .i64 s2, .int .i64 s3, .int .i64 s4]) (w' := W) (by simp [execOp, go_sem, E2, p0, p1, p2, p3, p4, p5, p6]) ⟨updF f 45 (.agg #[.int .i64 y, .int .i64 q, .int .i64 s0, .int .i64 s1, .int .i64 s2, .int .i64 s3, .int .i64 s4]), by rw [← ha1]; exact putsL_put _ _ _ _ _ (by decide), hB, hH, hX, hO, (fun h => by rw [hl 0 (by decide)] at h; rw [updF_other _ _ (by decide)]; exact h0 h), (fun _ => updF_same _ _ _), ⟨cr, hR, hRs, fun h => by rw [hl 2 (by decide)] at h; exact hRl h⟩, ⟨cz, hP, hPs, fun h => by rw [hl 3 (by decide)] at h; exact hPl h⟩, (fun h => by rw [hl 4 (by decide)] at h; rw [updF_other _ _ (by decide)]; exact h4 h)⟩
    · have hl : ∀ j, j ≠ 2 → (L.setIfInBounds 2 true).getD j false = L.getD j false := fun j hj => by rw [flag_set _ _ _ (by omega), if_neg (fun e => hj e.symm)]
      have hv := h0 (dep_listed hdep (show depB _ 2 0 = true by kernel_rfl))
      generalize ha1 : putsL _ [44, 45, 6] f = a1
      have EP : a1.tmps[4]?.getD undef = .pointer (some ⟨bR, 0, none⟩) := by rw [← ha1]; exact (putsL_out2 _ _ _ _ (by decide)).trans rfl
      have EV : a1.tmps[44]?.getD undef = .agg #[.slice xl nl yl, .slice au (n + 1) cu, .slice xc nc yc] := by rw [← ha1]; exact (putsL_in2 _ _ _ _ (by decide) (show 44 < 46 from by decide)).trans hv
      obtain ⟨⟨u0, p0⟩, ⟨u1, p1⟩, ⟨u2, p2⟩⟩ := cells_three hR hRs
      have f0 := obj_free hR 0
      have f1 := obj_free hR 1
      have f2 := obj_free hR 2
      have hg : W.grownBy (put3 W bR (.slice xl nl yl) (.slice au (n + 1) cu) (.slice xc nc yc)) (some bR) := put3_grown2 _ _ _ _ _
      exact wpOp_skip rfl rfl (w' := (put3 W bR (.slice xl nl yl) (.slice au (n + 1) cu) (.slice xc nc yc))) (by unfold put3; simp [execOp, go_sem, EP, EV, p0, p1, p2, f0, f1, f2]) ⟨f, by rw [← ha1]; rfl, hB.grown hg hB.size (fun j e => by injection e with e; have := HBHL.out; omega), (hg.block bN (obj_lt hH) (by simp [HBHL.out.2.2.2.1])).trans hH, (hg.block bX (obj_lt hX) (by simp [Ne.symm HRL.out.2.2.2.1])).trans hX, hO.old hg HRL.out.1, (fun h => by rw [hl 0 (by decide)] at h; exact h0 h), (fun h => by rw [hl 1 (by decide)] at h; exact h1 h), ⟨#[.slice xl nl yl, .slice au (n + 1) cu, .slice xc nc yc], put3_at hR hRs _ _ _, rfl, fun _ => rfl⟩, ⟨cz, (hg.block bP (obj_lt hP) (by simp [Ne.symm HBHL.out.2.2.2.2.2])).trans hP, hPs, fun h => by rw [hl 3 (by decide)] at h; exact hPl h⟩, (fun h => by rw [hl 4 (by decide)] at h; exact h4 h)⟩
    · have hl : ∀ j, j ≠ 3 → (L.setIfInBounds 3 true).getD j false = L.getD j false := fun j hj => by rw [flag_set _ _ _ (by omega), if_neg (fun e => hj e.symm)]
      have hv := h1 (dep_listed hdep (show depB _ 3 1 = true by kernel_rfl))
      generalize ha1 : putsL _ [44, 45, 6] f = a1
      have EP : a1.tmps[5]?.getD undef = .pointer (some ⟨bP, 0, none⟩) := by rw [← ha1]; exact (putsL_out2 _ _ _ _ (by decide)).trans rfl
      have EV : a1.tmps[45]?.getD undef = .agg #[.int .i64 y, .int .i64 q, .int .i64 s0, .int .i64 s1, .int .i64 s2, .int .i64 s3, .int .i64 s4] := by rw [← ha1]; exact (putsL_in2 _ _ _ _ (by decide) (show 45 < 46 from by decide)).trans hv
      obtain ⟨⟨u0, p0⟩, ⟨u1, p1⟩, ⟨u2, p2⟩, ⟨u3, p3⟩, ⟨u4, p4⟩, ⟨u5, p5⟩, ⟨u6, p6⟩⟩ := cells_seven hP hPs
      have f0 := obj_free hP 0
      have f1 := obj_free hP 1
      have f2 := obj_free hP 2
      have f3 := obj_free hP 3
      have f4 := obj_free hP 4
      have f5 := obj_free hP 5
      have f6 := obj_free hP 6
      have hg : W.grownBy (put7 W bP (.int .i64 y) (.int .i64 q) (.int .i64 s0) (.int .i64 s1) (.int .i64 s2) (.int .i64 s3) (.int .i64 s4)) (some bP) := put7_grown _ _ _ _ _ _ _ _ _
      exact wpOp_skip rfl rfl (w' := (put7 W bP (.int .i64 y) (.int .i64 q) (.int .i64 s0) (.int .i64 s1) (.int .i64 s2) (.int .i64 s3) (.int .i64 s4))) (by unfold put7; simp [execOp, go_sem, EP, EV, p0, p1, p2, p3, p4, p5, p6, f0, f1, f2, f3, f4, f5, f6]) ⟨f, by rw [← ha1]; rfl, hB.grown hg hB.size (fun j e => by injection e with e; have := HBHL.out; omega), (hg.block bN (obj_lt hH) (by simp [HBHL.out.2.2.2.2.1])).trans hH, (hg.block bX (obj_lt hX) (by simp [Ne.symm HRL.out.2.2.2.2])).trans hX, hO.old hg HRL.out.2.1, (fun h => by rw [hl 0 (by decide)] at h; exact h0 h), (fun h => by rw [hl 1 (by decide)] at h; exact h1 h), ⟨cr, (hg.block bR (obj_lt hR) (by simp [HBHL.out.2.2.2.2.2])).trans hR, hRs, fun h => by rw [hl 2 (by decide)] at h; exact hRl h⟩, ⟨#[.int .i64 y, .int .i64 q, .int .i64 s0, .int .i64 s1, .int .i64 s2, .int .i64 s3, .int .i64 s4], put7_at hP hPs _ _ _ _ _ _ _, rfl, fun _ => rfl⟩, (fun h => by rw [hl 4 (by decide)] at h; exact h4 h)⟩
    · have hl : ∀ j, j ≠ 4 → (L.setIfInBounds 4 true).getD j false = L.getD j false := fun j hj => by rw [flag_set _ _ _ (by omega), if_neg (fun e => hj e.symm)]
      generalize ha1 : putsL _ [44, 45, 6] f = a1
      exact wpOp_val rfl rfl (v := .int .i64 0) (w' := W) (by simp [execOp, go_sem]) ⟨updF f 6 (.int .i64 0), by rw [← ha1]; exact putsL_put _ _ _ _ _ (by decide), hB, hH, hX, hO, (fun h => by rw [hl 0 (by decide)] at h; rw [updF_other _ _ (by decide)]; exact h0 h), (fun h => by rw [hl 1 (by decide)] at h; rw [updF_other _ _ (by decide)]; exact h1 h), ⟨cr, hR, hRs, fun h => by rw [hl 2 (by decide)] at h; exact hRl h⟩, ⟨cz, hP, hPs, fun h => by rw [hl 3 (by decide)] at h; exact hPl h⟩, (fun _ => updF_same _ _ _)⟩
  · rintro L f W ⟨hB, hH, hX, hO, h0, h1, ⟨cr, hR, -, hr2⟩, ⟨cp', hP, -, hp2⟩, h4⟩ hall
    have h6 := h4 (hall 4 (by decide))
    rw [hr2 (hall 2 (by decide))] at hR
    rw [hp2 (hall 3 (by decide))] at hP
    simp only [putsL, List.foldl_cons, List.foldl_nil, Act.put, List.setIfInBounds_toArray, List.set_cons_zero, List.set_cons_succ]
    have p0 := obj_cell hR 0
    have p1 := obj_cell hR 1
    have p2 := obj_cell hR 2
    simp at p0 p1 p2
    have z0 := obj_cell hP 0
    have z1 := obj_cell hP 1
    have z2 := obj_cell hP 2
    have z3 := obj_cell hP 3
    have z4 := obj_cell hP 4
    have z5 := obj_cell hP 5
    have z6 := obj_cell hP 6
    simp at z0 z1 z2 z3 z4 z5 z6
    go_wp2
    refine bodyPost_ret (v := .tuple #[.agg #[.slice xl nl yl, .slice au (n + 1) cu, .slice xc nc yc], .agg #[.int .i64 y, .int .i64 q, .int .i64 s0, .int .i64 s1, .int .i64 s2, .int .i64 s3, .int .i64 s4], .int .i64 0]) (by simp [results, Try.results22, go_sem, p0, p1, p2, z0, z1, z2, z3, z4, z5, z6, h6]) rfl ⟨_, _, _, rfl, hO.hst, hB⟩

end Go.Proofs.Ytoccnindkimjdaa
