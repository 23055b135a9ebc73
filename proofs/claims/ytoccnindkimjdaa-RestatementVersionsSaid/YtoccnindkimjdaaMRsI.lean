/- The reference of histories: Present of right ones. -/
import Derived.Test.YtoccnindkimjdaaMRsH
import Derived.Test.YtoccnindkimjdaaMPut7
set_option linter.unusedSimpArgs false
set_option linter.unusedVariables false
set_option linter.unusedSimpArgs false
set_option linter.unusedVariables false
namespace Go.Proofs.Ytoccnindkimjdaa
open Go.RowKit Go.Lib Go.Proofs

theorem flag_set (L : Array Bool) (i j : Nat) (hi : i < L.size) : (L.setIfInBounds i true).getD j false = if i = j then true else L.getD j false := by
  simp only [Array.getD_eq_getD_getElem?, Array.getElem?_setIfInBounds]
  by_cases h : i = j
  · subst h; simp [hi]
  · simp [h]
theorem flag_un {L : Array Bool} {i : Nat} (hi : i < L.size) (h : L.getD i true = false) : ¬ L.getD i false = true := by
  simp only [Array.getD_eq_getD_getElem?, Array.getElem?_eq_getElem hi, Option.getD_some] at h ⊢
  rw [h]; decide
theorem flag_same (L : Array Bool) (i : Nat) (hi : i < L.size) : (L.setIfInBounds i true).getD i false = true := by rw [flag_set _ _ _ hi, if_pos rfl]
theorem dep_listed {ops : Array Oper} {L : Array Bool} {i j : Nat} (hdep : ∀ o, ops[i]? = some o → ∀ e ∈ o.after, Region.binds .any e = true → L.getD e.on false = true) (h : depB ops i j = true) : L.getD j false = true := by
  unfold depB at h
  cases ho : ops[i]? with
  | none => rw [ho] at h; cases h
  | some o =>
    rw [ho] at h
    simp only [Option.map_some, Option.getD_some] at h
    rw [Array.any_eq_true'] at h
    obtain ⟨e, he, h2⟩ := h
    simp only [Bool.and_eq_true, decide_eq_true_eq] at h2
    rw [← h2.2]
    exact hdep o ho e he h2.1
theorem cells_three {W : World} {b : Nat} {cs : Array Value} {T : TypeId} (h : W.heap[b]? = some (.cells cs T (0, 0))) (hs : cs.size = 3) : (∃ u, W.cell? ⟨b, 0, none⟩ = some u) ∧ (∃ u, W.cell? ⟨b, 1, none⟩ = some u) ∧ (∃ u, W.cell? ⟨b, 2, none⟩ = some u) := by
  have key : ∀ j, j < 3 → ∃ u, W.cell? ⟨b, j, none⟩ = some u := fun j hj => ⟨cs[j]'(by omega), by rw [obj_cell h j]; exact Array.getElem?_eq_getElem (by omega)⟩
  exact ⟨key 0 (by decide), key 1 (by decide), key 2 (by decide)⟩
theorem cells_seven {W : World} {b : Nat} {cs : Array Value} {T : TypeId} (h : W.heap[b]? = some (.cells cs T (0, 0))) (hs : cs.size = 7) : (∃ u, W.cell? ⟨b, 0, none⟩ = some u) ∧ (∃ u, W.cell? ⟨b, 1, none⟩ = some u) ∧ (∃ u, W.cell? ⟨b, 2, none⟩ = some u) ∧ (∃ u, W.cell? ⟨b, 3, none⟩ = some u) ∧ (∃ u, W.cell? ⟨b, 4, none⟩ = some u) ∧ (∃ u, W.cell? ⟨b, 5, none⟩ = some u) ∧ (∃ u, W.cell? ⟨b, 6, none⟩ = some u) := by
  have key : ∀ j, j < 7 → ∃ u, W.cell? ⟨b, j, none⟩ = some u := fun j hj => ⟨cs[j]'(by omega), by rw [obj_cell h j]; exact Array.getElem?_eq_getElem (by omega)⟩
  exact ⟨key 0 (by decide), key 1 (by decide), key 2 (by decide), key 3 (by decide), key 4 (by decide), key 5 (by decide), key 6 (by decide)⟩
/-- Within the last region of Present: what stands in the slots and in the boxes. -/
def LastJ (w : World) (bH bX bR bP : Nat) (CH CX : Array Value) (O : World → Prop) (L : Array Bool) (f : Nat → Value) (W : World) : Prop :=
  Below w.heap.size w W ∧ W.heap[bH]? = some (.cells CH 31 (0, 0)) ∧ W.heap[bX]? = some (.cells CX 40 (0, 0)) ∧ O W ∧
  (L.getD 0 false = true → f 55 = .agg CH) ∧ (L.getD 1 false = true → f 56 = .agg CX) ∧
  (∃ cr, W.heap[bR]? = some (.cells cr 31 (0, 0)) ∧ cr.size = 3 ∧ (L.getD 2 false = true → cr = CH)) ∧
  (∃ cp, W.heap[bP]? = some (.cells cp 40 (0, 0)) ∧ cp.size = 7 ∧ (L.getD 3 false = true → cp = CX)) ∧
  (L.getD 4 false = true → f 6 = .int .i64 0)

theorem Try.infoRsPrs : (Try.prog.info? 40).map (fun i => (i.zero, i.size, i.bytes)) = some (some (.agg #[.int .i64 0, .int .i64 0, .int .i64 0, .int .i64 0, .int .i64 0, .int .i64 0, .int .i64 0]), 7, 56) := by kernel_rfl

set_option maxRecDepth 100000 in
set_option maxHeartbeats 16000000 in
theorem rfPresent_ok {h : Hst} (hh : HstOk h) {y : Int} (hy : 0 ≤ y ∧ y ≤ 99) (hpn : h.pres.length < 20) (vl vp vc : Value) (w : World) (ha : HstAt w vl vp vc h) :
    Calls Try.prog 24 #[.agg #[vl, vp, vc], .int .i64 y] w fun e w' => ∃ u, e = .returned (.tuple #[.agg #[vl, u, vc], .agg (prsC ⟨y, versM y h.pres + 1, restM y h⟩).toArray, .int .i64 0]) ∧ ListAt prsC 7 w' u (h.pres ++ [⟨y, versM y h.pres + 1, restM y h⟩]) ∧ Below w.heap.size w w' := by
  obtain ⟨i0, hi0, hz0, hz1, hz2⟩ := info_parts Try.infoRsPrs
  have HRE := Lib.hid (fun W (hW : Below w.heap.size w W) => rfRestated_ok hh hy vl vp vc W (ha.below hW))
  obtain ⟨al, -, ac, cl, -, cc, rfl, -, rfl⟩ := ha.parts
  obtain ⟨nl, hnl⟩ : ∃ q, q = h.led.length := ⟨_, rfl⟩
  obtain ⟨nc, hnc⟩ : ∃ q, q = h.cors.length := ⟨_, rfl⟩
  have hap := ha.pres
  obtain ⟨L, PS, C⟩ := h
  simp only at hap hpn hnl hnc
  obtain ⟨R, hR⟩ : ∃ R, R = restM y ⟨L, PS, C⟩ := ⟨_, rfl⟩
  rw [← hR] at HRE ⊢
  obtain ⟨s0, s1, s2, s3, s4⟩ := R
  simp only [stmA] at HRE
  simp only
  rw [← hnl, ← hnc] at HRE ⊢
  obtain ⟨ap, cp, rfl, hcp, hcs⟩ := hap.shape prsF
  have HCS := Lib.hid hcs
  have HNW0 : Hid (∀ W, Below w.heap.size w W → PS.length = 0 ∨ ∃ ad : Addr, ap = some ad ∧ ∀ j u, (cellsL prsC PS)[j]? = some u → W.cell? (ad.add j) = some u) := Lib.hid fun W hW => newsOf prsF (hap.below hW)
  have HCLN := Lib.hid (cellsL_len prsF PS)
  have HONE := Lib.hid (cellsL_one prsF PS)
  obtain ⟨q, hq⟩ : ∃ q, q = versM y PS + 1 := ⟨_, rfl⟩
  obtain ⟨VM, hVM⟩ : ∃ V : Nat → Int, V = fun k => versM y (PS.take k) := ⟨_, rfl⟩
  have HV0 : Hid (VM 0 = 0) := Lib.hid (by rw [hVM]; rfl)
  have HVN : Hid (VM PS.length + 1 = q) := Lib.hid (by rw [hVM, hq]; show versM y (PS.take PS.length) + 1 = _; rw [List.take_length])
  have HVS : Hid (∀ k (hk : k < PS.length), VM (k + 1) = VM k + (if (PS[k]).yr = y then 1 else 0)) := Lib.hid fun k hk => by
    rw [hVM]
    show versM y (PS.take (k + 1)) = _
    rw [List.take_succ_eq_append_getElem hk, versM_snoc]
  have HVB : Hid (∀ k, 0 ≤ VM k ∧ VM k ≤ (k : Int)) := Lib.hid fun k => by
    rw [hVM]
    have h1 := versM_len y (PS.take k)
    have h2 : (PS.take k).length ≤ k := by rw [List.length_take]; omega
    show 0 ≤ versM y (PS.take k) ∧ versM y (PS.take k) ≤ (k : Int)
    exact ⟨h1.1, by omega⟩
  rw [← hq]
  have HSN := Lib.hid (cellsL_snoc prsC PS ⟨y, q, s0, s1, s2, s3, s4⟩)
  have HLEN : Hid ((PS ++ [(⟨y, q, s0, s1, s2, s3, s4⟩ : Prs)]).length = PS.length + 1) := Lib.hid (by simp)
  obtain ⟨RS, hRS⟩ : ∃ RS : List Prs, RS = PS ++ [⟨y, q, s0, s1, s2, s3, s4⟩] := ⟨_, rfl⟩
  rw [← hRS] at HSN HLEN ⊢
  obtain ⟨CL, hCL⟩ : ∃ CL, CL = cellsL prsC PS := ⟨_, rfl⟩
  rw [← hCL] at HNW0 HCLN HONE HSN
  simp only [prsC] at HSN ⊢
  obtain ⟨n, hn⟩ : ∃ n, n = PS.length := ⟨_, rfl⟩
  have HN := Lib.hid hn
  rw [← hn] at hcp hpn HRE HNW0 HCLN HLEN HVN ⊢
  have HEO : Hid (∀ u ∈ ([.int .i64 y, .int .i64 q, .int .i64 s0, .int .i64 s1, .int .i64 s2, .int .i64 s3, .int .i64 s4] : List Value), u.oneCell' = true) := Lib.hid (prsF.one ⟨y, q, s0, s1, s2, s3, s4⟩)
  clear hnl hnc hR hap hcs hq hVM hRS hCL hn ha hh
  obtain ⟨w0, hw0⟩ : ∃ w0, w0 = ((w.alloc (.cells #[.slice al nl cl, .slice ap n cp, .slice ac nc cc] 31)).alloc (.cells #[.slice none 0 0, .slice none 0 0, .slice none 0 0] 31)).alloc (.cells #[.int .i64 0, .int .i64 0, .int .i64 0, .int .i64 0, .int .i64 0, .int .i64 0, .int .i64 0] 40) := ⟨_, rfl⟩
  obtain ⟨bH, hbH⟩ : ∃ b, b = w.heap.size := ⟨_, rfl⟩
  obtain ⟨bR, hbR⟩ : ∃ b, b = w.heap.size + 1 := ⟨_, rfl⟩
  obtain ⟨bP, hbP⟩ : ∃ b, b = w.heap.size + 2 := ⟨_, rfl⟩
  have HH0 : Hid (w0.heap[bH]? = some (.cells #[.slice al nl cl, .slice ap n cp, .slice ac nc cc] 31 (0, 0))) := Lib.hid (by rw [hw0, hbH]; exact obj_below (alloc1_at w _ _) (below_alloc _ _))
  have HR0 : Hid (w0.heap[bR]? = some (.cells #[.slice none 0 0, .slice none 0 0, .slice none 0 0] 31 (0, 0))) := Lib.hid (by rw [hw0, hbR]; exact obj_below (alloc2_at w _ _) (below_alloc _ _))
  have HP0 : Hid (w0.heap[bP]? = some (.cells #[.int .i64 0, .int .i64 0, .int .i64 0, .int .i64 0, .int .i64 0, .int .i64 0, .int .i64 0] 40 (0, 0))) := Lib.hid (by
    rw [hw0, hbP]
    have := heap_alloc_new ((w.alloc (.cells #[.slice al nl cl, .slice ap n cp, .slice ac nc cc] 31)).alloc (.cells #[.slice none 0 0, .slice none 0 0, .slice none 0 0] 31)) (.cells #[.int .i64 0, .int .i64 0, .int .i64 0, .int .i64 0, .int .i64 0, .int .i64 0, .int .i64 0] 40)
    rw [show ((w.alloc (.cells #[.slice al nl cl, .slice ap n cp, .slice ac nc cc] 31)).alloc (.cells #[.slice none 0 0, .slice none 0 0, .slice none 0 0] 31)).heap.size = w.heap.size + 2 by simp] at this
    exact this)
  have HB0 : Hid (Below w.heap.size w w0) := Lib.hid (by rw [hw0]; exact (below2 w _ _).trans ((below_alloc _ _).mono (below2 w _ _).size))
  have HBHL : Hid (w.heap.size ≤ bH ∧ w.heap.size ≤ bR ∧ w.heap.size ≤ bP ∧ bH ≠ bR ∧ bH ≠ bP ∧ bR ≠ bP) := Lib.hid (by omega)
  have HW0 := Lib.hid hw0
  have HBH := Lib.hid hbH
  have HBR := Lib.hid hbR
  have HBP := Lib.hid hbP
  have hbx := HH0.out
  have ub0 := obj_cell hbx 0
  have ub1 := obj_cell hbx 1
  have ub2 := obj_cell hbx 2
  simp at ub0 ub1 ub2
  clear hw0 hbH hbR hbP hbx
  go_enter Try.func24, Try.ntmps24
  go_upto_region 1 with fail
  rw [← HW0.out, ← HBP.out, ← HBR.out, ← HBH.out]
  go_wp2_with fail
  refine (HRE.out _ HB0.out).mono ?_
  rintro e w2 ⟨rfl, hb2⟩
  have HB2 := Lib.hid (HB0.out.trans (hb2.mono HB0.out.size))
  obtain ⟨w3, hw3⟩ : ∃ W, W = w2.alloc (.cells #[.int .i64 s0, .int .i64 s1, .int .i64 s2, .int .i64 s3, .int .i64 s4] 38) := ⟨_, rfl⟩
  obtain ⟨bS, hbS⟩ : ∃ b, b = w2.heap.size := ⟨_, rfl⟩
  have hx3 : w3.heap[bS]? = some (.cells #[.int .i64 s0, .int .i64 s1, .int .i64 s2, .int .i64 s3, .int .i64 s4] 38 (0, 0)) := by rw [hw3, hbS]; exact heap_alloc_new _ _
  have hb3 : Below w2.heap.size w2 w3 := by rw [hw3]; exact below_alloc _ _
  have HB3 := Lib.hid (HB2.out.trans (hb3.mono HB2.out.size))
  have HH3 := Lib.hid (obj_below (obj_below HH0.out hb2) hb3)
  have HR3 := Lib.hid (obj_below (obj_below HR0.out hb2) hb3)
  have HP3 := Lib.hid (obj_below (obj_below HP0.out hb2) hb3)
  have hbx := HH3.out
  clear ub0 ub1 ub2 hb2 hb3
  have ub0 := obj_cell hbx 0
  have ub1 := obj_cell hbx 1
  have ub2 := obj_cell hbx 2
  simp at ub0 ub1 ub2
  have t0 := obj_cell hx3 0
  have t1 := obj_cell hx3 1
  have t2 := obj_cell hx3 2
  have t3 := obj_cell hx3 3
  have t4 := obj_cell hx3 4
  simp at t0 t1 t2 t3 t4
  have hn20 : ¬ (n : Int) = 20 := by omega
  have hn20b : ((n : Int) == 20) = false := by rw [beq_eq_false_iff_ne]; exact hn20
  have HW3 := Lib.hid hw3
  have HBS := Lib.hid hbS
  clear hbx hx3 hw3 hbS HRE HH0 HR0 HP0 HB0
  go_upto_region 4 with fail
  rw [← HW3.out, ← HBS.out]
  obtain ⟨w4, hw4⟩ : ∃ W, W = w3.alloc (.cells #[.int .i64 y, .int .i64 1, .int .i64 s0, .int .i64 s1, .int .i64 s2, .int .i64 s3, .int .i64 s4] 40) := ⟨_, rfl⟩
  obtain ⟨bX, hbX⟩ : ∃ b, b = w3.heap.size := ⟨_, rfl⟩
  have hx4 : w4.heap[bX]? = some (.cells #[.int .i64 y, .int .i64 1, .int .i64 s0, .int .i64 s1, .int .i64 s2, .int .i64 s3, .int .i64 s4] 40 (0, 0)) := by rw [hw4, hbX]; exact heap_alloc_new _ _
  have hb4 : Below w3.heap.size w3 w4 := by rw [hw4]; exact below_alloc _ _
  have HX4 : Hid (w4.heap[bX]? = some (.cells #[.int .i64 y, .int .i64 (VM 0 + 1), .int .i64 s0, .int .i64 s1, .int .i64 s2, .int .i64 s3, .int .i64 s4] 40 (0, 0))) := Lib.hid (by rw [HV0.out]; exact hx4)
  have HB4 := Lib.hid hb4
  have hbx := obj_below HH3.out hb4
  have HW4 := Lib.hid hw4
  have HBX := Lib.hid hbX
  have HXL : Hid (w3.heap.size ≤ bX) := Lib.hid (by omega)
  have vb0 := obj_cell hbx 0
  have vb1 := obj_cell hbx 1
  have vb2 := obj_cell hbx 2
  simp at vb0 vb1 vb2
  clear hx4 hw4 hbX hbx hb4
  go_upto_region 7 with fail
  rw [← HW4.out, ← HBX.out]
  clear t0 t1 t2 t3 t4 ub0 ub1 ub2
  go_wp2
  go_loopw [35] (fun iv wr => ∃ k : Nat, iv = .int .i64 k ∧ k ≤ n ∧ Hid (Below w3.heap.size w3 wr) ∧ Hid (wr.heap[bX]? = some (.cells #[.int .i64 y, .int .i64 (VM k + 1), .int .i64 s0, .int .i64 s1, .int .i64 s2, .int .i64 s3, .int .i64 s4] 40 (0, 0)))) (fun iv _ => n - (RowKit.intOf iv).toNat)
  case atStart => exact ⟨0, rfl, by omega, HB4, HX4⟩
  case round =>
    clear vb0 vb1 vb2 HB4 HX4
    obtain ⟨k, rfl, hkn, HB, HX⟩ := hrel
    by_cases hlt : k < n
    · have hkP : k < PS.length := by rw [← HN.out]; exact hlt
      obtain ⟨b, o, rfl, hb, hcc⟩ := HCS.out (by omega)
      have HWB := Lib.hid (HB3.out.trans (HB.out.mono HB3.out.size))
      have hcell := fun j (hj : j < 7) => (HWB.out.cell (p := ⟨b, o + k * 7 + j, none⟩) hb).trans (hcc k hkP j hj)
      have hvs := HVS.out k hkP
      have hvb := HVB.out k
      generalize PS[k] = x at *
      obtain ⟨x0, x1, x2, x3, x4, x5, x6⟩ := x
      simp only at hvs
      have c0 := hcell 0 (by omega)
      have c1 := hcell 1 (by omega)
      have c2 := hcell 2 (by omega)
      have c3 := hcell 3 (by omega)
      have c4 := hcell 4 (by omega)
      have c5 := hcell 5 (by omega)
      have c6 := hcell 6 (by omega)
      simp [prsC] at c0 c1 c2 c3 c4 c5 c6
      have hwk : IntKind.i64.wrap ((k : Int) + 1) = (k : Int) + 1 := IntWalk.i64_in _ (by omega)
      have hwv : IntKind.i64.wrap (VM k + 1 + 1) = VM k + 1 + 1 := IntWalk.i64_in _ (by omega)
      have hk0 : (0 : Int) ≤ (k : Int) := by omega
      have hk1 : (k : Int) < (n : Int) := by omega
      obtain ⟨w8, hw8⟩ : ∃ W, W = wr.alloc (.cells #[.int .i64 x0, .int .i64 x1, .int .i64 x2, .int .i64 x3, .int .i64 x4, .int .i64 x5, .int .i64 x6] 40) := ⟨_, rfl⟩
      obtain ⟨bQ, hbQ⟩ : ∃ b, b = wr.heap.size := ⟨_, rfl⟩
      have hx8 : w8.heap[bQ]? = some (.cells #[.int .i64 x0, .int .i64 x1, .int .i64 x2, .int .i64 x3, .int .i64 x4, .int .i64 x5, .int .i64 x6] 40 (0, 0)) := by rw [hw8, hbQ]; exact heap_alloc_new _ _
      have HB8 : Hid (Below w3.heap.size w3 w8) := Lib.hid (by rw [hw8]; exact HB.out.alloc HB.out.size _)
      have HX8 : Hid (w8.heap[bX]? = some (.cells #[.int .i64 y, .int .i64 (VM k + 1), .int .i64 s0, .int .i64 s1, .int .i64 s2, .int .i64 s3, .int .i64 s4] 40 (0, 0))) := Lib.hid (by rw [hw8]; exact obj_below HX.out (below_alloc _ _))
      have e0 := obj_cell hx8 0
      simp at e0
      have hxx := HX8.out
      have g1 := obj_cell hxx 1
      have f1 := obj_free hxx 1
      simp at g1
      have HW8 := Lib.hid hw8
      have HBQ := Lib.hid hbQ
      clear hcell hcc hw8 hbQ hx8 hxx
      go_upto_region 10 with fail
      rw [← HW8.out, ← HBQ.out]
      clear c0 c1 c2 c3 c4 c5 c6
      by_cases he : x0 = y
      · rw [if_pos he] at hvs
        subst he
        have HB9 : Hid (Below w3.heap.size w3 (w8.setCell ⟨bX, 1, none⟩ (.int .i64 (VM k + 1 + 1)))) := Lib.hid (HB8.out.setCell (by exact HXL.out) _)
        have HX9 : Hid ((w8.setCell ⟨bX, 1, none⟩ (.int .i64 (VM k + 1 + 1))).heap[bX]? = some (.cells #[.int .i64 x0, .int .i64 (VM (k + 1) + 1), .int .i64 s0, .int .i64 s1, .int .i64 s2, .int .i64 s3, .int .i64 s4] 40 (0, 0))) := Lib.hid (by
          have h1 := obj_set HX8.out 1 (.int .i64 (VM k + 1 + 1))
          simp only [List.setIfInBounds_toArray, List.set_cons_zero, List.set_cons_succ] at h1
          rw [h1, hvs])
        clear hvs
        go_wp2
        go_roundw
        case rel => exact ⟨k + 1, by first | rfl | go_num, by omega, HB9, HX9⟩
        case measure => simp [RowKit.intOf]; omega
      · rw [if_neg he, Int.add_zero] at hvs
        have HX9 : Hid (w8.heap[bX]? = some (.cells #[.int .i64 y, .int .i64 (VM (k + 1) + 1), .int .i64 s0, .int .i64 s1, .int .i64 s2, .int .i64 s3, .int .i64 s4] 40 (0, 0))) := Lib.hid (by rw [hvs]; exact HX8.out)
        clear hvs
        go_wp2
        go_roundw
        case rel => exact ⟨k + 1, by first | rfl | go_num, by omega, HB8, HX9⟩
        case measure => simp [RowKit.intOf]; omega
    · obtain hkk : k = n := by omega
      rw [hkk, HVN.out] at HX
      have HBz := Lib.hid (HB3.out.trans (HB.out.mono HB3.out.size))
      have HHz := Lib.hid (obj_below HH3.out HB.out)
      have HRz := Lib.hid (obj_below HR3.out HB.out)
      have HPz := Lib.hid (obj_below HP3.out HB.out)
      have hrb : bH < wr.heap.size := obj_lt HHz.out
      have HRL : Hid (bR < wr.heap.size ∧ bP < wr.heap.size ∧ bH ≠ bX ∧ bR ≠ bX ∧ bP ≠ bX) := Lib.hid (by
        have h1 := obj_lt HRz.out
        have h2 := obj_lt HPz.out
        have h3 := obj_lt HH3.out
        have h4 := obj_lt HR3.out
        have h5 := obj_lt HP3.out
        have h6 := HXL.out
        omega)
      obtain ⟨J, hJ⟩ : ∃ J, J = fun W : World => Below wr.heap.size wr W := ⟨_, rfl⟩
      have HJO : Hid (∀ W, J W → Below wr.heap.size wr W) := Lib.hid fun W hW => by rw [hJ] at hW; exact hW
      have HJI : Hid (∀ W, Below wr.heap.size wr W → J W) := Lib.hid fun W hW => by rw [hJ]; exact hW
      have HJD : Hid (∀ W, J W → J W.drew) := Lib.hid fun W hW => HJI.out _ ((HJO.out W hW).drew)
      have HJA : Hid (∀ W o, J W → J (W.alloc o)) := Lib.hid fun W o hW => HJI.out _ ((HJO.out W hW).alloc (HJO.out W hW).size o)
      have HJ0 : Hid (J wr) := Lib.hid (HJI.out _ (Below.refl _ _))
      have HJW : Hid (∀ W, J W → Below w.heap.size w W) := Lib.hid fun W hW => HBz.out.trans ((HJO.out W hW).mono HBz.out.size)
      have HMH : Hid (∀ W, J W → ∀ j, W.cell? ⟨bH, j, none⟩ = #[.slice al nl cl, .slice ap n cp, .slice ac nc cc][j]?) := Lib.hid fun W hW j => obj_cell (obj_below HHz.out (HJO.out W hW)) j
      have HME : Hid (∀ W, J W → ∀ j, W.cell? ⟨bX, j, none⟩ = #[.int .i64 y, .int .i64 q, .int .i64 s0, .int .i64 s1, .int .i64 s2, .int .i64 s3, .int .i64 s4][j]?) := Lib.hid fun W hW j => obj_cell (obj_below HX.out (HJO.out W hW)) j
      have HMR : Hid (∀ W, J W → W.heap[bH]? = some (.cells #[.slice al nl cl, .slice ap n cp, .slice ac nc cc] 31 (0, 0))) := Lib.hid fun W hW => obj_below HHz.out (HJO.out W hW)
      have HNW : Hid (∀ W, J W → n = 0 ∨ ∃ ad : Addr, ap = some ad ∧ ∀ j u, CL[j]? = some u → W.cell? (ad.add j) = some u) := Lib.hid fun W hW => HNW0.out W (HJW.out W hW)
      obtain ⟨J2, hJ2⟩ : ∃ J2, J2 = fun W : World => W.heap[bR]? = some (.cells #[.slice none 0 0, .slice none 0 0, .slice none 0 0] 31 (0, 0)) ∧ W.heap[bP]? = some (.cells #[.int .i64 0, .int .i64 0, .int .i64 0, .int .i64 0, .int .i64 0, .int .i64 0, .int .i64 0] 40 (0, 0)) ∧ W.heap[bX]? = some (.cells #[.int .i64 y, .int .i64 q, .int .i64 s0, .int .i64 s1, .int .i64 s2, .int .i64 s3, .int .i64 s4] 40 (0, 0)) := ⟨_, rfl⟩
      have HJ2 : Hid (∀ W (x : Value), J W → J2 (W.setCell ⟨bH, 1, none⟩ x)) := Lib.hid fun W x hW => by
        have hg : W.grownBy (W.setCell ⟨bH, 1, none⟩ x) (some bH) := setCell_grown _ _
        have h1 := obj_below HRz.out (HJO.out W hW)
        have h2 := obj_below HPz.out (HJO.out W hW)
        have h3 := obj_below HX.out (HJO.out W hW)
        rw [hJ2]
        exact ⟨(hg.block bR (obj_lt h1) (by simp [Ne.symm HBHL.out.2.2.2.1])).trans h1, (hg.block bP (obj_lt h2) (by simp [Ne.symm HBHL.out.2.2.2.2.1])).trans h2, (hg.block bX (obj_lt h3) (by simp [Ne.symm HRL.out.2.2.1])).trans h3⟩
      have HJ2O : Hid (∀ W, J2 W → W.heap[bR]? = some (.cells #[.slice none 0 0, .slice none 0 0, .slice none 0 0] 31 (0, 0)) ∧ W.heap[bP]? = some (.cells #[.int .i64 0, .int .i64 0, .int .i64 0, .int .i64 0, .int .i64 0, .int .i64 0, .int .i64 0] 40 (0, 0)) ∧ W.heap[bX]? = some (.cells #[.int .i64 y, .int .i64 q, .int .i64 s0, .int .i64 s1, .int .i64 s2, .int .i64 s3, .int .i64 s4] 40 (0, 0))) := Lib.hid fun W hW => by rw [hJ2] at hW; exact hW
      clear hJ hJ2 HNW0 hkk hkn HB HCS HVS HVB HV0 HVN HP3 HR3 HH3
      go_upto_region 13 with fail
      obtain ⟨P, hP⟩ : ∃ P : Nat → Value → World → Prop, P = fun j v W => match j with | 0 => (v = .pointer (some ⟨bH, 1, none⟩)) | 1 => (v = .slice ap n cp) | 2 => (∃ cv, v = cv ∧ W.ownsRow wr.heap.size 40 7 cv (n) (CL)) | 3 => (v = .agg #[.int .i64 y, .int .i64 q, .int .i64 s0, .int .i64 s1, .int .i64 s2, .int .i64 s3, .int .i64 s4]) | 4 => (∃ bq, v = .slice (some ⟨bq, 0, none⟩) 1 1 ∧ W.heap[bq]? = some (.cells #[.int .i64 y, .int .i64 q, .int .i64 s0, .int .i64 s1, .int .i64 s2, .int .i64 s3, .int .i64 s4] 40 (0, 0))) | _ => True := ⟨_, rfl⟩
      have HPI0 : Hid (∀ v W, P 0 v W ↔ (v = .pointer (some ⟨bH, 1, none⟩))) := Lib.hid fun v W => by rw [hP] <;> exact Iff.rfl
      have HPI1 : Hid (∀ v W, P 1 v W ↔ (v = .slice ap n cp)) := Lib.hid fun v W => by rw [hP] <;> exact Iff.rfl
      have HPI2 : Hid (∀ v W, P 2 v W ↔ (∃ cv, v = cv ∧ W.ownsRow wr.heap.size 40 7 cv (n) (CL))) := Lib.hid fun v W => by rw [hP] <;> exact Iff.rfl
      have HPI3 : Hid (∀ v W, P 3 v W ↔ (v = .agg #[.int .i64 y, .int .i64 q, .int .i64 s0, .int .i64 s1, .int .i64 s2, .int .i64 s3, .int .i64 s4])) := Lib.hid fun v W => by rw [hP] <;> exact Iff.rfl
      have HPI4 : Hid (∀ v W, P 4 v W ↔ (∃ bq, v = .slice (some ⟨bq, 0, none⟩) 1 1 ∧ W.heap[bq]? = some (.cells #[.int .i64 y, .int .i64 q, .int .i64 s0, .int .i64 s1, .int .i64 s2, .int .i64 s3, .int .i64 s4] 40 (0, 0)))) := Lib.hid fun v W => by rw [hP] <;> exact Iff.rfl
      have HKP : Hid (∀ (j : Nat) v W W', Below W.heap.size W W' → P j v W → P j v W') := Lib.hid (by
        rw [hP]
        intro j v W W' hb h
        match j, h with
        | 0, h => exact h
        | 1, h => exact h
        | 2, ⟨cv, e, s0⟩ => exact ⟨cv, e, ownsRow_below s0 hb⟩
        | 3, h => exact h
        | 4, ⟨bq, e, s0⟩ => exact ⟨bq, e, obj_below s0 hb⟩
        | j + 5, _ => trivial)
      clear hP
      go_cut [] (fun wx => ∃ (au : Option Addr) (cu : Nat), Hid (Below w.heap.size w wx) ∧ Hid (J2 wx) ∧ Hid (wx.heap[bH]? = some (.cells #[.slice al nl cl, .slice au (n + 1) cu, .slice ac nc cc] 31 (0, 0))) ∧ Hid (wx.ownsRow wr.heap.size 40 7 (.slice au (n + 1) cu) (n + 1) (CL ++ [.int .i64 y, .int .i64 q, .int .i64 s0, .int .i64 s1, .int .i64 s2, .int .i64 s3, .int .i64 s4])))
      case first =>
        refine wp_region_tail [48, 49, 50, 51, 52, 53, 54] (slotS [48, 49, 50, 51, 52]) (readsS [48, 49, 50, 51, 52]) (RP [48, 49, 50, 51, 52] P) J (fun k f W => match k with | 0 => (∃ (cv : Value) (bq : Nat), f 50 = cv ∧ f 52 = .slice (some ⟨bq, 0, none⟩) 1 1 ∧ J W ∧ W.ownsRow wr.heap.size 40 7 cv (n) (CL) ∧ W.heap[bq]? = some (.cells #[.int .i64 y, .int .i64 q, .int .i64 s0, .int .i64 s1, .int .i64 s2, .int .i64 s3, .int .i64 s4] 40 (0, 0))) | 1 => (∃ uq : Value, f 53 = uq ∧ J W ∧ W.ownsRow wr.heap.size 40 7 uq (n + 1) (CL ++ [.int .i64 y, .int .i64 q, .int .i64 s0, .int .i64 s1, .int .i64 s2, .int .i64 s3, .int .i64 s4])) | 2 => (∃ uq : Value, f 53 = uq ∧ f 54 = .pointer (some ⟨bH, 1, none⟩) ∧ J W ∧ W.ownsRow wr.heap.size 40 7 uq (n + 1) (CL ++ [.int .i64 y, .int .i64 q, .int .i64 s0, .int .i64 s1, .int .i64 s2, .int .i64 s3, .int .i64 s4])) | _ => (∃ uq : Value, Below w.heap.size w W ∧ J2 W ∧ W.heap[bH]? = some (.cells #[.slice al nl cl, uq, .slice ac nc cc] 31 (0, 0)) ∧ W.ownsRow wr.heap.size 40 7 uq (n + 1) (CL ++ [.int .i64 y, .int .i64 q, .int .i64 s0, .int .i64 s1, .int .i64 s2, .int .i64 s3, .int .i64 s4]))) 5 8 (by decide) (by kernel_rfl) (by kernel_rfl) (by kernel_rfl) (by kernel_rfl) (HJD.out _ HJ0.out) (fun j f q v W hq h => RP.upd hq h) ?_ ?_ ?_ ?_
        case refine_1 =>
          intro iq hiq f W hIW hdep0
          have hdep : ∀ j, depB _ iq j = true → P j (f (slotS [48, 49, 50, 51, 52] j)) W := hdep0
          clear hdep0
          generalize ha1 : putsL _ [48, 49, 50, 51, 52, 53, 54] f = a1
          match iq, hiq, hdep with
          | 0, _, hdep0 =>
            have E2 : a1.tmps[2]?.getD undef = .pointer (some ⟨bH, 0, none⟩) := by rw [← ha1]; exact (putsL_out2 _ _ _ _ (by decide)).trans rfl
            exact wpOp_val rfl rfl (v := .pointer (some ⟨bH, 1, none⟩)) (w' := W) (by simp [execOp, go_sem, E2]) ⟨hIW, fun _ h => h, _, by decide, rfl, RP.set ((HPI0.out _ _).2 rfl)⟩
          | 1, _, hdep0 =>
            have hd0 := (HPI0.out _ _).1 (hdep0 0 (by kernel_rfl))
            have E48 : a1.tmps[48]?.getD undef = .pointer (some ⟨bH, 1, none⟩) := by rw [← ha1]; exact (putsL_in2 _ _ _ _ (by decide) (show 48 < 57 from by decide)).trans hd0
            have v1 : W.cell? ⟨bH, 1, none⟩ = some (.slice ap n cp) := by simpa using HMH.out W hIW 1
            exact wpOp_val rfl rfl (v := .slice ap n cp) (w' := W) (by simp [execOp, go_sem, E48, v1]) ⟨hIW, fun _ h => h, _, by decide, rfl, RP.set ((HPI1.out _ _).2 rfl)⟩
          | 2, _, hdep0 =>
            have hd1 := (HPI1.out _ _).1 (hdep0 1 (by kernel_rfl))
            have E49 : a1.tmps[49]?.getD undef = .slice ap n cp := by rw [← ha1]; exact (putsL_in2 _ _ _ _ (by decide) (show 49 < 57 from by decide)).trans hd1
            refine wpOp_fresh rfl rfl (.const (.slice none 0 0)) (.tmp 49) 28 rfl wr.heap.size 40 i0 (.agg #[.int .i64 0, .int .i64 0, .int .i64 0, .int .i64 0, .int .i64 0, .int .i64 0, .int .i64 0]) 7 56 Try.underlying28 hi0 hz0 hz1 hz2 rfl (by decide) rfl ap (n) cp CL ?_ HCLN.out (HNW.out W hIW) HONE.out (by unfold maxLen; omega) (by omega) (HJO.out W hIW).size ?_
            · show a1.tmps.getD 49 undef = _
              rw [Array.getD_eq_getD_getElem?]
              exact E49
            · intro v' w' h2 h3
              have hb' : Below W.heap.size W w' := (Below.refl _ W).grown h3 (Nat.le_refl _) (fun j e => by cases e)
              have hJ' : J w' := HJI.out _ ((HJO.out W hIW).trans (hb'.mono (HJO.out W hIW).size))
              exact ⟨hJ', fun j h => HKP.out j _ _ _ hb' h, _, by decide, rfl, RP.set ((HPI2.out _ _).2 ⟨_, rfl, h2⟩)⟩
          | 3, _, hdep0 =>
            have E9 : a1.tmps[9]?.getD undef = .pointer (some ⟨bX, 0, none⟩) := by rw [← ha1]; exact (putsL_out2 _ _ _ _ (by decide)).trans rfl
            have v0 : W.cell? ⟨bX, 0, none⟩ = some (.int .i64 y) := by simpa using HME.out W hIW 0
            have v1 : W.cell? ⟨bX, 1, none⟩ = some (.int .i64 q) := by simpa using HME.out W hIW 1
            have v2 : W.cell? ⟨bX, 2, none⟩ = some (.int .i64 s0) := by simpa using HME.out W hIW 2
            have v3 : W.cell? ⟨bX, 3, none⟩ = some (.int .i64 s1) := by simpa using HME.out W hIW 3
            have v4 : W.cell? ⟨bX, 4, none⟩ = some (.int .i64 s2) := by simpa using HME.out W hIW 4
            have v5 : W.cell? ⟨bX, 5, none⟩ = some (.int .i64 s3) := by simpa using HME.out W hIW 5
            have v6 : W.cell? ⟨bX, 6, none⟩ = some (.int .i64 s4) := by simpa using HME.out W hIW 6
            exact wpOp_val rfl rfl (v := .agg #[.int .i64 y, .int .i64 q, .int .i64 s0, .int .i64 s1, .int .i64 s2, .int .i64 s3, .int .i64 s4]) (w' := W) (by simp [execOp, go_sem, E9, v0, v1, v2, v3, v4, v5, v6]) ⟨hIW, fun _ h => h, _, by decide, rfl, RP.set ((HPI3.out _ _).2 rfl)⟩
          | 4, _, hdep0 =>
            have hd3 := (HPI3.out _ _).1 (hdep0 3 (by kernel_rfl))
            have E51 : a1.tmps[51]?.getD undef = .agg #[.int .i64 y, .int .i64 q, .int .i64 s0, .int .i64 s1, .int .i64 s2, .int .i64 s3, .int .i64 s4] := by rw [← ha1]; exact (putsL_in2 _ _ _ _ (by decide) (show 51 < 57 from by decide)).trans hd3
            exact wpOp_val rfl rfl (v := .slice (some ⟨W.heap.size, 0, none⟩) 1 1) (w' := W.alloc (.cells #[.int .i64 y, .int .i64 q, .int .i64 s0, .int .i64 s1, .int .i64 s2, .int .i64 s3, .int .i64 s4] 40)) (by simp [execOp, go_sem, E51]) ⟨(HJA.out _ _ hIW), fun j h => HKP.out j _ _ _ (below_alloc _ _) h, _, by decide, rfl, RP.set ((HPI4.out _ _).2 ⟨_, rfl, heap_alloc_new _ _⟩)⟩
          | iq + 5, h, _ => exact absurd h (by omega)
        case refine_2 =>
          intro f W hIW hR
          have h50 := (HPI2.out _ _).1 (hR 2 (by decide))
          have h52 := (HPI4.out _ _).1 (hR 4 (by decide))
          obtain ⟨cv, h51, hown⟩ := h50
          obtain ⟨bq, h53, hbq⟩ := h52
          exact ⟨cv, bq, h51, h53, hIW, hown, hbq⟩
        case refine_3 =>
          intro iq hsq hiq f W hIt0
          have hiq2 : iq < 8 := hiq
          have hIt := hIt0
          clear hIt0
          rcases (show iq = 5 ∨ iq = 6 ∨ iq = 7 by omega) with rfl | rfl | rfl
          · clear hsq hiq hiq2
            obtain ⟨cv, bq, h46, h48, hIW, hown, hbq⟩ := hIt
            refine wpOp_append rfl rfl (.tmp 50) (.tmp 52) 28 rfl wr.heap.size 40 i0 (.agg #[.int .i64 0, .int .i64 0, .int .i64 0, .int .i64 0, .int .i64 0, .int .i64 0, .int .i64 0]) 7 56 Try.underlying28 hi0 hz0 hz1 hz2 rfl (by decide) cv (n) CL ?_ hown ⟨bq, 0, none⟩ 1 1 [.int .i64 y, .int .i64 q, .int .i64 s0, .int .i64 s1, .int .i64 s2, .int .i64 s3, .int .i64 s4] ?_ rfl (obj_new_cells hbq) (HEO.out) (by unfold maxLen; omega) (by omega) (HJO.out W hIW).size ?_
            · exact (putsL_in _ _ _ _ (by decide) (show 50 < 57 from by decide)).trans h46
            · exact (putsL_in _ _ _ _ (by decide) (show 52 < 57 from by decide)).trans h48
            · intro v' w' h2 h3
              have hnew : ∃ uq : Value, updF f 53 v' 53 = uq ∧ J w' ∧ w'.ownsRow wr.heap.size 40 7 uq (n + 1) (CL ++ [.int .i64 y, .int .i64 q, .int .i64 s0, .int .i64 s1, .int .i64 s2, .int .i64 s3, .int .i64 s4]) := ⟨v', updF_same _ _ _, HJI.out _ ((HJO.out W hIW).grown h3 (HJO.out W hIW).size fun j e => ownBlock_le hown j e), h2⟩
              exact ⟨updF f 53 v', putsL_put _ _ _ _ _ (by decide), hnew⟩
          · clear hsq hiq hiq2
            obtain ⟨u, h49, hIW, hown⟩ := hIt
            generalize ha1 : putsL _ [48, 49, 50, 51, 52, 53, 54] f = a1
            have EH : a1.tmps[2]?.getD undef = .pointer (some ⟨bH, 0, none⟩) := by rw [← ha1]; exact (putsL_out2 _ _ _ _ (by decide)).trans rfl
            have hnew : ∃ uq : Value, updF f 54 (.pointer (some ⟨bH, 1, none⟩)) 53 = uq ∧ updF f 54 (.pointer (some ⟨bH, 1, none⟩)) 54 = .pointer (some ⟨bH, 1, none⟩) ∧ J W ∧ W.ownsRow wr.heap.size 40 7 uq (n + 1) (CL ++ [.int .i64 y, .int .i64 q, .int .i64 s0, .int .i64 s1, .int .i64 s2, .int .i64 s3, .int .i64 s4]) := ⟨u, (updF_other _ _ (by decide)).trans h49, updF_same _ _ _, hIW, hown⟩
            exact wpOp_val rfl rfl (v := .pointer (some ⟨bH, 1, none⟩)) (w' := W) (by simp [execOp, go_sem, EH]) ⟨updF f 54 (.pointer (some ⟨bH, 1, none⟩)), by rw [← ha1]; exact putsL_put _ _ _ _ _ (by decide), hnew⟩
          · clear hsq hiq hiq2
            obtain ⟨u, h50, h51, hIW, hown⟩ := hIt
            obtain ⟨au, cu, rfl, -, -⟩ := owns_gen hown
            generalize ha1 : putsL _ [48, 49, 50, 51, 52, 53, 54] f = a1
            have E53 : a1.tmps[53]?.getD undef = .slice au (n + 1) cu := by rw [← ha1]; exact (putsL_in2 _ _ _ _ (by decide) (show 53 < 57 from by decide)).trans h50
            have E54 : a1.tmps[54]?.getD undef = .pointer (some ⟨bH, 1, none⟩) := by rw [← ha1]; exact (putsL_in2 _ _ _ _ (by decide) (show 54 < 57 from by decide)).trans h51
            have hR := HMR.out W hIW
            have p0 := obj_cell hR 1
            have f0 := obj_free hR 1
            simp at p0
            have hg : W.grownBy (W.setCell ⟨bH, 1, none⟩ (.slice au (n + 1) cu)) (some bH) := setCell_grown _ _
            have hset := obj_set hR 1 (.slice au (n + 1) cu)
            simp only [List.setIfInBounds_toArray, List.set_cons_zero, List.set_cons_succ] at hset
            have hnew : ∃ uq : Value, Below w.heap.size w (W.setCell ⟨bH, 1, none⟩ (.slice au (n + 1) cu)) ∧ J2 (W.setCell ⟨bH, 1, none⟩ (.slice au (n + 1) cu)) ∧ (W.setCell ⟨bH, 1, none⟩ (.slice au (n + 1) cu)).heap[bH]? = some (.cells #[.slice al nl cl, uq, .slice ac nc cc] 31 (0, 0)) ∧ (W.setCell ⟨bH, 1, none⟩ (.slice au (n + 1) cu)).ownsRow wr.heap.size 40 7 uq (n + 1) (CL ++ [.int .i64 y, .int .i64 q, .int .i64 s0, .int .i64 s1, .int .i64 s2, .int .i64 s3, .int .i64 s4]) := ⟨_, (HBz.out.trans ((HJO.out W hIW).mono HBz.out.size)).grown hg (HBz.out.trans ((HJO.out W hIW).mono HBz.out.size)).size (fun j e => by injection e with e; have := HBHL.out; omega), HJ2.out _ _ hIW, hset, hown.kept hg (ownBlock_ne hown _ hrb)⟩
            exact wpOp_skip rfl rfl (w' := W.setCell ⟨bH, 1, none⟩ (.slice au (n + 1) cu)) (by simp [execOp, go_sem, E53, E54, p0, f0]) ⟨f, ha1.symm, hnew⟩
        case refine_4 =>
          intro f W hIt
          simp only [putsL, List.foldl_cons, List.foldl_nil, Act.put, List.setIfInBounds_toArray, List.set_cons_zero, List.set_cons_succ]
          obtain ⟨u, hbw, hj2, hset, hown⟩ := hIt
          obtain ⟨au, cu, rfl, -, -⟩ := owns_gen hown
          go_wp2
          go_meet
          exact ⟨au, cu, Lib.hid hbw, Lib.hid hj2, Lib.hid hset, Lib.hid hown⟩
      case rest =>
        obtain ⟨au, cu, HBW, HK2, HSET, HOW⟩ := hcut
        have HK := Lib.hid (HJ2O.out _ HK2.out)
        obtain ⟨w7, hw7⟩ : ∃ W, W = wc := ⟨_, rfl⟩
        rw [← hw7] at HBW HSET HOW HK ⊢
        obtain ⟨I, hI⟩ : ∃ I, I = fun W : World => Below w7.heap.size w7 W := ⟨_, rfl⟩
        have HIO : Hid (∀ W, I W → Below w7.heap.size w7 W) := Lib.hid fun W hW => by rw [hI] at hW; exact hW
        have HII : Hid (∀ W, Below w7.heap.size w7 W → I W) := Lib.hid fun W hW => by rw [hI]; exact hW
        have HID : Hid (∀ W, I W → I W.drew) := Lib.hid fun W hW => HII.out _ ((HIO.out W hW).drew)
        have HI0 : Hid (I w7) := Lib.hid (HII.out _ (Below.refl _ _))
        have HNH : Hid (∀ W, I W → ∀ j, W.cell? ⟨bH, j, none⟩ = #[.slice al nl cl, .slice au (n + 1) cu, .slice ac nc cc][j]?) := Lib.hid fun W hW j => obj_cell (obj_below HSET.out (HIO.out W hW)) j
        have HNE : Hid (∀ W, I W → ∀ j, W.cell? ⟨bX, j, none⟩ = #[.int .i64 y, .int .i64 q, .int .i64 s0, .int .i64 s1, .int .i64 s2, .int .i64 s3, .int .i64 s4][j]?) := Lib.hid fun W hW j => obj_cell (obj_below HK.out.2.2 (HIO.out W hW)) j
        have HIR : Hid (∀ W, I W → W.heap[bR]? = some (.cells #[.slice none 0 0, .slice none 0 0, .slice none 0 0] 31 (0, 0))) := Lib.hid fun W hW => obj_below HK.out.1 (HIO.out W hW)
        have HIP : Hid (∀ W, I W → W.heap[bP]? = some (.cells #[.int .i64 0, .int .i64 0, .int .i64 0, .int .i64 0, .int .i64 0, .int .i64 0, .int .i64 0] 40 (0, 0))) := Lib.hid fun W hW => obj_below HK.out.2.1 (HIO.out W hW)
        have HIW : Hid (∀ W, I W → Below w.heap.size w W) := Lib.hid fun W hW => HBW.out.trans ((HIO.out W hW).mono HBW.out.size)
        have HIN : Hid (∀ W, I W → W.ownsRow wr.heap.size 40 7 (.slice au (n + 1) cu) (n + 1) (CL ++ [.int .i64 y, .int .i64 q, .int .i64 s0, .int .i64 s1, .int .i64 s2, .int .i64 s3, .int .i64 s4])) := Lib.hid fun W hW => ownsRow_below HOW.out (HIO.out W hW)
        clear hI hw7 HJ0 HJD HJA HMH HME HMR HNW HJ2 HJ2O HJI HJO
        go_upto_region 14 with fail
        refine wp_region_slots [55, 56, 6] (LastJ w bH bX bR bP #[.slice al nl cl, .slice au (n + 1) cu, .slice ac nc cc] #[.int .i64 y, .int .i64 q, .int .i64 s0, .int .i64 s1, .int .i64 s2, .int .i64 s3, .int .i64 s4] (fun W => W.ownsRow wr.heap.size 40 7 (.slice au (n + 1) cu) (n + 1) (CL ++ [.int .i64 y, .int .i64 q, .int .i64 s0, .int .i64 s1, .int .i64 s2, .int .i64 s3, .int .i64 s4]))) (by kernel_rfl) (by kernel_rfl) ⟨HBW.out.drew, HSET.out, HK.out.2.2, ownsRow_below HOW.out (Below.refl _ _).drew, (fun h => by cases h), (fun h => by cases h), ⟨_, HK.out.1, rfl, fun h => by cases h⟩, ⟨_, HK.out.2.1, rfl, fun h => by cases h⟩, fun h => by cases h⟩ ?_ ?_
        · rintro L f W i hs hc ⟨hB, hH, hX, hO, h0, h1, ⟨cr, hR, hRs, hRl⟩, ⟨cz, hP, hPs, hPl⟩, h4⟩ hi hun hdep
          have hs5 : L.size = 5 := hs
          have hi5 : i < 5 := hi
          clear hi hs hun hc
          rcases (show i = 0 ∨ i = 1 ∨ i = 2 ∨ i = 3 ∨ i = 4 by omega) with rfl | rfl | rfl | rfl | rfl
          · have hl : ∀ j, j ≠ 0 → (L.setIfInBounds 0 true).getD j false = L.getD j false := fun j hj => by rw [flag_set _ _ _ (by omega), if_neg (fun e => hj e.symm)]
            generalize ha1 : putsL _ [55, 56, 6] f = a1
            have E2 : a1.tmps[2]?.getD undef = .pointer (some ⟨bH, 0, none⟩) := by rw [← ha1]; exact (putsL_out2 _ _ _ _ (by decide)).trans rfl
            have p0 := obj_cell hH 0
            have p1 := obj_cell hH 1
            have p2 := obj_cell hH 2
            simp at p0 p1 p2
            exact wpOp_val rfl rfl (v := .agg #[.slice al nl cl, .slice au (n + 1) cu, .slice ac nc cc]) (w' := W) (by simp [execOp, go_sem, E2, p0, p1, p2]) ⟨updF f 55 (.agg #[.slice al nl cl, .slice au (n + 1) cu, .slice ac nc cc]), by rw [← ha1]; exact putsL_put _ _ _ _ _ (by decide), hB, hH, hX, hO, (fun _ => updF_same _ _ _), (fun h => by rw [hl 1 (by decide)] at h; rw [updF_other _ _ (by decide)]; exact h1 h), ⟨cr, hR, hRs, fun h => by rw [hl 2 (by decide)] at h; exact hRl h⟩, ⟨cz, hP, hPs, fun h => by rw [hl 3 (by decide)] at h; exact hPl h⟩, (fun h => by rw [hl 4 (by decide)] at h; rw [updF_other _ _ (by decide)]; exact h4 h)⟩
          · have hl : ∀ j, j ≠ 1 → (L.setIfInBounds 1 true).getD j false = L.getD j false := fun j hj => by rw [flag_set _ _ _ (by omega), if_neg (fun e => hj e.symm)]
            generalize ha1 : putsL _ [55, 56, 6] f = a1
            have E2 : a1.tmps[9]?.getD undef = .pointer (some ⟨bX, 0, none⟩) := by rw [← ha1]; exact (putsL_out2 _ _ _ _ (by decide)).trans rfl
            have p0 := obj_cell hX 0
            have p1 := obj_cell hX 1
            have p2 := obj_cell hX 2
            have p3 := obj_cell hX 3
            have p4 := obj_cell hX 4
            have p5 := obj_cell hX 5
            have p6 := obj_cell hX 6
            simp at p0 p1 p2 p3 p4 p5 p6
            exact wpOp_val rfl rfl (v := .agg #[.int .i64 y, .int .i64 q, .int .i64 s0, .int .i64 s1, .int .i64 s2, .int .i64 s3, .int .i64 s4]) (w' := W) (by simp [execOp, go_sem, E2, p0, p1, p2, p3, p4, p5, p6]) ⟨updF f 56 (.agg #[.int .i64 y, .int .i64 q, .int .i64 s0, .int .i64 s1, .int .i64 s2, .int .i64 s3, .int .i64 s4]), by rw [← ha1]; exact putsL_put _ _ _ _ _ (by decide), hB, hH, hX, hO, (fun h => by rw [hl 0 (by decide)] at h; rw [updF_other _ _ (by decide)]; exact h0 h), (fun _ => updF_same _ _ _), ⟨cr, hR, hRs, fun h => by rw [hl 2 (by decide)] at h; exact hRl h⟩, ⟨cz, hP, hPs, fun h => by rw [hl 3 (by decide)] at h; exact hPl h⟩, (fun h => by rw [hl 4 (by decide)] at h; rw [updF_other _ _ (by decide)]; exact h4 h)⟩
          · have hl : ∀ j, j ≠ 2 → (L.setIfInBounds 2 true).getD j false = L.getD j false := fun j hj => by rw [flag_set _ _ _ (by omega), if_neg (fun e => hj e.symm)]
            have hv := h0 (dep_listed hdep (show depB _ 2 0 = true by kernel_rfl))
            generalize ha1 : putsL _ [55, 56, 6] f = a1
            have EP : a1.tmps[4]?.getD undef = .pointer (some ⟨bR, 0, none⟩) := by rw [← ha1]; exact (putsL_out2 _ _ _ _ (by decide)).trans rfl
            have EV : a1.tmps[55]?.getD undef = .agg #[.slice al nl cl, .slice au (n + 1) cu, .slice ac nc cc] := by rw [← ha1]; exact (putsL_in2 _ _ _ _ (by decide) (show 55 < 57 from by decide)).trans hv
            obtain ⟨⟨u0, p0⟩, ⟨u1, p1⟩, ⟨u2, p2⟩⟩ := cells_three hR hRs
            have f0 := obj_free hR 0
            have f1 := obj_free hR 1
            have f2 := obj_free hR 2
            have hg : W.grownBy (put3 W bR (.slice al nl cl) (.slice au (n + 1) cu) (.slice ac nc cc)) (some bR) := put3_grown2 _ _ _ _ _
            exact wpOp_skip rfl rfl (w' := (put3 W bR (.slice al nl cl) (.slice au (n + 1) cu) (.slice ac nc cc))) (by unfold put3; simp [execOp, go_sem, EP, EV, p0, p1, p2, f0, f1, f2]) ⟨f, by rw [← ha1]; rfl, hB.grown hg hB.size (fun j e => by injection e with e; have := HBHL.out; omega), (hg.block bH (obj_lt hH) (by simp [HBHL.out.2.2.2.1])).trans hH, (hg.block bX (obj_lt hX) (by simp [Ne.symm HRL.out.2.2.2.1])).trans hX, hO.kept hg (ownBlock_ne hO _ HRL.out.1), (fun h => by rw [hl 0 (by decide)] at h; exact h0 h), (fun h => by rw [hl 1 (by decide)] at h; exact h1 h), ⟨#[.slice al nl cl, .slice au (n + 1) cu, .slice ac nc cc], put3_at hR hRs _ _ _, rfl, fun _ => rfl⟩, ⟨cz, (hg.block bP (obj_lt hP) (by simp [Ne.symm HBHL.out.2.2.2.2.2])).trans hP, hPs, fun h => by rw [hl 3 (by decide)] at h; exact hPl h⟩, (fun h => by rw [hl 4 (by decide)] at h; exact h4 h)⟩
          · have hl : ∀ j, j ≠ 3 → (L.setIfInBounds 3 true).getD j false = L.getD j false := fun j hj => by rw [flag_set _ _ _ (by omega), if_neg (fun e => hj e.symm)]
            have hv := h1 (dep_listed hdep (show depB _ 3 1 = true by kernel_rfl))
            generalize ha1 : putsL _ [55, 56, 6] f = a1
            have EP : a1.tmps[5]?.getD undef = .pointer (some ⟨bP, 0, none⟩) := by rw [← ha1]; exact (putsL_out2 _ _ _ _ (by decide)).trans rfl
            have EV : a1.tmps[56]?.getD undef = .agg #[.int .i64 y, .int .i64 q, .int .i64 s0, .int .i64 s1, .int .i64 s2, .int .i64 s3, .int .i64 s4] := by rw [← ha1]; exact (putsL_in2 _ _ _ _ (by decide) (show 56 < 57 from by decide)).trans hv
            obtain ⟨⟨u0, p0⟩, ⟨u1, p1⟩, ⟨u2, p2⟩, ⟨u3, p3⟩, ⟨u4, p4⟩, ⟨u5, p5⟩, ⟨u6, p6⟩⟩ := cells_seven hP hPs
            have f0 := obj_free hP 0
            have f1 := obj_free hP 1
            have f2 := obj_free hP 2
            have f3 := obj_free hP 3
            have f4 := obj_free hP 4
            have f5 := obj_free hP 5
            have f6 := obj_free hP 6
            have hg : W.grownBy (put7 W bP (.int .i64 y) (.int .i64 q) (.int .i64 s0) (.int .i64 s1) (.int .i64 s2) (.int .i64 s3) (.int .i64 s4)) (some bP) := put7_grown _ _ _ _ _ _ _ _ _
            exact wpOp_skip rfl rfl (w' := (put7 W bP (.int .i64 y) (.int .i64 q) (.int .i64 s0) (.int .i64 s1) (.int .i64 s2) (.int .i64 s3) (.int .i64 s4))) (by unfold put7; simp [execOp, go_sem, EP, EV, p0, p1, p2, p3, p4, p5, p6, f0, f1, f2, f3, f4, f5, f6]) ⟨f, by rw [← ha1]; rfl, hB.grown hg hB.size (fun j e => by injection e with e; have := HBHL.out; omega), (hg.block bH (obj_lt hH) (by simp [HBHL.out.2.2.2.2.1])).trans hH, (hg.block bX (obj_lt hX) (by simp [Ne.symm HRL.out.2.2.2.2])).trans hX, hO.kept hg (ownBlock_ne hO _ HRL.out.2.1), (fun h => by rw [hl 0 (by decide)] at h; exact h0 h), (fun h => by rw [hl 1 (by decide)] at h; exact h1 h), ⟨cr, (hg.block bR (obj_lt hR) (by simp [HBHL.out.2.2.2.2.2])).trans hR, hRs, fun h => by rw [hl 2 (by decide)] at h; exact hRl h⟩, ⟨#[.int .i64 y, .int .i64 q, .int .i64 s0, .int .i64 s1, .int .i64 s2, .int .i64 s3, .int .i64 s4], put7_at hP hPs _ _ _ _ _ _ _, rfl, fun _ => rfl⟩, (fun h => by rw [hl 4 (by decide)] at h; exact h4 h)⟩
          · have hl : ∀ j, j ≠ 4 → (L.setIfInBounds 4 true).getD j false = L.getD j false := fun j hj => by rw [flag_set _ _ _ (by omega), if_neg (fun e => hj e.symm)]
            generalize ha1 : putsL _ [55, 56, 6] f = a1
            exact wpOp_val rfl rfl (v := .int .i64 0) (w' := W) (by simp [execOp, go_sem]) ⟨updF f 6 (.int .i64 0), by rw [← ha1]; exact putsL_put _ _ _ _ _ (by decide), hB, hH, hX, hO, (fun h => by rw [hl 0 (by decide)] at h; rw [updF_other _ _ (by decide)]; exact h0 h), (fun h => by rw [hl 1 (by decide)] at h; rw [updF_other _ _ (by decide)]; exact h1 h), ⟨cr, hR, hRs, fun h => by rw [hl 2 (by decide)] at h; exact hRl h⟩, ⟨cz, hP, hPs, fun h => by rw [hl 3 (by decide)] at h; exact hPl h⟩, (fun _ => updF_same _ _ _)⟩
        · rintro L f W ⟨hB, hH, hX, hO, h0, h1, ⟨cr, hR, -, hr2⟩, ⟨cp', hP, -, hp2⟩, h4⟩ hall
          have h6 := h4 (hall 4 (by decide))
          rw [hr2 (hall 2 (by decide))] at hR
          rw [hp2 (hall 3 (by decide))] at hP
          simp only [putsL, List.foldl_cons, List.foldl_nil, Act.put, List.setIfInBounds_toArray, List.set_cons_zero, List.set_cons_succ]
          have p0 := obj_cell hR 0
          have p1 := obj_cell hR 1
          have p2 := obj_cell hR 2
          simp at p0 p1 p2
          have z0 := obj_cell hP 0
          have z1 := obj_cell hP 1
          have z2 := obj_cell hP 2
          have z3 := obj_cell hP 3
          have z4 := obj_cell hP 4
          have z5 := obj_cell hP 5
          have z6 := obj_cell hP 6
          simp at z0 z1 z2 z3 z4 z5 z6
          go_wp2
          refine bodyPost_ret (v := .tuple #[.agg #[.slice al nl cl, .slice au (n + 1) cu, .slice ac nc cc], .agg #[.int .i64 y, .int .i64 q, .int .i64 s0, .int .i64 s1, .int .i64 s2, .int .i64 s3, .int .i64 s4], .int .i64 0]) (by simp [results, Try.results24, go_sem, p0, p1, p2, z0, z1, z2, z3, z4, z5, z6, h6]) rfl ⟨_, rfl, ?_, hB⟩
          unfold ListAt
          rw [HLEN.out, ← HSN.out]
          exact RowG.owns hO


end Go.Proofs.Ytoccnindkimjdaa
