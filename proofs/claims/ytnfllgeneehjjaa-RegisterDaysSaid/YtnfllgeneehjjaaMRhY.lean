/- treasurylaw33.sane: the chapter's example holds. -/
import Derived.Test.YtnfllgeneehjjaaMG9
set_option linter.unusedSimpArgs false
set_option linter.unusedVariables false
set_option linter.unusedSimpArgs false
set_option linter.unusedVariables false
namespace Go.Proofs.Ytnfllgeneehjjaa
open Go.RowKit Go.Lib Go.Proofs

theorem bond33_any (w : World) : Calls Try.prog 58 #[] w fun e w' => e = .returned (.agg bondS.cells.toArray) ∧ Below w.heap.size w w' := by
  simp only [bondS, Sec.cells]
  go_enter Try.func58, Try.ntmps58
  go_wp2
  exact retB (heap_alloc_new w _) (fun F hF => by
    have q0 := obj_cell hF 0
    have q1 := obj_cell hF 1
    have q2 := obj_cell hF 2
    have q3 := obj_cell hF 3
    have q4 := obj_cell hF 4
    have q5 := obj_cell hF 5
    have q6 := obj_cell hF 6
    simp [results, Try.results58, go_sem, q0, q1, q2, q3, q4, q5, q6]) rfl ⟨rfl, below_alloc w _⟩

theorem put3_reg {W : World} {b : Nat} {x y z : Value} {r : Reg} {a0 a1 a2 d0 d1 d2 : Option Addr} {n0 n1 n2 c0 c1 c2 m0 m1 m2 k0 k1 k2 : Nat} (h : RegAt W x y z r)
    (hb : W.heap[b]? = some (.cells #[.slice a0 n0 c0, .slice a1 n1 c1, .slice a2 n2 c2] 29 (0, 0))) :
    RegAt (put3 W b (.slice d0 m0 k0) (.slice d1 m1 k1) (.slice d2 m2 k2)) x y z r := h.keepR hb (put3_grown W b _ _ _)

set_option maxRecDepth 100000 in
set_option maxHeartbeats 8000000 in
theorem sane33_true (w : World) : Calls Try.prog 17 #[] w fun e w' => e = .returned (.bool true) ∧ Below w.heap.size w w' := by
  have HBD := Lib.hid (fun W => bond33_any W)
  have HAD := Lib.hid (fun W => rxAdd_ok Reg.none bondS (.slice none 0 0) (.slice none 0 0) (.slice none 0 0) W ok_none bond_ok (fun t ht => by simp [Reg.none] at ht) (by decide) (none_at W))
  have HIS : Hid (∀ x y z W, RegAt W x y z exR1 → Calls Try.prog 36 #[.agg #[x, y, z], .int .i64 0, .int .i64 1, .int .i64 1, .int .i64 1000] W fun e w' => ∃ x' y' z', e = .returned (.tuple #[.agg #[x', y', z'], .int .i64 0]) ∧ RegAt w' x' y' z' exR2 ∧ Below W.heap.size W w') := Lib.hid fun x y z W h => by
    have := rxIssue_any exR1 x y z 0 1 1 1000 W ok_ex1.regS h
    rw [show (⟨0, 0, 1, 1, 0, 1, 1000⟩ : Mv) = exM1 from rfl, ex_add1, ex_r2] at this
    exact this
  have HTR : Hid (∀ x y z W, RegAt W x y z exR2 → Calls Try.prog 20 #[.agg #[x, y, z], .int .i64 1, .int .i64 1, .int .i64 1, .int .i64 2, .int .i64 400] W fun e w' => ∃ x' y' z', e = .returned (.tuple #[.agg #[x', y', z'], .int .i64 0]) ∧ RegAt w' x' y' z' exR3 ∧ Below W.heap.size W w') := Lib.hid fun x y z W h => by
    have := rxTransfer_any exR2 x y z 1 1 1 2 400 W ok_ex2.regS h
    rw [show (⟨0, 1, 2, 1, 1, 2, 400⟩ : Mv) = exM2 from rfl, ex_add2, ex_r3] at this
    exact this
  have HE1 : Hid (∀ x y z W, RegAt W x y z exR3 → Calls Try.prog 22 #[.agg #[x, y, z], .int .i64 1, .int .i64 1] W fun e w' => e = .returned (.int .i64 600) ∧ Below W.heap.size W w') := Lib.hid fun x y z W h => by
    have := rxHeld_any exR3 x y z 1 1 W ok_ex3.regS h
    rwa [ex_h1] at this
  have HE2 : Hid (∀ x y z W, RegAt W x y z exR3 → Calls Try.prog 22 #[.agg #[x, y, z], .int .i64 1, .int .i64 2] W fun e w' => e = .returned (.int .i64 400) ∧ Below W.heap.size W w') := Lib.hid fun x y z W h => by
    have := rxHeld_any exR3 x y z 1 2 W ok_ex3.regS h
    rwa [ex_h2] at this
  have HE3 : Hid (∀ x y z W, RegAt W x y z exR3 → Calls Try.prog 14 #[.agg #[x, y, z], .int .i64 1] W fun e w' => e = .returned (.int .i64 1000) ∧ Below W.heap.size W w') := Lib.hid fun x y z W h => by
    have := rxOutstanding_any exR3 x y z 1 W ok_ex3.regS h
    rwa [ex_o] at this
  simp only [bondS, Sec.cells] at HBD HAD
  go_enter Try.func17, Try.ntmps17
  go_wp2_with fail
  with_reducible refine Calls.mono (HBD.out _) ?_
  rintro e w1 ⟨rfl, hb1⟩
  have HB1 := Lib.hid hb1
  clear hb1
  go_wp2_with fail
  with_reducible refine Calls.mono (HAD.out _) ?_
  rintro e w2 ⟨i, x', y', z', hP, rfl, hr2, hb2⟩
  obtain rfl : i = 0 := by have := hP.le; simpa [Reg.none] using this
  have hr2' : RegAt w2 x' y' z' exR1 := hr2
  have HB2 := Lib.hid (HB1.out.trans (hb2.mono HB1.out.size))
  clear hr2 hP hb2 HB1 HBD HAD
  obtain ⟨aS2, cS2, hx, -, -⟩ := hr2'.secs.shape secF
  obtain ⟨aH2, cH2, hy, -, -⟩ := hr2'.hs.shape hldF
  obtain ⟨aM2, cM2, hz, -, -⟩ := hr2'.ms.shape mvF
  subst hx hy hz
  have HR2 : Hid (RegAt w2 (.slice aS2 1 cS2) (.slice aH2 0 cH2) (.slice aM2 0 cM2) exR1) := Lib.hid hr2'
  clear hr2'
  simp only [exR1, List.length_cons, List.length_nil, Nat.zero_add]
  obtain ⟨W3, hW3⟩ : ∃ W3, W3 = w2.alloc (.cells #[.slice aS2 1 cS2, .slice aH2 0 cH2, .slice aM2 0 cM2] 29) := ⟨_, rfl⟩
  obtain ⟨bR, hbR⟩ : ∃ b, b = w2.heap.size := ⟨_, rfl⟩
  have hal := below_alloc w2 (.cells #[.slice aS2 1 cS2, .slice aH2 0 cH2, .slice aM2 0 cM2] 29)
  have HRC := Lib.hid (HR2.out.below hal)
  have HBOX := Lib.hid (heap_alloc_new w2 (.cells #[.slice aS2 1 cS2, .slice aH2 0 cH2, .slice aM2 0 cM2] 29))
  have HBC := Lib.hid (HB2.out.trans (hal.mono HB2.out.size))
  have HLO : Hid (w.heap.size ≤ bR) := Lib.hid (by rw [hbR]; exact HB2.out.size)
  rw [← hW3] at HRC HBOX HBC
  rw [← hbR] at HBOX
  clear hal HR2 HB2
  go_upto_region 2 with fail
  rw [← hW3, ← hbR]
  clear hW3 hbR
  have hbox := HBOX.out
  have a0 := obj_cell hbox 0
  have a1 := obj_cell hbox 1
  have a2 := obj_cell hbox 2
  simp at a0 a1 a2
  clear hbox
  go_wp2_with fail
  with_reducible refine Calls.mono (HIS.out _ _ _ _ HRC.out) ?_
  rintro e x4 ⟨x', y', z', rfl, hr', hb'⟩
  have HBx := Lib.hid (HBC.out.trans (hb'.mono HBC.out.size))
  have hbox := obj_below HBOX.out hb'
  obtain ⟨aS4, cS4, hx, -, -⟩ := hr'.secs.shape secF
  obtain ⟨aH4, cH4, hy, -, -⟩ := hr'.hs.shape hldF
  obtain ⟨aM4, cM4, hz, -, -⟩ := hr'.ms.shape mvF
  subst hx hy hz
  have HRx : Hid (RegAt x4 (.slice aS4 1 cS4) (.slice aH4 1 cH4) (.slice aM4 1 cM4) exR2) := Lib.hid hr'
  simp only [exR2, List.length_cons, List.length_nil, Nat.zero_add]
  clear hr' hb' a0 a1 a2
  have a0 := obj_cell hbox 0
  have a1 := obj_cell hbox 1
  have a2 := obj_cell hbox 2
  have f0 := obj_free hbox 0
  have f1 := obj_free hbox 1
  have f2 := obj_free hbox 2
  simp at a0 a1 a2
  have HR3 : Hid (RegAt (put3 x4 bR (.slice aS4 1 cS4) (.slice aH4 1 cH4) (.slice aM4 1 cM4)) (.slice aS4 1 cS4) (.slice aH4 1 cH4) (.slice aM4 1 cM4) exR2) := Lib.hid (put3_reg HRx.out hbox)
  have HBX3 : Hid ((put3 x4 bR (.slice aS4 1 cS4) (.slice aH4 1 cH4) (.slice aM4 1 cM4)).heap[bR]? = some (.cells #[.slice aS4 1 cS4, .slice aH4 1 cH4, .slice aM4 1 cM4] 29 (0, 0))) := Lib.hid (put3_at hbox rfl _ _ _)
  have HB3 : Hid (Below w.heap.size w (put3 x4 bR (.slice aS4 1 cS4) (.slice aH4 1 cH4) (.slice aM4 1 cM4))) := Lib.hid (put3_below HBx.out HLO.out _ _ _)
  clear hbox HBOX HRC HBC HRx HBx
  go_upto_region 3 with fail
  obtain ⟨Wn4, hWn⟩ : ∃ W, W = put3 x4 bR (.slice aS4 1 cS4) (.slice aH4 1 cH4) (.slice aM4 1 cM4) := ⟨_, rfl⟩
  rw [← hWn] at HR3 HBX3 HB3
  unfold put3 at hWn
  rw [← hWn]
  clear hWn a0 a1 a2 f0 f1 f2
  have HRC := HR3
  have HBOX := HBX3
  have HBC := HB3
  clear HR3 HBX3 HB3
  have hbox := HBOX.out
  have a0 := obj_cell hbox 0
  have a1 := obj_cell hbox 1
  have a2 := obj_cell hbox 2
  simp at a0 a1 a2
  clear hbox
  go_wp2_with fail
  with_reducible refine Calls.mono (HTR.out _ _ _ _ HRC.out) ?_
  rintro e x5 ⟨x', y', z', rfl, hr', hb'⟩
  have HBx := Lib.hid (HBC.out.trans (hb'.mono HBC.out.size))
  have hbox := obj_below HBOX.out hb'
  obtain ⟨aS5, cS5, hx, -, -⟩ := hr'.secs.shape secF
  obtain ⟨aH5, cH5, hy, -, -⟩ := hr'.hs.shape hldF
  obtain ⟨aM5, cM5, hz, -, -⟩ := hr'.ms.shape mvF
  subst hx hy hz
  have HRx : Hid (RegAt x5 (.slice aS5 1 cS5) (.slice aH5 2 cH5) (.slice aM5 2 cM5) exR3) := Lib.hid hr'
  simp only [exR3, List.length_cons, List.length_nil, Nat.zero_add]
  clear hr' hb' a0 a1 a2
  have a0 := obj_cell hbox 0
  have a1 := obj_cell hbox 1
  have a2 := obj_cell hbox 2
  have f0 := obj_free hbox 0
  have f1 := obj_free hbox 1
  have f2 := obj_free hbox 2
  simp at a0 a1 a2
  have HR3 : Hid (RegAt (put3 x5 bR (.slice aS5 1 cS5) (.slice aH5 2 cH5) (.slice aM5 2 cM5)) (.slice aS5 1 cS5) (.slice aH5 2 cH5) (.slice aM5 2 cM5) exR3) := Lib.hid (put3_reg HRx.out hbox)
  have HBX3 : Hid ((put3 x5 bR (.slice aS5 1 cS5) (.slice aH5 2 cH5) (.slice aM5 2 cM5)).heap[bR]? = some (.cells #[.slice aS5 1 cS5, .slice aH5 2 cH5, .slice aM5 2 cM5] 29 (0, 0))) := Lib.hid (put3_at hbox rfl _ _ _)
  have HB3 : Hid (Below w.heap.size w (put3 x5 bR (.slice aS5 1 cS5) (.slice aH5 2 cH5) (.slice aM5 2 cM5))) := Lib.hid (put3_below HBx.out HLO.out _ _ _)
  clear hbox HBOX HRC HBC HRx HBx
  go_upto_region 4 with fail
  obtain ⟨Wn5, hWn⟩ : ∃ W, W = put3 x5 bR (.slice aS5 1 cS5) (.slice aH5 2 cH5) (.slice aM5 2 cM5) := ⟨_, rfl⟩
  rw [← hWn] at HR3 HBX3 HB3
  unfold put3 at hWn
  rw [← hWn]
  clear hWn a0 a1 a2 f0 f1 f2
  have HRC := HR3
  have HBOX := HBX3
  have HBC := HB3
  clear HR3 HBX3 HB3
  have hbox := HBOX.out
  have a0 := obj_cell hbox 0
  have a1 := obj_cell hbox 1
  have a2 := obj_cell hbox 2
  simp at a0 a1 a2
  clear hbox
  go_wp2_with fail
  with_reducible refine Calls.mono (HE1.out _ _ _ _ HRC.out) ?_
  rintro e y1 ⟨rfl, hb'⟩
  have HBC := Lib.hid (HBC.out.trans (hb'.mono HBC.out.size))
  have HRC := Lib.hid (HRC.out.below hb')
  have HBOX := Lib.hid (obj_below HBOX.out hb')
  clear hb' a0 a1 a2
  have hbox := HBOX.out
  have a0 := obj_cell hbox 0
  have a1 := obj_cell hbox 1
  have a2 := obj_cell hbox 2
  simp at a0 a1 a2
  clear hbox
  go_wp2_with fail
  with_reducible refine Calls.mono (HE2.out _ _ _ _ HRC.out) ?_
  rintro e y2 ⟨rfl, hb'⟩
  have HBC := Lib.hid (HBC.out.trans (hb'.mono HBC.out.size))
  have HRC := Lib.hid (HRC.out.below hb')
  have HBOX := Lib.hid (obj_below HBOX.out hb')
  clear hb' a0 a1 a2
  have hbox := HBOX.out
  have a0 := obj_cell hbox 0
  have a1 := obj_cell hbox 1
  have a2 := obj_cell hbox 2
  simp at a0 a1 a2
  clear hbox
  go_wp2_with fail
  with_reducible refine Calls.mono (HE3.out _ _ _ _ HRC.out) ?_
  rintro e y3 ⟨rfl, hb'⟩
  have HBC := Lib.hid (HBC.out.trans (hb'.mono HBC.out.size))
  have HRC := Lib.hid (HRC.out.below hb')
  have HBOX := Lib.hid (obj_below HBOX.out hb')
  clear hb' a0 a1 a2
  have hbox := HBOX.out
  have a0 := obj_cell hbox 0
  have a1 := obj_cell hbox 1
  have a2 := obj_cell hbox 2
  simp at a0 a1 a2
  clear hbox
  go_wp2
  go_ret
  exact ⟨rfl, HBC.out⟩

end Go.Proofs.Ytnfllgeneehjjaa
