/- Texts of one claim, merged: HsD, HsE. -/
import Derived.Test.YtoccnindkimjdaaMHsC
import Derived.Test.YtoccnindkimjdaaMLgHs
/- The source's histories: right ones, with a bound on what was done. -/
set_option linter.unusedSimpArgs false
set_option linter.unusedVariables false
set_option linter.unusedSimpArgs false
set_option linter.unusedVariables false
namespace Go.Proofs.Ytoccnindkimjdaa
open Go.RowKit Go.Lib Go.Proofs

/-- What the source's histories keep to: so many things done, the last one found by then. -/
structure MadeH (h : Hst) (n f : Int) : Prop where
  ok : HstOk h
  cnt : (h.cors.length : Int) + h.pres.length ≤ n
  last : lastF h.cors ≤ f
theorem MadeH.step {h h' : Hst} {n f g g' : Int} (q : MadeH h n f) (s : StepTo h g h' g') : MadeH h' (n + 1) g' :=
  ⟨s.ok, by have := s.cnt; have := q.cnt; omega, s.last⟩
theorem lastF_nil : lastF [] = 0 := rfl

set_option maxRecDepth 100000 in
set_option maxHeartbeats 16000000 in
theorem made44_any (tb : Nat) {most : Int} (hm : 0 ≤ most ∧ most ≤ 6) (w : World) (hs : SrcAt w tb) :
    Calls Try.prog 9 #[.pointer (some ⟨tb, 0, none⟩), .int .i64 most] w fun e w' => ∃ (h : Hst) (ul up uc : Value), e = .returned (.agg #[ul, up, uc]) ∧ MadeH h most (1080 + 29 * most) ∧ HstAt w' ul up uc h ∧ SI w tb w' := by
  have hlt := hs.lt
  obtain ⟨w0, hw0⟩ : ∃ W, W = w.alloc (.cells #[.slice none 0 0, .slice none 0 0, .slice none 0 0] 31) := ⟨_, rfl⟩
  obtain ⟨bR, hbR⟩ : ∃ b, b = w.heap.size := ⟨_, rfl⟩
  have HR0 : Hid (w0.heap[bR]? = some (.cells #[.slice none 0 0, .slice none 0 0, .slice none 0 0] 31 (0, 0))) := Lib.hid (by rw [hw0, hbR]; exact heap_alloc_new _ _)
  have HI0 : Hid (SI w tb w0) := Lib.hid (by rw [hw0]; exact (si_start hs).alloc _)
  have HLR : Hid (w.heap.size ≤ bR ∧ bR ≠ tb) := Lib.hid ⟨by omega, by omega⟩
  have HLT := Lib.hid hlt
  have HW0 := Lib.hid hw0
  have HBR := Lib.hid hbR
  have hwm : IntKind.i64.wrap (most + 1) = most + 1 := IntWalk.i64_in _ (by omega)
  clear hw0 hbR hs
  go_enter Try.func9, Try.ntmps9
  go_upto_region 1 with fail
  rw [← HW0.out, ← HBR.out]
  go_wp2_with fail
  refine (sLedger_any tb 8 2 1000 _ HI0.out.src (by omega) (by omega) (by omega)).mono ?_
  rintro e w1 ⟨l, v, rfl, hl, hln, hpa, hi1⟩
  obtain ⟨al0, cl0, rfl, -, -⟩ := hpa.shape pstF
  have hr1 := obj_turn HR0.out hi1.old HLR.out.2
  have hsi1 := HI0.out.turn hi1.src hi1.old
  obtain ⟨w2, hw2⟩ : ∃ W, W = w1.alloc (.cells #[.slice al0 l.length cl0, .slice none 0 0, .slice none 0 0] 31) := ⟨_, rfl⟩
  obtain ⟨bH, hbH⟩ : ∃ b, b = w1.heap.size := ⟨_, rfl⟩
  have HX2 : Hid (w2.heap[bH]? = some (.cells #[.slice al0 l.length cl0, .slice none 0 0, .slice none 0 0] 31 (0, 0))) := Lib.hid (by rw [hw2, hbH]; exact heap_alloc_new _ _)
  have hb2 : Below w1.heap.size w1 w2 := by rw [hw2]; exact below_alloc _ _
  have HR2 := Lib.hid (obj_below hr1 hb2)
  have HI2 := Lib.hid (hsi1.below hb2)
  have HA2 : Hid (HstAt w2 (.slice al0 l.length cl0) (.slice none 0 0) (.slice none 0 0) ⟨l, [], []⟩) := Lib.hid (hst_new (ListAt.below hpa hb2))
  have HM0 : Hid (MadeH ⟨l, [], []⟩ 0 1080) := Lib.hid ⟨hstOk_new hl.ok (by omega) (fun p hp => (hl.ent p hp).2), by simp, by show lastF [] ≤ 1080; rw [lastF_nil]; omega⟩
  have HLH : Hid (w.heap.size ≤ bH ∧ bH ≠ bR ∧ bH ≠ tb) := Lib.hid (by
    have h1 := obj_lt hr1
    have h2 := hsi1.old.size
    refine ⟨by omega, by omega, by omega⟩)
  have HW2 := Lib.hid hw2
  have HBH := Lib.hid hbH
  clear hr1 hsi1 hw2 hbH hb2 hpa hl hln hi1 HI0 HR0
  go_upto_region 2 with fail
  rw [← HW2.out, ← HBH.out]
  go_wp2_with fail
  refine (n_in HI2.out (most + 1) (by omega) (by omega)).mono ?_
  rintro e w3 ⟨k0, rfl, k00, k01, hi3, hg3⟩
  have HI3 := Lib.hid hi3
  have HX3 := Lib.hid (obj_turn HX2.out hg3 HLH.out.2.2)
  have HR3 := Lib.hid (obj_turn HR2.out hg3 HLR.out.2)
  have HA3 := Lib.hid (HA2.out.turn HI2.out.src hg3)
  clear hi3 hg3 HI2 HX2 HR2 HA2
  go_wp2
  go_loopw [6, 7] (fun fv kv wr => ∃ (h : Hst) (fn kk dn : Int) (al ap ac : Option Addr) (nl cl np cp nc cc : Nat), fv = .int .i64 fn ∧ kv = .int .i64 kk ∧ 0 ≤ kk ∧ 0 ≤ dn ∧ dn + kk ≤ most ∧ 1080 ≤ fn ∧ fn ≤ 1080 + 29 * dn ∧ Hid (MadeH h dn fn) ∧ Hid (HstAt wr (.slice al nl cl) (.slice ap np cp) (.slice ac nc cc) h) ∧ Hid (wr.heap[bH]? = some (.cells #[.slice al nl cl, .slice ap np cp, .slice ac nc cc] 31 (0, 0))) ∧ Hid (wr.heap[bR]? = some (.cells #[.slice none 0 0, .slice none 0 0, .slice none 0 0] 31 (0, 0))) ∧ Hid (SI w tb wr)) (fun _ kv _ => (RowKit.intOf kv).toNat)
  case atStart => exact ⟨_, 1080, k0, 0, al0, none, none, _, cl0, 0, 0, 0, 0, rfl, rfl, k00, by omega, by omega, by omega, by omega, HM0, HA3, HX3, HR3, HI3⟩
  case round =>
  clear HM0 HA3 HX3 HR3 HI3
  obtain ⟨h, fn, kk, dn, al, ap, ac, nl, cl, np, cp, nc, cc, rfl, rfl, hk0, hd0, hdk, hf0, hf1, HM, HA, HX, HR, HI⟩ := hrel
  have hbx := HX.out
  have ub0 := obj_cell hbx 0
  have ub1 := obj_cell hbx 1
  have ub2 := obj_cell hbx 2
  simp at ub0 ub1 ub2
  clear hbx
  by_cases hkp : 0 < kk
  · have hwk : IntKind.i64.wrap (kk - 1) = kk - 1 := IntWalk.i64_in _ (by omega)
    have hcnt := HM.out.cnt
    have HST := Lib.hid (fun (W : World) (q : HstAt W (.slice al nl cl) (.slice ap np cp) (.slice ac nc cc) h) (hs : SrcAt W tb) => step44_any tb HM.out.ok (by omega) (by omega) (fnd := fn) (by omega) HM.out.last (.slice al nl cl) (.slice ap np cp) (.slice ac nc cc) W q hs)
    clear hcnt
    go_wp2_with fail
    refine (HST.out _ HA.out HI.out.src).mono ?_
    rintro e w5 ⟨h', f', ul, up, uc, rfl, hst, hat, hi5⟩
    obtain ⟨al', ap', ac', cl', cp', cc', rfl, rfl, rfl⟩ := hat.parts
    have HX5 := Lib.hid (obj_turn HX.out hi5.old HLH.out.2.2)
    have HR5 := Lib.hid (obj_turn HR.out hi5.old HLR.out.2)
    have HI5 := Lib.hid (HI.out.turn hi5.src hi5.old)
    have hfd := hst.fnd
    have HM5 := Lib.hid (HM.out.step hst)
    have hx5 := HX5.out
    clear ub0 ub1 ub2
    have ub0 := obj_cell hx5 0
    have ub1 := obj_cell hx5 1
    have ub2 := obj_cell hx5 2
    simp at ub0 ub1 ub2
    have uf0 := obj_free hx5 0
    have uf1 := obj_free hx5 1
    have uf2 := obj_free hx5 2
    have hg6 : w5.grownBy (put3 w5 bH (.slice al' h'.led.length cl') (.slice ap' h'.pres.length cp') (.slice ac' h'.cors.length cc')) (some bH) := put3_grown2 _ _ _ _ _
    have HX6 : Hid (((put3 w5 bH (.slice al' h'.led.length cl') (.slice ap' h'.pres.length cp') (.slice ac' h'.cors.length cc'))).heap[bH]? = some (.cells #[.slice al' h'.led.length cl', .slice ap' h'.pres.length cp', .slice ac' h'.cors.length cc'] 31 (0, 0))) := Lib.hid (put3_at HX5.out rfl _ _ _)
    have HR6 : Hid (((put3 w5 bH (.slice al' h'.led.length cl') (.slice ap' h'.pres.length cp') (.slice ac' h'.cors.length cc'))).heap[bR]? = some (.cells #[.slice none 0 0, .slice none 0 0, .slice none 0 0] 31 (0, 0))) := Lib.hid ((hg6.block bR (obj_lt HR5.out) (by simp [Ne.symm HLH.out.2.1])).trans HR5.out)
    have HI6 : Hid (SI w tb (put3 w5 bH (.slice al' h'.led.length cl') (.slice ap' h'.pres.length cp') (.slice ac' h'.cors.length cc'))) := Lib.hid (HI5.out.grown hg6 fun r e => by injection e with e; have := HLH.out.1; omega)
    have HA6 := Lib.hid (hat.keep (lone_hst HX5.out) hg6)
    clear hx5 hg6 hat hi5 hst HST
    go_wp2
    go_roundw
    case rel => exact ⟨h', f', kk - 1, dn + 1, al', ap', ac', _, cl', _, cp', _, cc', rfl, rfl, by omega, by omega, by omega, by omega, by omega, HM5, HA6, HX6, HR6, HI6⟩
    case measure => simp [RowKit.intOf]; omega
  · obtain hkz : kk = 0 := by omega
    have HMF : Hid (MadeH h most (1080 + 29 * most)) := Lib.hid ⟨HM.out.ok, by have := HM.out.cnt; omega, by have := HM.out.last; omega⟩
    have hre := HR.out
    have r0 := obj_cell hre 0
    have r1 := obj_cell hre 1
    have r2 := obj_cell hre 2
    simp at r0 r1 r2
    have fr0 := obj_free hre 0
    have fr1 := obj_free hre 1
    have fr2 := obj_free hre 2
    clear hre
    go_wp2
    refine ret3 HR.out rfl _ _ _ (v := .agg #[.slice al nl cl, .slice ap np cp, .slice ac nc cc]) (fun F hF => ?_) rfl ⟨h, _, _, _, rfl, HMF.out, ?_, ?_⟩
    · have q0 := obj_cell hF 0
      have q1 := obj_cell hF 1
      have q2 := obj_cell hF 2
      simp at q0 q1 q2
      simp [results, Try.results9, go_sem, q0, q1, q2]
    · exact HA.out.keep (lone_hst HR.out) (put3_grown2 _ _ _ _ _)
    · exact HI.out.grown (put3_grown2 _ _ _ _ _) fun r e => by injection e with e; have := HLR.out.1; omega

end Go.Proofs.Ytoccnindkimjdaa

/- The chapter's example of corrections: a forgotten expense, found later. -/
set_option linter.unusedSimpArgs false
set_option linter.unusedVariables false
namespace Go.Proofs.Ytoccnindkimjdaa
open Go.RowKit Go.Lib Go.Proofs

def fP : Pst := ⟨1, 700, 1, 510, 210, 40, 0, 0⟩
def fC : Cor := ⟨1, 800, [fP]⟩
def aP : Prs := ⟨1, 1, ⟨0, 0, 0, 0, 0⟩⟩
def bP : Prs := ⟨1, 2, ⟨0, 40, 0, 0, 40⟩⟩
theorem fC_ok : CorOk fC := ⟨by decide, by decide, by decide, fun p hp => by
  rw [show fC.ps = [fP] from rfl, List.mem_singleton] at hp
  subst hp
  exact ⟨⟨by decide, by decide, by decide, by decide, by decide, by decide, by decide, by decide, by decide, by decide⟩, by decide, by decide⟩⟩
theorem h0_ok : HstOk ⟨[], [], []⟩ := hstOk_new ldgOk_nil (by simp) (fun p hp => by simp at hp)
theorem h1_ok : HstOk ⟨[], [aP], []⟩ := h0_ok.addP (p := aP) (by decide) (by decide) (by decide)
theorem h2_ok : HstOk ⟨[], [aP], [fC]⟩ := h1_ok.addC fC_ok (by decide) (by decide)
theorem h3_ok : HstOk ⟨[], [aP, bP], [fC]⟩ := h2_ok.addP (p := bP) (by decide) (by decide) (by decide)
theorem sn_pres1 (vl vp vc : Value) (W : World) (h : HstAt W vl vp vc ⟨[], [], []⟩) : Calls Try.prog 22 #[.agg #[vl, vp, vc], .int .i64 1] W fun e w' => ∃ ul up uc, e = .returned (.tuple #[.agg #[ul, up, uc], .agg #[.int .i64 1, .int .i64 1, .int .i64 0, .int .i64 0, .int .i64 0, .int .i64 0, .int .i64 0], .int .i64 0]) ∧ HstAt w' ul up uc ⟨[], [aP], []⟩ ∧ Below W.heap.size W w' :=
  rsPresent_ok h0_ok (y := 1) (by decide) (by decide) vl vp vc W h
theorem sn_pres2 (vl vp vc : Value) (W : World) (h : HstAt W vl vp vc ⟨[], [aP], [fC]⟩) : Calls Try.prog 22 #[.agg #[vl, vp, vc], .int .i64 1] W fun e w' => ∃ ul up uc, e = .returned (.tuple #[.agg #[ul, up, uc], .agg #[.int .i64 1, .int .i64 2, .int .i64 0, .int .i64 40, .int .i64 0, .int .i64 0, .int .i64 40], .int .i64 0]) ∧ HstAt w' ul up uc ⟨[], [aP, bP], [fC]⟩ ∧ Below W.heap.size W w' :=
  rsPresent_ok h2_ok (y := 1) (by decide) (by decide) vl vp vc W h
theorem sn_cor (vl vp vc : Value) (sx : Sli) (W : World) (h : HstAt W vl vp vc ⟨[], [aP], []⟩) (hs : PstsAt W sx.v [fP]) : Calls Try.prog 17 #[.agg #[vl, vp, vc], .agg #[.int .i64 1, .int .i64 800, sx.v]] W fun e w' => ∃ ul up uc, e = .returned (.tuple #[.agg #[ul, up, uc], .int .i64 0]) ∧ HstAt w' ul up uc ⟨[], [aP], [fC]⟩ ∧ Below W.heap.size W w' :=
  rsCorrect_ok h1_ok fC_ok (by decide) (by decide) vl vp vc sx W h hs
theorem sn_shown (vl vp vc : Value) (W : World) (h : HstAt W vl vp vc ⟨[], [aP, bP], [fC]⟩) : Calls Try.prog 12 #[.agg #[vl, vp, vc], .int .i64 1, .int .i64 1] W fun e w' => e = .returned (.tuple #[.agg #[.int .i64 0, .int .i64 0, .int .i64 0, .int .i64 0, .int .i64 0], .bool true]) ∧ Below W.heap.size W w' :=
  rsShown_ok h3_ok 1 1 vl vp vc W h
theorem forgotten44_any (w : World) : Calls Try.prog 30 #[] w fun e w' => ∃ sx : Sli, e = .returned (.agg #[.int .i64 1, .int .i64 800, Sli.v sx]) ∧ PstsAt w' (Sli.v sx) [fP] ∧ Below w.heap.size w w' := by
  obtain ⟨w1, hw1⟩ : ∃ W, W = w.alloc (.cells #[.int .i64 0, .int .i64 0, .slice none 0 0] 49) := ⟨_, rfl⟩
  have hr1 : w1.heap[w.heap.size]? = some (.cells #[.int .i64 0, .int .i64 0, .slice none 0 0] 49 (0, 0)) := by rw [hw1]; exact heap_alloc_new _ _
  have hb1 : Below w.heap.size w w1 := by rw [hw1]; exact below_alloc _ _
  have hb2 : Below w1.heap.size w1 (w1.alloc (.cells #[.int .i64 1, .int .i64 700, .int .i64 1, .int .i64 510, .int .i64 210, .int .i64 40, .int .i64 0, .int .i64 0] 55)) := below_alloc _ _
  obtain ⟨bR, hbR⟩ : ∃ b, b = w.heap.size := ⟨_, rfl⟩
  rw [← hbR] at hr1
  have hr2 := obj_below hr1 hb2
  have HR2 := Lib.hid hr2
  have HB2 : Hid (Below w.heap.size w (w1.alloc (.cells #[.int .i64 1, .int .i64 700, .int .i64 1, .int .i64 510, .int .i64 210, .int .i64 40, .int .i64 0, .int .i64 0] 55))) := Lib.hid (hb1.trans (hb2.mono hb1.size))
  have hrow : (w1.alloc (.cells #[.int .i64 1, .int .i64 700, .int .i64 1, .int .i64 510, .int .i64 210, .int .i64 40, .int .i64 0, .int .i64 0] 55)).ownsRow w1.heap.size 55 8 (.slice (some ⟨w1.heap.size, 0, none⟩) 1 1) 1 (cellsL pstC [fP]) := ⟨rfl, .inr ⟨w1.heap.size, 1, #[.int .i64 1, .int .i64 700, .int .i64 1, .int .i64 510, .int .i64 210, .int .i64 40, .int .i64 0, .int .i64 0], rfl, Nat.le_refl _, heap_alloc_new _ _, Nat.le_refl _, by decide, rfl, rfl⟩⟩
  have HRW := Lib.hid hrow
  have HW1 := Lib.hid hw1
  have HBR := Lib.hid hbR
  have r0 := obj_cell hr2 0
  have r1 := obj_cell hr2 1
  have r2 := obj_cell hr2 2
  simp at r0 r1 r2
  have fr0 := obj_free hr2 0
  have fr1 := obj_free hr2 1
  have fr2 := obj_free hr2 2
  clear hw1 hr1 hb1 hb2 hrow hbR hr2
  go_enter Try.func30, Try.ntmps30
  go_upto_region 1 with fail
  rw [← HW1.out, ← HBR.out]
  go_wp2
  refine ret3 HR2.out rfl _ _ _ (v := .agg #[.int .i64 1, .int .i64 800, .slice (some ⟨w1.heap.size, 0, none⟩) 1 1]) (fun F hF => ?_) rfl ⟨⟨some ⟨w1.heap.size, 0, none⟩, 1, 1⟩, rfl, psts_owns (owns_keep HRW.out (put3_grown2 _ _ _ _ _) (notOf_box HR2.out (by decide))), put3_below HB2.out (by rw [HBR.out]; exact Nat.le_refl _) _ _ _⟩
  have q0 := obj_cell hF 0
  have q1 := obj_cell hF 1
  have q2 := obj_cell hF 2
  simp at q0 q1 q2
  simp [results, Try.results30, go_sem, q0, q1, q2]

end Go.Proofs.Ytoccnindkimjdaa
