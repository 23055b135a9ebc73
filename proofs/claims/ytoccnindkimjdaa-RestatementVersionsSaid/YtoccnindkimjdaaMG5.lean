/- Texts of one claim, merged: RsX, RsR, RsY. -/
import Derived.Test.YtoccnindkimjdaaMRsW
/- The package's New and Shown. -/
set_option linter.unusedSimpArgs false
set_option linter.unusedVariables false
set_option linter.unusedSimpArgs false
set_option linter.unusedVariables false
namespace Go.Proofs.Ytoccnindkimjdaa
open Go.RowKit Go.Lib Go.Proofs

theorem hst_new {w : World} {v : Value} {l : List Pst} (h : PstsAt w v l) : HstAt w v (.slice none 0 0) (.slice none 0 0) ⟨l, [], []⟩ :=
  ⟨h, ⟨rfl, none, 0, rfl, Nat.le_refl _, Or.inl rfl⟩, [], ⟨rfl, none, 0, rfl, Nat.le_refl _, Or.inl rfl⟩, trivial⟩
theorem hstOk_new {l : List Pst} (h : LdgOk l) (hn : l.length ≤ 100) (hs : ∀ p ∈ l, p.amt ≤ 1000) : HstOk ⟨l, [], []⟩ :=
  ⟨h, hn, hs, by simp, by simp, fun c hc => by simp at hc, fun i hi => by simp at hi, fun i hi => by simp at hi⟩
set_option maxRecDepth 100000 in
set_option maxHeartbeats 8000000 in
theorem rsNew_ok {l : List Pst} (h : LdgOk l) (hn : l.length ≤ 100) (hs : ∀ p ∈ l, p.amt ≤ 1000) (vl : Value) (w : World) (hl : PstsAt w vl l) :
    Calls Try.prog 29 #[.agg #[vl]] w fun e w' => ∃ ul up uc, e = .returned (.tuple #[.agg #[ul, up, uc], .int .i64 0]) ∧ HstAt w' ul up uc ⟨l, [], []⟩ ∧ Below w.heap.size w w' := by
  have HCK := Lib.hid (fun W (hW : Below w.heap.size w W) => lgCheck_right h vl W (ListAt.below hl hW))
  have HCP := Lib.hid (fun W (hW : Below w.heap.size w W) => rscopyOf_ok (hstOk_new h hn hs) vl (.slice none 0 0) (.slice none 0 0) W (hst_new (ListAt.below hl hW)))
  obtain ⟨al, cl, rfl, -, -⟩ := hl.shape pstF
  simp only at HCP
  obtain ⟨nl, hnl⟩ : ∃ q, q = l.length := ⟨_, rfl⟩
  rw [← hnl] at HCK HCP ⊢
  rw [show ([] : List Prs).length = 0 from rfl, show ([] : List Cor).length = 0 from rfl] at HCP
  obtain ⟨w0, hw0⟩ : ∃ w0, w0 = (w.alloc (.cells #[.slice al nl cl] 27)).alloc (.cells #[.slice none 0 0, .slice none 0 0, .slice none 0 0] 31) := ⟨_, rfl⟩
  obtain ⟨bL, hbL⟩ : ∃ b, b = w.heap.size := ⟨_, rfl⟩
  obtain ⟨bR, hbR⟩ : ∃ b, b = w.heap.size + 1 := ⟨_, rfl⟩
  have HL0 : Hid (w0.heap[bL]? = some (.cells #[.slice al nl cl] 27 (0, 0))) := Lib.hid (by rw [hw0, hbL]; exact alloc1_at w _ _)
  have HR0 : Hid (w0.heap[bR]? = some (.cells #[.slice none 0 0, .slice none 0 0, .slice none 0 0] 31 (0, 0))) := Lib.hid (by rw [hw0, hbR]; exact alloc2_at w _ _)
  have HB0 : Hid (Below w.heap.size w w0) := Lib.hid (by rw [hw0]; exact below2 w _ _)
  have HLR : Hid (w.heap.size ≤ bR ∧ bR < w0.heap.size) := Lib.hid ⟨by omega, obj_lt HR0.out⟩
  have hbx := HL0.out
  have ub0 := obj_cell hbx 0
  simp at ub0
  have HW0 := Lib.hid hw0
  have HBL := Lib.hid hbL
  have HBR := Lib.hid hbR
  clear hw0 hbL hbR hbx hnl hl h hn hs
  go_enter Try.func29, Try.ntmps29
  go_upto_region 1 with fail
  rw [← HW0.out, ← HBR.out, ← HBL.out]
  go_wp2_with fail
  refine (HCK.out _ HB0.out).mono ?_
  rintro e w1 ⟨rfl, hb1⟩
  have HL1 := Lib.hid (obj_below HL0.out hb1)
  have HR1 := Lib.hid (obj_below HR0.out hb1)
  have HB1 := Lib.hid (HB0.out.trans (hb1.mono HB0.out.size))
  have HS1 := Lib.hid hb1.size
  have hbx := HL1.out
  clear ub0 hb1
  have ub0 := obj_cell hbx 0
  simp at ub0
  clear hbx
  go_wp2_with fail
  refine (HCP.out _ HB1.out).mono ?_
  rintro e w2 ⟨xl, yl, xp, yp, xc, yc, rs, rfl, hk, ho⟩
  have HRF := Lib.hid (obj_below HR1.out hk.bel)
  have HKF := Lib.hid hk
  have HOF := Lib.hid ho
  have hre := HRF.out
  have r0 := obj_cell hre 0
  have r1 := obj_cell hre 1
  have r2 := obj_cell hre 2
  simp at r0 r1 r2
  have fr0 := obj_free hre 0
  have fr1 := obj_free hre 1
  have fr2 := obj_free hre 2
  clear hre hk ho ub0
  go_wp2
  refine ret3 HRF.out rfl _ _ _ (v := .tuple #[.agg #[.slice xl nl yl, .slice xp 0 yp, .slice xc 0 yc], .int .i64 0]) (fun F hF => ?_) rfl ⟨_, _, _, rfl, ?_, ?_⟩
  · have q0 := obj_cell hF 0
    have q1 := obj_cell hF 1
    have q2 := obj_cell hF 2
    simp at q0 q1 q2
    simp [results, Try.results29, go_sem, q0, q1, q2]
  · have hlt : bR < w1.heap.size := obj_lt HR1.out
    have hh : HRows w1.heap.size (.slice xl nl yl) (.slice xp 0 yp) (.slice xc 0 yc) l [] rs [] w2 := ⟨HKF.out.led, HKF.out.prs, HKF.out.cor, HOF.out⟩
    exact (hh.old (put3_grown2 _ _ _ _ _) hlt).hst
  · exact put3_below (HB1.out.trans (HKF.out.bel.mono HB1.out.size)) HLR.out.1 _ _ _

/-- What was presented for a year with a version. -/
def shownM (y v : Int) : List Prs → Option Stm
  | [] => none
  | p :: l => if p.yr = y ∧ p.ver = v then some p.st else shownM y v l
def shR : Option Stm → Value
  | some s => .tuple #[.agg (stmA s), .bool true]
  | none => .tuple #[.agg #[.int .i64 0, .int .i64 0, .int .i64 0, .int .i64 0, .int .i64 0], .bool false]

set_option maxRecDepth 100000 in
set_option maxHeartbeats 8000000 in
theorem rsShown_ok {h : Hst} (hh : HstOk h) (y v : Int) (vl vp vc : Value) (w : World) (ha : HstAt w vl vp vc h) :
    Calls Try.prog 12 #[.agg #[vl, vp, vc], .int .i64 y, .int .i64 v] w fun e w' => e = .returned (shR (shownM y v h.pres)) ∧ Below w.heap.size w w' := by
  have HCK := Lib.hid (fun W (hW : Below w.heap.size w W) => rsCheck_right hh vl vp vc W (ha.below hW))
  have hap := ha.pres
  obtain ⟨al, ap, ac, cl, cp, cc, rfl, rfl, rfl⟩ := ha.parts
  obtain ⟨ap', cp', e1, hcp, hcs⟩ := hap.shape prsF
  injection e1 with ea e2 ec
  subst ea
  subst ec
  clear e2
  have HCS := Lib.hid hcs
  have hlen := hh.np
  obtain ⟨nl, hnl⟩ : ∃ q, q = h.led.length := ⟨_, rfl⟩
  obtain ⟨nc, hnc⟩ : ∃ q, q = h.cors.length := ⟨_, rfl⟩
  obtain ⟨PS, hPS⟩ : ∃ q, q = h.pres := ⟨_, rfl⟩
  rw [← hnl, ← hnc, ← hPS] at HCK
  rw [← hPS] at HCS hlen hcp ⊢
  rw [← hnl, ← hnc]
  obtain ⟨n, hn⟩ : ∃ n, n = PS.length := ⟨_, rfl⟩
  have HN := Lib.hid hn
  rw [← hn] at hcp hlen HCK ⊢
  obtain ⟨SH, hSH⟩ : ∃ S : Nat → Option Stm, S = fun k => shownM y v (PS.drop k) := ⟨_, rfl⟩
  have HS0 : Hid (shownM y v PS = SH 0) := Lib.hid (by rw [hSH]; rfl)
  have HSN : Hid (∀ k (hk : k < PS.length), SH k = if (PS[k]).yr = y ∧ (PS[k]).ver = v then some (PS[k]).st else SH (k + 1)) := Lib.hid fun k hk => by
    rw [hSH]
    show shownM y v (PS.drop k) = _
    rw [List.drop_eq_getElem_cons hk]
    rfl
  have HSE : Hid (SH PS.length = none) := Lib.hid (by rw [hSH]; show shownM y v (PS.drop PS.length) = _; rw [List.drop_length]; rfl)
  rw [HS0.out]
  obtain ⟨R, hR⟩ : ∃ R, R = SH 0 := ⟨_, rfl⟩
  rw [← hR]
  have HR0 := Lib.hid hR
  rw [← hn] at HSE
  clear hap hcs hn hSH hR hnl hnc hPS ha hh HS0
  obtain ⟨w0, hw0⟩ : ∃ w0, w0 = (w.alloc (.cells #[.slice al nl cl, .slice ap n cp, .slice ac nc cc] 31)).alloc (.cells #[.int .i64 0, .int .i64 0, .int .i64 0, .int .i64 0, .int .i64 0] 38) := ⟨_, rfl⟩
  obtain ⟨bH, hbH⟩ : ∃ b, b = w.heap.size := ⟨_, rfl⟩
  obtain ⟨bR, hbR⟩ : ∃ b, b = w.heap.size + 1 := ⟨_, rfl⟩
  have HH0 : Hid (w0.heap[bH]? = some (.cells #[.slice al nl cl, .slice ap n cp, .slice ac nc cc] 31 (0, 0))) := Lib.hid (by rw [hw0, hbH]; exact alloc1_at w _ _)
  have HT0 : Hid (w0.heap[bR]? = some (.cells #[.int .i64 0, .int .i64 0, .int .i64 0, .int .i64 0, .int .i64 0] 38 (0, 0))) := Lib.hid (by rw [hw0, hbR]; exact alloc2_at w _ _)
  have HB0 : Hid (Below w.heap.size w w0) := Lib.hid (by rw [hw0]; exact below2 w _ _)
  have HLR : Hid (w.heap.size ≤ bR) := Lib.hid (by omega)
  have HW0 := Lib.hid hw0
  have HBH := Lib.hid hbH
  have HBR := Lib.hid hbR
  have hbx := HH0.out
  have ub0 := obj_cell hbx 0
  have ub1 := obj_cell hbx 1
  have ub2 := obj_cell hbx 2
  simp at ub0 ub1 ub2
  clear hw0 hbH hbR hbx
  go_enter Try.func12, Try.ntmps12
  go_upto_region 1 with fail
  rw [← HW0.out, ← HBR.out, ← HBH.out]
  go_wp2_with fail
  refine (HCK.out _ HB0.out).mono ?_
  rintro e w1 ⟨rfl, hb1⟩
  have HH1 := Lib.hid (obj_below HH0.out hb1)
  have HT1 := Lib.hid (obj_below HT0.out hb1)
  have HB1 := Lib.hid (HB0.out.trans (hb1.mono HB0.out.size))
  have hbx := HH1.out
  clear ub0 ub1 ub2 hb1
  have ub0 := obj_cell hbx 0
  have ub1 := obj_cell hbx 1
  have ub2 := obj_cell hbx 2
  simp at ub0 ub1 ub2
  clear hbx HCK HH0 HT0 HB0
  go_wp2
  go_loopw [17] (fun iv wr => ∃ k : Nat, iv = .int .i64 k ∧ k ≤ n ∧ Hid (Below w1.heap.size w1 wr) ∧ Hid (R = SH k)) (fun iv _ => n - (RowKit.intOf iv).toNat)
  case atStart => exact ⟨0, rfl, by omega, Lib.hid (Below.refl _ _), HR0⟩
  case round =>
    clear ub0 ub1 ub2 HR0
    obtain ⟨k, rfl, hkn, HB, HRK⟩ := hrel
    by_cases hlt : k < n
    · have hkP : k < PS.length := by rw [← HN.out]; exact hlt
      obtain ⟨b, o, rfl, hb, hcc⟩ := HCS.out (by omega)
      have HWB := Lib.hid (HB1.out.trans (HB.out.mono HB1.out.size))
      have hcell := fun j (hj : j < 7) => (HWB.out.cell (p := ⟨b, o + k * 7 + j, none⟩) hb).trans (hcc k hkP j hj)
      have hvs := HSN.out k hkP
      generalize PS[k] = x at *
      obtain ⟨x0, x1, x2, x3, x4, x5, x6⟩ := x
      simp only at hvs
      have HVS := Lib.hid hvs
      have c0 := hcell 0 (by omega)
      have c1 := hcell 1 (by omega)
      have c2 := hcell 2 (by omega)
      have c3 := hcell 3 (by omega)
      have c4 := hcell 4 (by omega)
      have c5 := hcell 5 (by omega)
      have c6 := hcell 6 (by omega)
      simp [prsC] at c0 c1 c2 c3 c4 c5 c6
      have hwk : IntKind.i64.wrap ((k : Int) + 1) = (k : Int) + 1 := IntWalk.i64_in _ (by omega)
      have hk0 : (0 : Int) ≤ (k : Int) := by omega
      have hk1 : (k : Int) < (n : Int) := by omega
      obtain ⟨w8, hw8⟩ : ∃ W, W = wr.alloc (.cells #[.int .i64 x0, .int .i64 x1, .int .i64 x2, .int .i64 x3, .int .i64 x4, .int .i64 x5, .int .i64 x6] 40) := ⟨_, rfl⟩
      obtain ⟨bQ, hbQ⟩ : ∃ b, b = wr.heap.size := ⟨_, rfl⟩
      have hx8 : w8.heap[bQ]? = some (.cells #[.int .i64 x0, .int .i64 x1, .int .i64 x2, .int .i64 x3, .int .i64 x4, .int .i64 x5, .int .i64 x6] 40 (0, 0)) := by rw [hw8, hbQ]; exact heap_alloc_new _ _
      have HB8 : Hid (Below w1.heap.size w1 w8) := Lib.hid (by rw [hw8]; exact HB.out.alloc HB.out.size _)
      have e0 := obj_cell hx8 0
      have e1 := obj_cell hx8 1
      have e2 := obj_cell hx8 2
      have e3 := obj_cell hx8 3
      have e4 := obj_cell hx8 4
      have e5 := obj_cell hx8 5
      have e6 := obj_cell hx8 6
      simp at e0 e1 e2 e3 e4 e5 e6
      have HW8 := Lib.hid hw8
      have HBQ := Lib.hid hbQ
      clear hcell hcc hw8 hbQ hx8 hvs
      go_upto_region 6 with fail
      rw [← HW8.out, ← HBQ.out]
      clear c0 c1 c2 c3 c4 c5 c6
      by_cases hm : x0 = y ∧ x1 = v
      · obtain ⟨rfl, rfl⟩ := hm
        have hm1 : R = some ⟨x2, x3, x4, x5, x6⟩ := by rw [HRK.out, HVS.out, if_pos ⟨rfl, rfl⟩]
        have HM1 := Lib.hid hm1
        have HTF := Lib.hid (obj_below HT1.out HB8.out)
        have hre := HTF.out
        have r0 := obj_cell hre 0
        have r1 := obj_cell hre 1
        have r2 := obj_cell hre 2
        have r3 := obj_cell hre 3
        have r4 := obj_cell hre 4
        simp at r0 r1 r2 r3 r4
        have fr0 := obj_free hre 0
        have fr1 := obj_free hre 1
        have fr2 := obj_free hre 2
        have fr3 := obj_free hre 3
        have fr4 := obj_free hre 4
        clear hre hm1
        go_wp2
        refine ret5 HTF.out rfl _ _ _ _ _ (v := .tuple #[.agg #[.int .i64 x2, .int .i64 x3, .int .i64 x4, .int .i64 x5, .int .i64 x6], .bool true]) (fun F hF => ?_) rfl ⟨by rw [HM1.out]; rfl, put5_below (HB1.out.trans (HB8.out.mono HB1.out.size)) HLR.out _ _ _ _ _⟩
        have q0 := obj_cell hF 0
        have q1 := obj_cell hF 1
        have q2 := obj_cell hF 2
        have q3 := obj_cell hF 3
        have q4 := obj_cell hF 4
        simp at q0 q1 q2 q3 q4
        simp [results, Try.results12, go_sem, q0, q1, q2, q3, q4]
      · have HR9 : Hid (R = SH (k + 1)) := Lib.hid (by rw [HRK.out, HVS.out, if_neg hm])
        by_cases he : x0 = y
        · have he1 : ¬ x1 = v := fun e => hm ⟨he, e⟩
          have he1b : (x1 == v) = false := by rw [beq_eq_false_iff_ne]; exact he1
          subst he
          clear hm
          go_wp2
          go_roundw
          case rel => exact ⟨k + 1, by first | rfl | go_num, by omega, HB8, HR9⟩
          case measure => simp [RowKit.intOf]; omega
        · have heb : (x0 == y) = false := by rw [beq_eq_false_iff_ne]; exact he
          clear hm
          go_wp2
          go_roundw
          case rel => exact ⟨k + 1, by first | rfl | go_num, by omega, HB8, HR9⟩
          case measure => simp [RowKit.intOf]; omega
    · obtain hkk : k = n := by omega
      have hm1 : R = none := by rw [HRK.out, hkk, HSE.out]
      have HM1 := Lib.hid hm1
      have HTF := Lib.hid (obj_below HT1.out HB.out)
      have hre := HTF.out
      have r0 := obj_cell hre 0
      have r1 := obj_cell hre 1
      have r2 := obj_cell hre 2
      have r3 := obj_cell hre 3
      have r4 := obj_cell hre 4
      simp at r0 r1 r2 r3 r4
      have fr0 := obj_free hre 0
      have fr1 := obj_free hre 1
      have fr2 := obj_free hre 2
      have fr3 := obj_free hre 3
      have fr4 := obj_free hre 4
      clear hre hm1
      go_wp2
      refine ret5 HTF.out rfl _ _ _ _ _ (v := .tuple #[.agg #[.int .i64 0, .int .i64 0, .int .i64 0, .int .i64 0, .int .i64 0], .bool false]) (fun F hF => ?_) rfl ⟨by rw [HM1.out]; rfl, put5_below (HB1.out.trans (HB.out.mono HB1.out.size)) HLR.out _ _ _ _ _⟩
      have q0 := obj_cell hF 0
      have q1 := obj_cell hF 1
      have q2 := obj_cell hF 2
      have q3 := obj_cell hF 3
      have q4 := obj_cell hF 4
      simp at q0 q1 q2 q3 q4
      simp [results, Try.results12, go_sem, q0, q1, q2, q3, q4]

end Go.Proofs.Ytoccnindkimjdaa

/- accrual.Result of right books. -/
set_option linter.unusedSimpArgs false
set_option linter.unusedVariables false
namespace Go.Proofs.Ytoccnindkimjdaa
open Go.RowKit Go.Lib Go.Proofs

def resM (e : Int) (f : Int → Bool) (l : List Pst) : Int := -clsM e f 4 l - clsM e f 5 l
theorem aawithin_yes {n lo hi : Int} (w : World) (h1 : lo ≤ n) (h2 : n ≤ hi) : Calls Try.prog 72 #[.int .i64 n, .int .i64 lo, .int .i64 hi] w fun e w' => e = .returned (.bool true) ∧ w = w' := by
  go_enter Try.func72, Try.ntmps72
  go_wp2
  go_ret
  exact ⟨rfl, rfl⟩
theorem aaisYear_yes {n : Int} (w : World) (h0 : 0 ≤ n) (h1 : n ≤ 99) : Calls Try.prog 54 #[.int .i64 n] w fun e w' => e = .returned (.bool true) ∧ w = w' := by
  go_enter Try.func54, Try.ntmps54
  go_wp2_with fail
  refine (aawithin_yes _ h0 h1).mono ?_
  rintro e w' ⟨rfl, rfl⟩
  go_wp2
  go_ret
  exact ⟨rfl, rfl⟩

set_option maxRecDepth 100000 in
set_option maxHeartbeats 4000000 in
theorem aaResult_right {l : List Pst} (h : LdgOk l) {ent y : Int} (he : 0 ≤ ent ∧ ent ≤ 10) (hy : 0 ≤ y ∧ y ≤ 99) (v : Value) (w : World) (hl : PstsAt w v l) :
    Calls Try.prog 31 #[.agg #[v], .int .i64 ent, .int .i64 y] w fun e w' => e = .returned (.tuple #[.int .i64 (resM ent (amidDay (360 * y) (360 * y + 359)) l), .int .i64 0]) ∧ Below w.heap.size w w' := by
  obtain ⟨f1, hf1⟩ : ∃ q, q = 360 * y := ⟨_, rfl⟩
  have hwm : IntKind.i64.wrap (360 * y) = f1 := by rw [hf1]; exact IntWalk.i64_in _ (by omega)
  have hwa : IntKind.i64.wrap (f1 + 360) = f1 + 360 := IntWalk.i64_in _ (by omega)
  have hws : IntKind.i64.wrap (f1 + 360 - 1) = f1 + 359 := by rw [show f1 + 360 - 1 = f1 + 359 by omega]; exact IntWalk.i64_in _ (by omega)
  have HST := Lib.hid (fun W (hW : Below w.heap.size w W) => lgStatement_right h ent f1 (f1 + 359) v W (hl.below hW) he ⟨by omega, by omega⟩ ⟨by omega, by omega⟩)
  have h4 := clsM_small h ent (amidDay f1 (f1 + 359)) 4
  have h5 := clsM_small h ent (amidDay f1 (f1 + 359)) 5
  obtain ⟨c4, hc4⟩ : ∃ q, q = -clsM ent (amidDay f1 (f1 + 359)) 4 l := ⟨_, rfl⟩
  obtain ⟨c5, hc5⟩ : ∃ q, q = clsM ent (amidDay f1 (f1 + 359)) 5 l := ⟨_, rfl⟩
  rw [← hf1]
  unfold resM
  rw [← hc4, ← hc5]
  rw [← hc4, ← hc5] at HST
  rw [← hc5] at h5
  obtain ⟨s0, hs0⟩ : ∃ q, q = clsM ent (byDay (f1 + 359)) 1 l := ⟨_, rfl⟩
  obtain ⟨s1, hs1⟩ : ∃ q, q = -clsM ent (byDay (f1 + 359)) 2 l := ⟨_, rfl⟩
  obtain ⟨s2, hs2⟩ : ∃ q, q = -clsM ent (ereDay f1) 3 l - clsM ent (ereDay f1) 4 l - clsM ent (ereDay f1) 5 l := ⟨_, rfl⟩
  rw [← hs0, ← hs1, ← hs2] at HST
  have hw45 : IntKind.i64.wrap (c4 - c5) = c4 - c5 := IntWalk.i64_in _ (by omega)
  obtain ⟨w0, hw0⟩ : ∃ W, W = w.alloc (.cells #[v] 27) := ⟨_, rfl⟩
  have HB0 : Hid (Below w.heap.size w w0) := Lib.hid (by rw [hw0]; exact below_alloc _ _)
  have HX0 : Hid (w0.heap[w.heap.size]? = some (.cells #[v] 27 (0, 0))) := Lib.hid (by rw [hw0]; exact heap_alloc_new _ _)
  have HW0 := Lib.hid hw0
  clear hw0 hs0 hs1 hs2 hc4 hc5 h h4 h5 hl hf1
  go_enter Try.func31, Try.ntmps31
  go_upto_region 1 with fail
  rw [← HW0.out]
  have hx := HX0.out
  have u0 := obj_cell hx 0
  simp at u0
  clear hx
  go_wp2_with fail
  refine (aaisYear_yes _ hy.1 hy.2).mono ?_
  rintro e w' ⟨rfl, rfl⟩
  go_wp2_with fail
  refine (HST.out _ HB0.out).mono ?_
  rintro e w1 ⟨rfl, hb1⟩
  have HB1 := Lib.hid (HB0.out.trans (hb1.mono HB0.out.size))
  obtain ⟨bS, hbS⟩ : ∃ q, q = w1.heap.size := ⟨_, rfl⟩
  obtain ⟨w2, hw2⟩ : ∃ W, W = w1.alloc (.cells #[.int .i64 s0, .int .i64 s1, .int .i64 s2, .int .i64 c4, .int .i64 c5] 38) := ⟨_, rfl⟩
  have HB2 : Hid (Below w.heap.size w w2) := Lib.hid (by rw [hw2]; exact HB1.out.alloc HB1.out.size _)
  have HX2 : Hid (w2.heap[bS]? = some (.cells #[.int .i64 s0, .int .i64 s1, .int .i64 s2, .int .i64 c4, .int .i64 c5] 38 (0, 0))) := Lib.hid (by rw [hw2, hbS]; exact heap_alloc_new _ _)
  have HW2 := Lib.hid hw2
  have HBS := Lib.hid hbS
  clear hb1 hw2 hbS u0
  go_upto_region 5 with fail
  rw [← HW2.out, ← HBS.out]
  go_wp2_with fail
  refine (aaisYear_yes _ hy.1 hy.2).mono ?_
  rintro e w' ⟨rfl, rfl⟩
  obtain ⟨w3, hw3⟩ : ∃ x, x = w2 := ⟨_, rfl⟩
  rw [← hw3] at HX2 HB2 ⊢
  clear hw3 HW2
  have hx := HX2.out
  have d3 := obj_cell hx 3
  have d4 := obj_cell hx 4
  simp at d3 d4
  clear hx
  go_wp2
  go_ret2
  exact ⟨rfl, HB2.out⟩

end Go.Proofs.Ytoccnindkimjdaa

/- The effect of corrections on a year's result, as mathematics; a restated year's beginning; of no function of the program; no condition. -/
set_option linter.unusedSimpArgs false
set_option linter.unusedVariables false
namespace Go.Proofs.Ytoccnindkimjdaa
open Go.RowKit Go.Lib Go.Proofs

def effP (p : Pst) : Int := (if 4 ≤ classM p.crd then p.amt else 0) - (if 4 ≤ classM p.deb then p.amt else 0)
def effL : List Pst → Int
  | [] => 0
  | p :: l => effP p + effL l
def effM (y : Int) : List Cor → Int
  | [] => 0
  | c :: l => (if c.yr = y then effL c.ps else 0) + effM y l
theorem effL_snoc (p : Pst) : ∀ l : List Pst, effL (l ++ [p]) = effL l + effP p
  | [] => by simp [effL]
  | q :: l => by simp only [List.cons_append, effL, effL_snoc p l]; omega
theorem effM_snoc (y : Int) (c : Cor) : ∀ l : List Cor, effM y (l ++ [c]) = effM y l + (if c.yr = y then effL c.ps else 0)
  | [] => by simp [effM]
  | q :: l => by simp only [List.cons_append, effM, effM_snoc y c l]; omega
theorem effL_small : ∀ {l : List Pst}, (∀ p ∈ l, PstOk p ∧ p.amt ≤ 1000) → -(1000 * (l.length : Int)) ≤ effL l ∧ effL l ≤ 1000 * (l.length : Int)
  | [], _ => by simp [effL]
  | p :: l, h => by
    have h1 := effL_small (l := l) fun q hq => h q (List.mem_cons_of_mem _ hq)
    have h2 := h p List.mem_cons_self
    have h3 := h2.1.amt
    have h4 : -1000 ≤ effP p ∧ effP p ≤ 1000 := by
      unfold effP
      constructor <;> (repeat' split) <;> omega
    simp only [effL, List.length_cons]
    omega
theorem effM_small {y : Int} : ∀ {l : List Cor}, (∀ c ∈ l, CorOk c) → -(3000 * (l.length : Int)) ≤ effM y l ∧ effM y l ≤ 3000 * (l.length : Int)
  | [], _ => by simp [effM]
  | c :: l, h => by
    have h1 := effM_small (y := y) (l := l) fun q hq => h q (List.mem_cons_of_mem _ hq)
    have hc := h c List.mem_cons_self
    have h2 := effL_small (l := c.ps) fun p hp => ⟨(hc.ps p hp).ok, (hc.ps p hp).sm⟩
    have h3 := hc.len
    simp only [effM, List.length_cons]
    split <;> omega
theorem class_five {p : Pst} (h : PstOk p) : (1 ≤ classM p.deb ∧ classM p.deb ≤ 5) ∧ 1 ≤ classM p.crd ∧ classM p.crd ≤ 5 := by
  have h1 := h.deb
  have h2 := h.crd
  unfold classM
  rw [if_pos h1, if_pos h2]
  omega
theorem hit_zero (p : Pst) : hitE 0 p = true := by simp [hitE]
theorem cnet_eff {p : Pst} (h : PstOk p) : -cnetP 4 p - cnetP 5 p = effP p := by
  have h1 := class_five h
  unfold cnetP effP
  (repeat' split) <;> omega
theorem cnet_sum {p : Pst} (h : PstOk p) : cnetP 1 p + cnetP 2 p + cnetP 3 p + cnetP 4 p + cnetP 5 p = 0 := by
  have h1 := class_five h
  unfold cnetP
  have e1 : classM p.deb = 1 ∨ classM p.deb = 2 ∨ classM p.deb = 3 ∨ classM p.deb = 4 ∨ classM p.deb = 5 := by omega
  have e2 : classM p.crd = 1 ∨ classM p.crd = 2 ∨ classM p.crd = 3 ∨ classM p.crd = 4 ∨ classM p.crd = 5 := by omega
  rcases e1 with e1 | e1 | e1 | e1 | e1 <;> rcases e2 with e2 | e2 | e2 | e2 | e2 <;> simp [e1, e2] <;> omega
theorem res_app (e : Int) (f : Int → Bool) (l m : List Pst) : resM e f (l ++ m) = resM e f l + resM e f m := by
  unfold resM
  rw [cls_app, cls_app]
  omega
/-- A row of postings whose days all count, or none of them does. -/
theorem res_all {f : Int → Bool} : ∀ {l : List Pst}, (∀ p ∈ l, PstOk p ∧ f p.day = true) → resM 0 f l = effL l
  | [], _ => by simp [resM, clsM, effL]
  | p :: l, h => by
    have h1 := res_all (f := f) (l := l) fun q hq => h q (List.mem_cons_of_mem _ hq)
    have h2 := h p List.mem_cons_self
    have h3 := cnet_eff h2.1
    unfold resM at h1 ⊢
    simp only [clsM, effL, hit_zero, h2.2, Bool.and_self, if_true]
    omega
theorem cls_none {f : Int → Bool} {c : Int} : ∀ {l : List Pst}, (∀ p ∈ l, f p.day = false) → clsM 0 f c l = 0
  | [], _ => rfl
  | p :: l, h => by
    have h1 := cls_none (f := f) (c := c) (l := l) fun q hq => h q (List.mem_cons_of_mem _ hq)
    simp only [clsM, h p List.mem_cons_self, Bool.and_false, h1]
    rfl
theorem res_none {f : Int → Bool} {l : List Pst} (h : ∀ p ∈ l, f p.day = false) : resM 0 f l = 0 := by
  unfold resM
  rw [cls_none h, cls_none h]
  rfl
theorem res_cors {y : Int} : ∀ {l : List Cor}, (∀ c ∈ l, CorOk c) → resM 0 (amidDay (360 * y) (360 * y + 359)) (corPs y l) = effM y l
  | [], _ => by simp [resM, clsM, corPs, effM]
  | c :: l, h => by
    have h1 := res_cors (y := y) (l := l) fun q hq => h q (List.mem_cons_of_mem _ hq)
    have hc := h c List.mem_cons_self
    simp only [corPs, effM, res_app, h1]
    congr 1
    by_cases hy : c.yr = y
    · rw [if_pos (by omega), if_pos hy]
      exact res_all fun p hp => by
        have := hc.ps p hp
        have hd := this.yr
        exact ⟨this.ok, by simp only [amidDay, Bool.and_eq_true, decide_eq_true_eq]; omega⟩
    · rw [if_neg hy]
      split
      · exact res_none fun p hp => by
          have hd := (hc.ps p hp).yr
          have : ¬ 360 * y ≤ p.day := by omega
          simp [amidDay, this]
      · rfl
/-- The restated result of a year is that of the books and the effect of the year's corrections. -/
theorem rest_result {h : Hst} (q : HstOk h) (y : Int) : (restM y h).rev - (restM y h).exp = resM 0 (amidDay (360 * y) (360 * y + 359)) h.led + effM y h.cors := by
  rw [← res_cors q.cor, ← res_app]
  show -clsM 0 (amidDay (360 * y) (360 * y + 359)) 4 (allM y h) - clsM 0 (amidDay (360 * y) (360 * y + 359)) 5 (allM y h) = _
  rfl
theorem cls_sum {f : Int → Bool} : ∀ {l : List Pst}, (∀ p ∈ l, PstOk p) → clsM 0 f 1 l + clsM 0 f 2 l + clsM 0 f 3 l + clsM 0 f 4 l + clsM 0 f 5 l = 0
  | [], _ => by simp [clsM]
  | p :: l, h => by
    have h1 := cls_sum (f := f) (l := l) fun q hq => h q (List.mem_cons_of_mem _ hq)
    have h2 := cnet_sum (h p List.mem_cons_self)
    simp only [clsM]
    split <;> omega
theorem cls_day {f g : Int → Bool} {c : Int} : ∀ {l : List Pst}, (∀ p ∈ l, f p.day = g p.day) → clsM 0 f c l = clsM 0 g c l
  | [], _ => rfl
  | p :: l, h => by
    have h1 := cls_day (f := f) (g := g) (c := c) (l := l) fun q hq => h q (List.mem_cons_of_mem _ hq)
    simp only [clsM, h p List.mem_cons_self, h1]
/-- Corrections of the year itself change nothing ahead of it. -/
theorem cls_cors {y c : Int} : ∀ {l : List Cor}, (∀ x ∈ l, CorOk x) → clsM 0 (ereDay (360 * y)) c (corPs y l) = clsM 0 (ereDay (360 * y)) c (corPs (y - 1) l)
  | [], _ => rfl
  | x :: l, h => by
    have h1 := cls_cors (y := y) (c := c) (l := l) fun q hq => h q (List.mem_cons_of_mem _ hq)
    have hx := h x List.mem_cons_self
    simp only [corPs, cls_app, h1]
    congr 1
    by_cases hy : x.yr = y
    · rw [if_pos (by omega), if_neg (by omega)]
      exact cls_none fun p hp => by
        have hd := (hx.ps p hp).yr
        have : ¬ p.day < 360 * y := by omega
        simp [ereDay, this]
    · by_cases hl : x.yr ≤ y
      · rw [if_pos hl, if_pos (by omega)]
      · rw [if_neg hl, if_neg (by omega)]
theorem rest_worth {h : Hst} (q : HstOk h) (y : Int) : (restM y h).wor = (restM (y - 1) h).ast - (restM (y - 1) h).lia := by
  have hday : ∀ d : Int, byDay (360 * (y - 1) + 359) d = ereDay (360 * y) d := fun d => by
    simp only [byDay, ereDay, decide_eq_decide]
    omega
  have k : ∀ c, clsM 0 (byDay (360 * (y - 1) + 359)) c (allM (y - 1) h) = clsM 0 (ereDay (360 * y)) c (allM y h) := fun c => by
    rw [cls_day (fun p _ => hday p.day)]
    unfold allM
    rw [cls_app, cls_app, cls_cors q.cor]
  have hs := cls_sum (f := ereDay (360 * y)) (l := allM y h) fun p hp => (q.allMem y p hp).1
  show -clsM 0 (ereDay (360 * y)) 3 (allM y h) - clsM 0 (ereDay (360 * y)) 4 (allM y h) - clsM 0 (ereDay (360 * y)) 5 (allM y h) = clsM 0 (byDay (360 * (y - 1) + 359)) 1 (allM (y - 1) h) - -clsM 0 (byDay (360 * (y - 1) + 359)) 2 (allM (y - 1) h)
  rw [k, k]
  omega
/-- A correction of a later year. -/
theorem corPs_later {y : Int} {c : Cor} (h : y < c.yr) (l : List Cor) : corPs y (l ++ [c]) = corPs y l := by
  rw [corPs_snoc, if_neg (by omega), List.append_nil]
/-- What is presented once stands among what is presented with its version alone. -/
theorem shown_none {y v : Int} : ∀ (l : List Prs), (∀ p ∈ l, ¬ (p.yr = y ∧ p.ver = v)) → shownM y v l = none
  | [], _ => rfl
  | p :: l, h => by
    simp only [shownM]
    rw [if_neg (h p List.mem_cons_self)]
    exact shown_none l fun q hq => h q (List.mem_cons_of_mem _ hq)
theorem shown_app {y v : Int} (m : List Prs) : ∀ (l : List Prs), shownM y v (l ++ m) = (shownM y v l).orElse fun _ => shownM y v m
  | [] => rfl
  | p :: l => by
    simp only [List.cons_append, shownM]
    split
    · rfl
    · exact shown_app m l
def VerOk (l : List Prs) : Prop := ∀ i (q : i < l.length), (l[i]).ver = versM (l[i]).yr (l.take i) + 1
theorem HstOk.vers {h : Hst} (q : HstOk h) : VerOk h.pres := fun i hi => (q.ver i hi).2.2
theorem vers_le {l : List Prs} (h : VerOk l) : ∀ p ∈ l, p.ver ≤ versM p.yr l ∧ 1 ≤ p.ver := by
  intro p hp
  obtain ⟨i, hi, rfl⟩ := List.getElem_of_mem hp
  have h1 := h i hi
  have h2 : versM (l[i]).yr l = versM (l[i]).yr (l.take i) + versM (l[i]).yr (l.drop i) := by
    have : ∀ (a b : List Prs) (y : Int), versM y (a ++ b) = versM y a + versM y b := by
      intro a b y
      induction a with
      | nil => simp [versM]
      | cons x a ih => simp only [List.cons_append, versM, ih]; omega
    rw [← this, List.take_append_drop]
  rw [List.drop_eq_getElem_cons hi] at h2
  simp only [versM, if_true] at h2
  have h3 := versM_len (l[i]).yr (l.drop (i + 1))
  have h4 := versM_len (l[i]).yr (l.take i)
  omega
theorem shown_at {l : List Prs} (h : VerOk l) (i : Nat) (hi : i < l.length) : shownM (l[i]).yr (l[i]).ver l = some (l[i]).st := by
  have e : l = l.take i ++ l.drop i := (List.take_append_drop i l).symm
  have h0 : shownM (l[i]).yr (l[i]).ver (l.take i) = none := shown_none _ fun p hp hq => by
    have hv : VerOk (l.take i) := fun j hj => by
      have hj' : j < i ∧ j < l.length := by rw [List.length_take] at hj; omega
      rw [List.getElem_take]
      rw [h j hj'.2, List.take_take, Nat.min_eq_left (by omega)]
    have h1 := (vers_le hv p hp).1
    have h2 := h i hi
    rw [hq.1] at h1
    omega
  have h1 : shownM (l[i]).yr (l[i]).ver (l.drop i) = some (l[i]).st := by
    rw [List.drop_eq_getElem_cons hi]
    simp [shownM]
  have h2 := shown_app (y := (l[i]).yr) (v := (l[i]).ver) (l.drop i) (l.take i)
  rw [h0, h1, List.take_append_drop] at h2
  exact h2
theorem shown_above {l : List Prs} (h : VerOk l) {y v : Int} (hv : versM y l < v) : shownM y v l = none := shown_none _ fun p hp hq => by
  have := (vers_le h p hp).1
  rw [hq.1] at this
  omega

end Go.Proofs.Ytoccnindkimjdaa
