/- RestatementVersions: versions count on for each year by itself, and presenting again shows the same. -/
import Derived.Test.YtoccnindkimjdaaMHsF
set_option linter.unusedSimpArgs false
set_option linter.unusedVariables false
set_option linter.unusedSimpArgs false
set_option linter.unusedVariables false
namespace Go.Proofs.Ytoccnindkimjdaa
open Go.RowKit Go.Lib Go.Proofs

set_option maxRecDepth 100000 in
set_option maxHeartbeats 16000000 in
theorem lawVersions44_any (v : Value) (n : Nat) (w : World) (hi : IntsAt w v n w.heap.size) (hn : n ≤ 9223372036854775807) :
    Calls Try.prog 7 #[v] w fun e w' => e = .returned (.bool true) ∧ Below w.heap.size w w' := by
  have HNEW := Lib.hid (sNew_any v n w hi hn)
  clear hi hn
  go_enter Try.func7, Try.ntmps7
  go_wp2_with fail
  refine (HNEW.out).mono ?_
  rintro e w1 ⟨rfl, t1, b1⟩
  obtain ⟨tb, htb⟩ : ∃ tb, tb = w.heap.size := ⟨_, rfl⟩
  rw [← htb] at t1 ⊢
  have HMD := Lib.hid (made44_any tb (most := 5) (by omega) w1 t1)
  have HTB := Lib.hid htb
  have HFIN : Hid (∀ W, SI w1 tb W → Below w.heap.size w W) := Lib.hid fun W hW => b1.grown hW.old b1.size (fun q e => by injection e with e; omega)
  clear t1 b1 HNEW htb
  go_wp2_with fail
  refine (HMD.out).mono ?_
  rintro e w2 ⟨h, ul, up, uc, rfl, hm, hat, hsi⟩
  obtain ⟨al, ap, ac, cl, cp, cc, rfl, rfl, rfl⟩ := hat.parts
  obtain ⟨nl, hnl⟩ : ∃ q, q = h.led.length := ⟨_, rfl⟩
  obtain ⟨np, hnp⟩ : ∃ q, q = h.pres.length := ⟨_, rfl⟩
  obtain ⟨nc, hnc⟩ : ∃ q, q = h.cors.length := ⟨_, rfl⟩
  rw [← hnl, ← hnp, ← hnc] at hat ⊢
  have HM := Lib.hid hm
  have HOK := Lib.hid hm.ok
  have HNL := Lib.hid hnl
  have HNP := Lib.hid hnp
  have HNC := Lib.hid hnc
  obtain ⟨w3, hw3⟩ : ∃ W, W = w2.alloc (.cells #[.slice al nl cl, .slice ap np cp, .slice ac nc cc] 31) := ⟨_, rfl⟩
  obtain ⟨bH, hbH⟩ : ∃ b, b = w2.heap.size := ⟨_, rfl⟩
  have XH_w3 : Hid (w3.heap[bH]? = some (.cells #[.slice al nl cl, .slice ap np cp, .slice ac nc cc] 31 (0, 0))) := Lib.hid (by rw [hw3, hbH]; exact heap_alloc_new _ _)
  have S_w3 : Hid (SI w1 tb w3) := Lib.hid (by rw [hw3]; exact hsi.alloc _)
  have A_w3 : Hid (HstAt w3 (.slice al nl cl) (.slice ap np cp) (.slice ac nc cc) h) := Lib.hid (by rw [hw3]; exact hat.below (below_alloc _ _))
  have HNT : Hid (bH ≠ tb) := Lib.hid (by have := hsi.src.lt; omega)
  have HW3 := Lib.hid hw3
  have HBH := Lib.hid hbH
  clear hw3 hbH hm hat hsi hnl hnp hnc HMD
  go_upto_region 3 with fail
  rw [← HW3.out, ← HBH.out]
  go_wp2_with fail
  refine (n_in S_w3.out 4 (by omega) (by omega)).mono ?_
  rintro e w4 ⟨y, rfl, y0, y1, hi4, hg4⟩
  have XH_w4 := Lib.hid (obj_turn XH_w3.out hg4 HNT.out)
  have A_w4 := Lib.hid (A_w3.out.turn S_w3.out.src hg4)
  have B_w4 := Lib.hid (HFIN.out _ hi4)
  clear hi4 hg4 XH_w3 A_w3 S_w3 HFIN
  have HYY : Hid (0 ≤ y ∧ y ≤ 99) := Lib.hid (by omega)
  have HR4 : Hid (0 ≤ y ∧ y < 4) := Lib.hid (by omega)
  obtain ⟨PS, hPS⟩ : ∃ P, P = h.pres := ⟨_, rfl⟩
  have HPE := Lib.hid hPS
  obtain ⟨VM, hVM⟩ : ∃ V : Nat → Int, V = fun k => versM y (PS.take k) := ⟨_, rfl⟩
  have HV0 : Hid (VM 0 = 0) := Lib.hid (by rw [hVM]; rfl)
  have HVN : Hid (VM np = versM y PS) := Lib.hid (by rw [hVM, HNP.out, ← hPS]; show versM y (PS.take PS.length) = _; rw [List.take_length])
  have HVS : Hid (∀ k (hk : k < PS.length), VM (k + 1) = VM k + (if (PS[k]).yr = y then 1 else 0)) := Lib.hid fun k hk => by
    rw [hVM]
    show versM y (PS.take (k + 1)) = _
    rw [List.take_succ_eq_append_getElem hk, versM_snoc]
  have HVB : Hid (∀ k, 0 ≤ VM k ∧ VM k ≤ (k : Int)) := Lib.hid fun k => by
    rw [hVM]
    have h1 := versM_len y (PS.take k)
    have h2 : (PS.take k).length ≤ k := by rw [List.length_take]; omega
    show 0 ≤ versM y (PS.take k) ∧ versM y (PS.take k) ≤ (k : Int)
    exact ⟨h1.1, by omega⟩
  have hnp5 : np ≤ 5 := by have := HM.out.cnt; rw [← HNP.out] at this; omega
  have HN2 : Hid (np = PS.length) := Lib.hid (by rw [hPS]; exact HNP.out)
  have hsh := A_w4.out.pres.shape prsF
  obtain ⟨ap', cp', e1, hcp, hcs⟩ := hsh
  injection e1 with ea e2 ec
  subst ea
  subst ec
  clear e2 hcp
  rw [← HPE.out] at hcs
  have HCS := Lib.hid hcs
  clear hcs hPS hVM
  have hx := XH_w4.out
  have zXH0 := obj_cell hx 0
  have zXH1 := obj_cell hx 1
  have zXH2 := obj_cell hx 2
  clear hx
  simp at zXH0 zXH1 zXH2
  go_wp2
  go_loopw [6, 30] (fun cv iv wr => ∃ k : Nat, cv = .int .i64 (VM k) ∧ iv = .int .i64 k ∧ k ≤ np ∧ Hid (Below w4.heap.size w4 wr)) (fun _ iv _ => np - (RowKit.intOf iv).toNat)
  case atStart => exact ⟨0, by rw [HV0.out], rfl, by omega, Lib.hid (Below.refl _ _)⟩
  case round =>
  clear zXH0 zXH1 zXH2
  obtain ⟨k, rfl, rfl, hkn, L_wr⟩ := hrel
  by_cases hlt : k < np
  · have hkP : k < PS.length := by rw [← HN2.out]; exact hlt
    obtain ⟨b, o, rfl, hb, hcc⟩ := HCS.out (by omega)
    have hcell := fun j (hj : j < 7) => (L_wr.out.cell (p := ⟨b, o + k * 7 + j, none⟩) hb).trans (hcc k hkP j hj)
    have hvs := HVS.out k hkP
    have hvb := HVB.out k
    generalize PS[k] = x at *
    obtain ⟨x0, x1, x2, x3, x4, x5, x6⟩ := x
    simp only at hvs
    have c0 := hcell 0 (by omega)
    have c1 := hcell 1 (by omega)
    have c2 := hcell 2 (by omega)
    have c3 := hcell 3 (by omega)
    have c4 := hcell 4 (by omega)
    have c5 := hcell 5 (by omega)
    have c6 := hcell 6 (by omega)
    simp [prsC] at c0 c1 c2 c3 c4 c5 c6
    have hwk : IntKind.i64.wrap ((k : Int) + 1) = (k : Int) + 1 := IntWalk.i64_in _ (by omega)
    have hwv : IntKind.i64.wrap (VM k + 1) = VM k + 1 := IntWalk.i64_in _ (by omega)
    have hk0 : (0 : Int) ≤ (k : Int) := by omega
    have hk1 : (k : Int) < (np : Int) := by omega
    obtain ⟨w8, hw8⟩ : ∃ W, W = wr.alloc (.cells #[.int .i64 x0, .int .i64 x1, .int .i64 x2, .int .i64 x3, .int .i64 x4, .int .i64 x5, .int .i64 x6] 40) := ⟨_, rfl⟩
    obtain ⟨bQ, hbQ⟩ : ∃ b, b = wr.heap.size := ⟨_, rfl⟩
    have hx8 : w8.heap[bQ]? = some (.cells #[.int .i64 x0, .int .i64 x1, .int .i64 x2, .int .i64 x3, .int .i64 x4, .int .i64 x5, .int .i64 x6] 40 (0, 0)) := by rw [hw8, hbQ]; exact heap_alloc_new _ _
    have HB8 : Hid (Below w4.heap.size w4 w8) := Lib.hid (by rw [hw8]; exact L_wr.out.alloc L_wr.out.size _)
    have e0 := obj_cell hx8 0
    simp at e0
    have HW8 := Lib.hid hw8
    have HBQ := Lib.hid hbQ
    clear hcell hcc hw8 hbQ hx8
    go_upto_region 8 with fail
    rw [← HW8.out, ← HBQ.out]
    clear c0 c1 c2 c3 c4 c5 c6
    by_cases he : x0 = y
    · rw [if_pos he] at hvs
      subst he
      go_wp2
      go_roundw
      case rel => exact ⟨k + 1, by rw [hvs], by first | rfl | go_num, by omega, HB8⟩
      case measure => simp [RowKit.intOf]; omega
    · rw [if_neg he, Int.add_zero] at hvs
      go_wp2
      go_roundw
      case rel => exact ⟨k + 1, by rw [hvs], by first | rfl | go_num, by omega, HB8⟩
      case measure => simp [RowKit.intOf]; omega
  · have hkk : k = np := by omega
    have XH_wr := Lib.hid (obj_below XH_w4.out L_wr.out)
    have A_wr := Lib.hid (A_w4.out.below L_wr.out)
    have B_wr := Lib.hid (B_w4.out.trans (L_wr.out.mono B_w4.out.size))
    clear XH_w4 A_w4 B_w4
    obtain ⟨vn, hvn⟩ : ∃ q, q = versM y PS := ⟨_, rfl⟩
    have hvk : VM k = vn := by rw [hkk, HVN.out, hvn]
    have hvb := HVB.out k
    rw [hvk] at hvb ⊢
    have HVE : Hid (vn = versM y h.pres) := Lib.hid (by rw [hvn, HPE.out])
    have hv5 : 0 ≤ vn ∧ vn ≤ 5 := by omega
    have hw1 : IntKind.i64.wrap (vn + 1) = vn + 1 := IntWalk.i64_in _ (by omega)
    have hw2 : IntKind.i64.wrap (vn + 2) = vn + 2 := IntWalk.i64_in _ (by omega)
    have hw3 : IntKind.i64.wrap (vn + 3) = vn + 3 := IntWalk.i64_in _ (by omega)
    obtain ⟨R, hR⟩ : ∃ R, R = restM y h := ⟨_, rfl⟩
    obtain ⟨s0, s1, s2, s3, s4⟩ := R
    have HRE := Lib.hid hR
    have hcn : h.pres.length ≤ 5 := by rw [← HNP.out]; exact hnp5
    have HP1 : Hid (∀ W : World, HstAt W (.slice al nl cl) (.slice ap np cp) (.slice ac nc cc) h → Calls Try.prog 22 #[.agg #[.slice al nl cl, .slice ap np cp, .slice ac nc cc], .int .i64 y] W fun e w' => ∃ ul up uc, e = .returned (.tuple #[.agg #[ul, up, uc], .agg #[.int .i64 y, .int .i64 (vn + 1), .int .i64 s0, .int .i64 s1, .int .i64 s2, .int .i64 s3, .int .i64 s4], .int .i64 0]) ∧ HstAt w' ul up uc ⟨h.led, h.pres ++ [⟨y, vn + 1, ⟨s0, s1, s2, s3, s4⟩⟩], h.cors⟩ ∧ Below W.heap.size W w') := Lib.hid fun W q => by
      have h1 := rsPresent_ok HOK.out HYY.out (by omega) _ _ _ W q
      rw [← HRE.out, ← HVE.out] at h1
      exact h1
    have HO1 : Hid (HstOk ⟨h.led, h.pres ++ [⟨y, vn + 1, ⟨s0, s1, s2, s3, s4⟩⟩], h.cors⟩) := Lib.hid (HOK.out.addP (p := ⟨y, vn + 1, ⟨s0, s1, s2, s3, s4⟩⟩) HYY.out (by show vn + 1 = versM y h.pres + 1; rw [HVE.out]) (by omega))
    have HV2 : Hid (versM y (h.pres ++ [⟨y, vn + 1, ⟨s0, s1, s2, s3, s4⟩⟩]) = vn + 1) := Lib.hid (by rw [versM_snoc, ← HVE.out]; simp)
    have HP2 : Hid (∀ (vl vp vc : Value) (W : World), HstAt W vl vp vc ⟨h.led, h.pres ++ [⟨y, vn + 1, ⟨s0, s1, s2, s3, s4⟩⟩], h.cors⟩ → Calls Try.prog 22 #[.agg #[vl, vp, vc], .int .i64 y] W fun e w' => ∃ ul up uc, e = .returned (.tuple #[.agg #[ul, up, uc], .agg #[.int .i64 y, .int .i64 (vn + 2), .int .i64 s0, .int .i64 s1, .int .i64 s2, .int .i64 s3, .int .i64 s4], .int .i64 0]) ∧ HstAt w' ul up uc ⟨h.led, (h.pres ++ [⟨y, vn + 1, ⟨s0, s1, s2, s3, s4⟩⟩]) ++ [⟨y, vn + 2, ⟨s0, s1, s2, s3, s4⟩⟩], h.cors⟩ ∧ Below W.heap.size W w') := Lib.hid fun vl vp vc W q => by
      have h1 := rsPresent_ok HO1.out HYY.out (by show (h.pres ++ [_]).length < 20; rw [List.length_append, List.length_singleton]; omega) vl vp vc W q
      have h2 : restM y ⟨h.led, h.pres ++ [⟨y, vn + 1, ⟨s0, s1, s2, s3, s4⟩⟩], h.cors⟩ = ⟨s0, s1, s2, s3, s4⟩ := HRE.out.symm
      rw [h2] at h1
      simp only [HV2.out] at h1
      rw [show vn + 1 + 1 = vn + 2 by omega] at h1
      exact h1
    have HO2 : Hid (HstOk ⟨h.led, (h.pres ++ [⟨y, vn + 1, ⟨s0, s1, s2, s3, s4⟩⟩]) ++ [⟨y, vn + 2, ⟨s0, s1, s2, s3, s4⟩⟩], h.cors⟩) := Lib.hid (HO1.out.addP (p := ⟨y, vn + 2, ⟨s0, s1, s2, s3, s4⟩⟩) HYY.out (by show vn + 2 = versM y (h.pres ++ [_]) + 1; rw [HV2.out]; omega) (by show (h.pres ++ [_]).length < 20; rw [List.length_append, List.length_singleton]; omega))
    obtain ⟨P2, hP2⟩ : ∃ P, P = (h.pres ++ [(⟨y, vn + 1, ⟨s0, s1, s2, s3, s4⟩⟩ : Prs)]) ++ [⟨y, vn + 2, ⟨s0, s1, s2, s3, s4⟩⟩] := ⟨_, rfl⟩
    rw [← hP2] at HO2 HP2
    have HL2 : Hid (P2.length = np + 2) := Lib.hid (by rw [hP2, List.length_append, List.length_append, HNP.out]; rfl)
    have HVL : Hid (versM y P2 = vn + 2) := Lib.hid (by rw [hP2, versM_snoc, HV2.out]; simp; omega)
    have HS1 : Hid (shownM y (vn + 1) P2 = some ⟨s0, s1, s2, s3, s4⟩) := Lib.hid (by
      have h1 := shown_at HO2.out.vers h.pres.length (by show h.pres.length < P2.length; rw [HL2.out, HNP.out]; omega)
      have h2 : P2[h.pres.length]'(by rw [HL2.out, HNP.out]; omega) = ⟨y, vn + 1, ⟨s0, s1, s2, s3, s4⟩⟩ := by
        simp only [hP2, List.append_assoc]
        rw [List.getElem_append_right (Nat.le_refl _)]
        simp
      rw [h2] at h1
      exact h1)
    have HS2 : Hid (shownM y (vn + 2) P2 = some ⟨s0, s1, s2, s3, s4⟩) := Lib.hid (by
      have h1 := shown_at HO2.out.vers (h.pres.length + 1) (by show h.pres.length + 1 < P2.length; rw [HL2.out, HNP.out]; omega)
      have h2 : P2[h.pres.length + 1]'(by rw [HL2.out, HNP.out]; omega) = ⟨y, vn + 2, ⟨s0, s1, s2, s3, s4⟩⟩ := by
        simp only [hP2, List.append_assoc]
        rw [List.getElem_append_right (by omega)]
        simp
      rw [h2] at h1
      exact h1)
    have HS3 : Hid (shownM y (vn + 3) P2 = none) := Lib.hid (shown_above HO2.out.vers (by show versM y P2 < vn + 3; rw [HVL.out]; omega))
    have HSH : Hid (∀ (ul up uc : Value) (q : Int) (W : World), HstAt W ul up uc ⟨h.led, P2, h.cors⟩ → Calls Try.prog 12 #[.agg #[ul, up, uc], .int .i64 y, .int .i64 q] W fun e w' => e = .returned (shR (shownM y q P2)) ∧ Below W.heap.size W w') := Lib.hid fun ul up uc q W g => rsShown_ok HO2.out y q ul up uc W g
    have HSA : Hid (∀ (ul up uc : Value) (W : World), HstAt W ul up uc ⟨h.led, P2, h.cors⟩ → Calls Try.prog 12 #[.agg #[ul, up, uc], .int .i64 y, .int .i64 (vn + 1)] W fun e w' => e = .returned (.tuple #[.agg #[.int .i64 s0, .int .i64 s1, .int .i64 s2, .int .i64 s3, .int .i64 s4], .bool true]) ∧ Below W.heap.size W w') := Lib.hid fun ul up uc W g => by
      have h1 := HSH.out ul up uc (vn + 1) W g
      rw [HS1.out] at h1
      exact h1
    have HSB : Hid (∀ (ul up uc : Value) (W : World), HstAt W ul up uc ⟨h.led, P2, h.cors⟩ → Calls Try.prog 12 #[.agg #[ul, up, uc], .int .i64 y, .int .i64 (vn + 2)] W fun e w' => e = .returned (.tuple #[.agg #[.int .i64 s0, .int .i64 s1, .int .i64 s2, .int .i64 s3, .int .i64 s4], .bool true]) ∧ Below W.heap.size W w') := Lib.hid fun ul up uc W g => by
      have h1 := HSH.out ul up uc (vn + 2) W g
      rw [HS2.out] at h1
      exact h1
    have HSC : Hid (∀ (ul up uc : Value) (W : World), HstAt W ul up uc ⟨h.led, P2, h.cors⟩ → Calls Try.prog 12 #[.agg #[ul, up, uc], .int .i64 y, .int .i64 (vn + 3)] W fun e w' => e = .returned (.tuple #[.agg #[.int .i64 0, .int .i64 0, .int .i64 0, .int .i64 0, .int .i64 0], .bool false]) ∧ Below W.heap.size W w') := Lib.hid fun ul up uc W g => by
      have h1 := HSH.out ul up uc (vn + 3) W g
      rw [HS3.out] at h1
      exact h1
    have HPQ := Lib.hid hP2
    clear hvn hR hcn hP2 hvb hvk hkk HCS HVS HVB HV0 HVN HSH HS1 HS2 HS3
    go_upto_region 11 with fail
    go_cut [9, 10, 11] (fun hv pv ev wx => ∃ (bh bp : Nat) (ala apa aca : Option Addr) (nla cla npa cpa nca cca : Nat), hv = .pointer (some ⟨bh, 0, none⟩) ∧ pv = .pointer (some ⟨bp, 0, none⟩) ∧ ev = .int .i64 0 ∧ npa = np + 1 ∧ Hid (Below wr.heap.size wr wx) ∧ Hid (wx.heap[bh]? = some (.cells #[.slice ala nla cla, .slice apa npa cpa, .slice aca nca cca] 31 (0, 0))) ∧ Hid (wx.heap[bp]? = some (.cells #[.int .i64 y, .int .i64 (vn + 1), .int .i64 s0, .int .i64 s1, .int .i64 s2, .int .i64 s3, .int .i64 s4] 40 (0, 0))) ∧ Hid (HstAt wx (.slice ala nla cla) (.slice apa npa cpa) (.slice aca nca cca) ⟨h.led, h.pres ++ [⟨y, vn + 1, ⟨s0, s1, s2, s3, s4⟩⟩], h.cors⟩))
    case first =>
      have hx := XH_wr.out
      have zXH0 := obj_cell hx 0
      have zXH1 := obj_cell hx 1
      have zXH2 := obj_cell hx 2
      clear hx
      simp at zXH0 zXH1 zXH2
      go_wp2_with fail
      clear zXH0 zXH1 zXH2
      refine (HP1.out _ A_wr.out).mono ?_
      rintro e wm ⟨ul, up, uc, rfl, hat, hb⟩
      obtain ⟨ala, apa, aca, cla, cpa, cca, rfl, rfl, rfl⟩ := hat.parts
      obtain ⟨nla, hnl2⟩ : ∃ q, q = (⟨h.led, h.pres ++ [⟨y, vn + 1, ⟨s0, s1, s2, s3, s4⟩⟩], h.cors⟩ : Hst).led.length := ⟨_, rfl⟩
      obtain ⟨npa, hnp2⟩ : ∃ q, q = (⟨h.led, h.pres ++ [⟨y, vn + 1, ⟨s0, s1, s2, s3, s4⟩⟩], h.cors⟩ : Hst).pres.length := ⟨_, rfl⟩
      obtain ⟨nca, hnc2⟩ : ∃ q, q = (⟨h.led, h.pres ++ [⟨y, vn + 1, ⟨s0, s1, s2, s3, s4⟩⟩], h.cors⟩ : Hst).cors.length := ⟨_, rfl⟩
      rw [← hnl2, ← hnp2, ← hnc2] at hat ⊢
      have HN9 := Lib.hid hnp2
      clear hnl2 hnp2 hnc2
      have hb4 : Below wm.heap.size wm ((wm.alloc (.cells #[.slice ala nla cla, .slice apa npa cpa, .slice aca nca cca] 31)).alloc (.cells #[.int .i64 y, .int .i64 (vn + 1), .int .i64 s0, .int .i64 s1, .int .i64 s2, .int .i64 s3, .int .i64 s4] 40)) := below2 wm _ _
      have HX9 : Hid (((wm.alloc (.cells #[.slice ala nla cla, .slice apa npa cpa, .slice aca nca cca] 31)).alloc (.cells #[.int .i64 y, .int .i64 (vn + 1), .int .i64 s0, .int .i64 s1, .int .i64 s2, .int .i64 s3, .int .i64 s4] 40)).heap[wm.heap.size]? = some (.cells #[.slice ala nla cla, .slice apa npa cpa, .slice aca nca cca] 31 (0, 0))) := Lib.hid (alloc1_at wm _ _)
      have HY9 : Hid (((wm.alloc (.cells #[.slice ala nla cla, .slice apa npa cpa, .slice aca nca cca] 31)).alloc (.cells #[.int .i64 y, .int .i64 (vn + 1), .int .i64 s0, .int .i64 s1, .int .i64 s2, .int .i64 s3, .int .i64 s4] 40)).heap[wm.heap.size + 1]? = some (.cells #[.int .i64 y, .int .i64 (vn + 1), .int .i64 s0, .int .i64 s1, .int .i64 s2, .int .i64 s3, .int .i64 s4] 40 (0, 0))) := Lib.hid (alloc2_at wm _ _)
      have HA9 := Lib.hid (hat.below hb4)
      have HB9 := Lib.hid (hb.trans (hb4.mono hb.size))
      clear hb4 hat hb
      go_wp2
      go_meet
      exact ⟨wm.heap.size, wm.heap.size + 1, ala, apa, aca, _, cla, _, cpa, _, cca, rfl, rfl, rfl, by rw [HN9.out]; show (h.pres ++ [_]).length = np + 1; rw [List.length_append, List.length_singleton, HNP.out], HB9, HX9, HY9, HA9⟩
    case rest =>
    obtain ⟨bha, bpa, ala, apa, aca, nla, cla, npa, cpa, nca, cca, rfl, rfl, rfl, hnpa, HB9, HX9, HY9, HA9⟩ := hcut
    subst hnpa
    obtain ⟨wa, hw9⟩ : ∃ W, W = wc := ⟨_, rfl⟩
    rw [← hw9] at HB9 HX9 HY9 HA9 ⊢
    clear hw9
    have XH_wa := Lib.hid (obj_below XH_wr.out HB9.out)
    have A_wa := Lib.hid (A_wr.out.below HB9.out)
    have B_wa := Lib.hid (B_wr.out.trans (HB9.out.mono B_wr.out.size))
    clear XH_wr A_wr B_wr
    have XHa_wa := HX9
    have XPa_wa := HY9
    have Aa_wa := HA9
    clear HX9 HY9 HA9 HB9
    go_upto_region 12 with fail
    go_cut [12, 13, 14] (fun hv pv ev wx => ∃ (bh bp : Nat) (alb apb acb : Option Addr) (nlb clb npb cpb ncb ccb : Nat), hv = .pointer (some ⟨bh, 0, none⟩) ∧ pv = .pointer (some ⟨bp, 0, none⟩) ∧ ev = .int .i64 0 ∧ npb = np + 2 ∧ Hid (Below wa.heap.size wa wx) ∧ Hid (wx.heap[bh]? = some (.cells #[.slice alb nlb clb, .slice apb npb cpb, .slice acb ncb ccb] 31 (0, 0))) ∧ Hid (wx.heap[bp]? = some (.cells #[.int .i64 y, .int .i64 (vn + 2), .int .i64 s0, .int .i64 s1, .int .i64 s2, .int .i64 s3, .int .i64 s4] 40 (0, 0))) ∧ Hid (HstAt wx (.slice alb nlb clb) (.slice apb npb cpb) (.slice acb ncb ccb) ⟨h.led, P2, h.cors⟩))
    case first =>
      have hx := XHa_wa.out
      have zXHa0 := obj_cell hx 0
      have zXHa1 := obj_cell hx 1
      have zXHa2 := obj_cell hx 2
      clear hx
      simp at zXHa0 zXHa1 zXHa2
      go_wp2_with fail
      clear zXHa0 zXHa1 zXHa2
      refine (HP2.out _ _ _ _ Aa_wa.out).mono ?_
      rintro e wm ⟨ul, up, uc, rfl, hat, hb⟩
      obtain ⟨alb, apb, acb, clb, cpb, ccb, rfl, rfl, rfl⟩ := hat.parts
      obtain ⟨nlb, hnl2⟩ : ∃ q, q = (⟨h.led, P2, h.cors⟩ : Hst).led.length := ⟨_, rfl⟩
      obtain ⟨npb, hnp2⟩ : ∃ q, q = (⟨h.led, P2, h.cors⟩ : Hst).pres.length := ⟨_, rfl⟩
      obtain ⟨ncb, hnc2⟩ : ∃ q, q = (⟨h.led, P2, h.cors⟩ : Hst).cors.length := ⟨_, rfl⟩
      rw [← hnl2, ← hnp2, ← hnc2] at hat ⊢
      have HN9 := Lib.hid hnp2
      clear hnl2 hnp2 hnc2
      have hb4 : Below wm.heap.size wm ((wm.alloc (.cells #[.slice alb nlb clb, .slice apb npb cpb, .slice acb ncb ccb] 31)).alloc (.cells #[.int .i64 y, .int .i64 (vn + 2), .int .i64 s0, .int .i64 s1, .int .i64 s2, .int .i64 s3, .int .i64 s4] 40)) := below2 wm _ _
      have HX9 : Hid (((wm.alloc (.cells #[.slice alb nlb clb, .slice apb npb cpb, .slice acb ncb ccb] 31)).alloc (.cells #[.int .i64 y, .int .i64 (vn + 2), .int .i64 s0, .int .i64 s1, .int .i64 s2, .int .i64 s3, .int .i64 s4] 40)).heap[wm.heap.size]? = some (.cells #[.slice alb nlb clb, .slice apb npb cpb, .slice acb ncb ccb] 31 (0, 0))) := Lib.hid (alloc1_at wm _ _)
      have HY9 : Hid (((wm.alloc (.cells #[.slice alb nlb clb, .slice apb npb cpb, .slice acb ncb ccb] 31)).alloc (.cells #[.int .i64 y, .int .i64 (vn + 2), .int .i64 s0, .int .i64 s1, .int .i64 s2, .int .i64 s3, .int .i64 s4] 40)).heap[wm.heap.size + 1]? = some (.cells #[.int .i64 y, .int .i64 (vn + 2), .int .i64 s0, .int .i64 s1, .int .i64 s2, .int .i64 s3, .int .i64 s4] 40 (0, 0))) := Lib.hid (alloc2_at wm _ _)
      have HA9 := Lib.hid (hat.below hb4)
      have HB9 := Lib.hid (hb.trans (hb4.mono hb.size))
      clear hb4 hat hb
      go_wp2
      go_meet
      exact ⟨wm.heap.size, wm.heap.size + 1, alb, apb, acb, _, clb, _, cpb, _, ccb, rfl, rfl, rfl, by rw [HN9.out]; exact HL2.out, HB9, HX9, HY9, HA9⟩
    case rest =>
    obtain ⟨bhb, bpb, alb, apb, acb, nlb, clb, npb, cpb, ncb, ccb, rfl, rfl, rfl, hnpb, HB9, HX9, HY9, HA9⟩ := hcut
    subst hnpb
    obtain ⟨wb, hw9⟩ : ∃ W, W = wc := ⟨_, rfl⟩
    rw [← hw9] at HB9 HX9 HY9 HA9 ⊢
    clear hw9
    have XH_wb := Lib.hid (obj_below XH_wa.out HB9.out)
    have A_wb := Lib.hid (A_wa.out.below HB9.out)
    have B_wb := Lib.hid (B_wa.out.trans (HB9.out.mono B_wa.out.size))
    have XHa_wb := Lib.hid (obj_below XHa_wa.out HB9.out)
    have XPa_wb := Lib.hid (obj_below XPa_wa.out HB9.out)
    have Aa_wb := Lib.hid (Aa_wa.out.below HB9.out)
    clear XH_wa A_wa B_wa XHa_wa XPa_wa Aa_wa
    have XHb_wb := HX9
    have XPb_wb := HY9
    have Ab_wb := HA9
    clear HX9 HY9 HA9 HB9
    have hx := XHb_wb.out
    have zXHb0 := obj_cell hx 0
    have zXHb1 := obj_cell hx 1
    have zXHb2 := obj_cell hx 2
    clear hx
    simp at zXHb0 zXHb1 zXHb2
    clear HP1 HP2 HPQ
    go_wp2_with fail
    clear zXHb0 zXHb1 zXHb2
    refine (HSA.out _ _ _ _ Ab_wb.out).mono ?_
    rintro e wd ⟨rfl, hbn⟩
    have XH_wd := Lib.hid (obj_below XH_wb.out hbn)
    have A_wd := Lib.hid (A_wb.out.below hbn)
    have B_wd := Lib.hid (B_wb.out.trans (hbn.mono B_wb.out.size))
    have XHa_wd := Lib.hid (obj_below XHa_wb.out hbn)
    have XPa_wd := Lib.hid (obj_below XPa_wb.out hbn)
    have Aa_wd := Lib.hid (Aa_wb.out.below hbn)
    have XHb_wd := Lib.hid (obj_below XHb_wb.out hbn)
    have XPb_wd := Lib.hid (obj_below XPb_wb.out hbn)
    have Ab_wd := Lib.hid (Ab_wb.out.below hbn)
    clear XH_wb A_wb B_wb XHa_wb XPa_wb Aa_wb XHb_wb XPb_wb Ab_wb
    clear hbn
    obtain ⟨we, hwn⟩ : ∃ W, W = wd.alloc (.cells #[.int .i64 s0, .int .i64 s1, .int .i64 s2, .int .i64 s3, .int .i64 s4] 38) := ⟨_, rfl⟩
    obtain ⟨bX, hbb⟩ : ∃ b, b = wd.heap.size := ⟨_, rfl⟩
    have hbn : Below wd.heap.size wd we := by rw [hwn]; exact below_alloc _ _
    have XX_we : Hid (we.heap[bX]? = some (.cells #[.int .i64 s0, .int .i64 s1, .int .i64 s2, .int .i64 s3, .int .i64 s4] 38 (0, 0))) := Lib.hid (by rw [hwn, hbb]; exact heap_alloc_new _ _)
    have XH_we := Lib.hid (obj_below XH_wd.out hbn)
    have A_we := Lib.hid (A_wd.out.below hbn)
    have B_we := Lib.hid (B_wd.out.trans (hbn.mono B_wd.out.size))
    have XHa_we := Lib.hid (obj_below XHa_wd.out hbn)
    have XPa_we := Lib.hid (obj_below XPa_wd.out hbn)
    have Aa_we := Lib.hid (Aa_wd.out.below hbn)
    have XHb_we := Lib.hid (obj_below XHb_wd.out hbn)
    have XPb_we := Lib.hid (obj_below XPb_wd.out hbn)
    have Ab_we := Lib.hid (Ab_wd.out.below hbn)
    clear XH_wd A_wd B_wd XHa_wd XPa_wd Aa_wd XHb_wd XPb_wd Ab_wd
    have HW_we := Lib.hid hwn
    have HP_bX := Lib.hid hbb
    clear hwn hbb hbn
    go_upto_region 14 with fail
    rw [← HW_we.out, ← HP_bX.out]
    have hx := XHb_we.out
    have zXHb0 := obj_cell hx 0
    have zXHb1 := obj_cell hx 1
    have zXHb2 := obj_cell hx 2
    clear hx
    simp at zXHb0 zXHb1 zXHb2
    go_wp2_with fail
    clear zXHb0 zXHb1 zXHb2
    refine (HSB.out _ _ _ _ Ab_we.out).mono ?_
    rintro e wf ⟨rfl, hbn⟩
    have XH_wf := Lib.hid (obj_below XH_we.out hbn)
    have A_wf := Lib.hid (A_we.out.below hbn)
    have B_wf := Lib.hid (B_we.out.trans (hbn.mono B_we.out.size))
    have XHa_wf := Lib.hid (obj_below XHa_we.out hbn)
    have XPa_wf := Lib.hid (obj_below XPa_we.out hbn)
    have Aa_wf := Lib.hid (Aa_we.out.below hbn)
    have XHb_wf := Lib.hid (obj_below XHb_we.out hbn)
    have XPb_wf := Lib.hid (obj_below XPb_we.out hbn)
    have Ab_wf := Lib.hid (Ab_we.out.below hbn)
    have XX_wf := Lib.hid (obj_below XX_we.out hbn)
    clear XH_we A_we B_we XHa_we XPa_we Aa_we XHb_we XPb_we Ab_we XX_we
    clear hbn
    obtain ⟨wg, hwn⟩ : ∃ W, W = wf.alloc (.cells #[.int .i64 s0, .int .i64 s1, .int .i64 s2, .int .i64 s3, .int .i64 s4] 38) := ⟨_, rfl⟩
    obtain ⟨bZ, hbb⟩ : ∃ b, b = wf.heap.size := ⟨_, rfl⟩
    have hbn : Below wf.heap.size wf wg := by rw [hwn]; exact below_alloc _ _
    have XZ_wg : Hid (wg.heap[bZ]? = some (.cells #[.int .i64 s0, .int .i64 s1, .int .i64 s2, .int .i64 s3, .int .i64 s4] 38 (0, 0))) := Lib.hid (by rw [hwn, hbb]; exact heap_alloc_new _ _)
    have XH_wg := Lib.hid (obj_below XH_wf.out hbn)
    have A_wg := Lib.hid (A_wf.out.below hbn)
    have B_wg := Lib.hid (B_wf.out.trans (hbn.mono B_wf.out.size))
    have XHa_wg := Lib.hid (obj_below XHa_wf.out hbn)
    have XPa_wg := Lib.hid (obj_below XPa_wf.out hbn)
    have Aa_wg := Lib.hid (Aa_wf.out.below hbn)
    have XHb_wg := Lib.hid (obj_below XHb_wf.out hbn)
    have XPb_wg := Lib.hid (obj_below XPb_wf.out hbn)
    have Ab_wg := Lib.hid (Ab_wf.out.below hbn)
    have XX_wg := Lib.hid (obj_below XX_wf.out hbn)
    clear XH_wf A_wf B_wf XHa_wf XPa_wf Aa_wf XHb_wf XPb_wf Ab_wf XX_wf
    have HW_wg := Lib.hid hwn
    have HP_bZ := Lib.hid hbb
    clear hwn hbb hbn
    go_upto_region 15 with fail
    rw [← HW_wg.out, ← HP_bZ.out]
    have hx := XHb_wg.out
    have zXHb0 := obj_cell hx 0
    have zXHb1 := obj_cell hx 1
    have zXHb2 := obj_cell hx 2
    clear hx
    simp at zXHb0 zXHb1 zXHb2
    go_wp2_with fail
    clear zXHb0 zXHb1 zXHb2
    refine (HSC.out _ _ _ _ Ab_wg.out).mono ?_
    rintro e wh ⟨rfl, hbn⟩
    have XH_wh := Lib.hid (obj_below XH_wg.out hbn)
    have A_wh := Lib.hid (A_wg.out.below hbn)
    have B_wh := Lib.hid (B_wg.out.trans (hbn.mono B_wg.out.size))
    have XHa_wh := Lib.hid (obj_below XHa_wg.out hbn)
    have XPa_wh := Lib.hid (obj_below XPa_wg.out hbn)
    have Aa_wh := Lib.hid (Aa_wg.out.below hbn)
    have XHb_wh := Lib.hid (obj_below XHb_wg.out hbn)
    have XPb_wh := Lib.hid (obj_below XPb_wg.out hbn)
    have Ab_wh := Lib.hid (Ab_wg.out.below hbn)
    have XX_wh := Lib.hid (obj_below XX_wg.out hbn)
    have XZ_wh := Lib.hid (obj_below XZ_wg.out hbn)
    clear XH_wg A_wg B_wg XHa_wg XPa_wg Aa_wg XHb_wg XPb_wg Ab_wg XX_wg XZ_wg
    clear hbn
    obtain ⟨wi, hwn⟩ : ∃ W, W = wh.alloc (.cells #[.int .i64 0, .int .i64 0, .int .i64 0, .int .i64 0, .int .i64 0] 38) := ⟨_, rfl⟩
    obtain ⟨bN, hbb⟩ : ∃ b, b = wh.heap.size := ⟨_, rfl⟩
    have hbn : Below wh.heap.size wh wi := by rw [hwn]; exact below_alloc _ _
    have XN_wi : Hid (wi.heap[bN]? = some (.cells #[.int .i64 0, .int .i64 0, .int .i64 0, .int .i64 0, .int .i64 0] 38 (0, 0))) := Lib.hid (by rw [hwn, hbb]; exact heap_alloc_new _ _)
    have XH_wi := Lib.hid (obj_below XH_wh.out hbn)
    have A_wi := Lib.hid (A_wh.out.below hbn)
    have B_wi := Lib.hid (B_wh.out.trans (hbn.mono B_wh.out.size))
    have XHa_wi := Lib.hid (obj_below XHa_wh.out hbn)
    have XPa_wi := Lib.hid (obj_below XPa_wh.out hbn)
    have Aa_wi := Lib.hid (Aa_wh.out.below hbn)
    have XHb_wi := Lib.hid (obj_below XHb_wh.out hbn)
    have XPb_wi := Lib.hid (obj_below XPb_wh.out hbn)
    have Ab_wi := Lib.hid (Ab_wh.out.below hbn)
    have XX_wi := Lib.hid (obj_below XX_wh.out hbn)
    have XZ_wi := Lib.hid (obj_below XZ_wh.out hbn)
    clear XH_wh A_wh B_wh XHa_wh XPa_wh Aa_wh XHb_wh XPb_wh Ab_wh XX_wh XZ_wh
    have HW_wi := Lib.hid hwn
    have HP_bN := Lib.hid hbb
    clear hwn hbb hbn
    go_upto_region 16 with fail
    rw [← HW_wi.out, ← HP_bN.out]
    have hws : IntKind.i64.wrap ((np : Int) + 2) = (np : Int) + 2 := IntWalk.i64_in _ (by omega)
    have hx := XH_wi.out
    have zXH0 := obj_cell hx 0
    have zXH1 := obj_cell hx 1
    have zXH2 := obj_cell hx 2
    clear hx
    have hx := XPa_wi.out
    have zXPa0 := obj_cell hx 0
    have zXPa1 := obj_cell hx 1
    have zXPa2 := obj_cell hx 2
    have zXPa3 := obj_cell hx 3
    have zXPa4 := obj_cell hx 4
    have zXPa5 := obj_cell hx 5
    have zXPa6 := obj_cell hx 6
    clear hx
    have hx := XPb_wi.out
    have zXPb0 := obj_cell hx 0
    have zXPb1 := obj_cell hx 1
    have zXPb2 := obj_cell hx 2
    have zXPb3 := obj_cell hx 3
    have zXPb4 := obj_cell hx 4
    have zXPb5 := obj_cell hx 5
    have zXPb6 := obj_cell hx 6
    clear hx
    have hx := XX_wi.out
    have zXX0 := obj_cell hx 0
    have zXX1 := obj_cell hx 1
    have zXX2 := obj_cell hx 2
    have zXX3 := obj_cell hx 3
    have zXX4 := obj_cell hx 4
    clear hx
    have hx := XZ_wi.out
    have zXZ0 := obj_cell hx 0
    have zXZ1 := obj_cell hx 1
    have zXZ2 := obj_cell hx 2
    have zXZ3 := obj_cell hx 3
    have zXZ4 := obj_cell hx 4
    clear hx
    have hx := XHb_wi.out
    have zXHb0 := obj_cell hx 0
    have zXHb1 := obj_cell hx 1
    have zXHb2 := obj_cell hx 2
    clear hx
    simp at zXH0 zXH1 zXH2 zXPa0 zXPa1 zXPa2 zXPa3 zXPa4 zXPa5 zXPa6 zXPb0 zXPb1 zXPb2 zXPb3 zXPb4 zXPb5 zXPb6 zXX0 zXX1 zXX2 zXX3 zXX4 zXZ0 zXZ1 zXZ2 zXZ3 zXZ4 zXHb0 zXHb1 zXHb2
    go_wp2_with fail
    clear zXH0 zXH1 zXH2 zXPa0 zXPa1 zXPa2 zXPa3 zXPa4 zXPa5 zXPa6 zXPb0 zXPb1 zXPb2 zXPb3 zXPb4 zXPb5 zXPb6 zXX0 zXX1 zXX2 zXX3 zXX4 zXZ0 zXZ1 zXZ2 zXZ3 zXZ4 zXHb0 zXHb1 zXHb2
    refine (sane44_true _).mono ?_
    rintro e wj ⟨rfl, hbf⟩
    have HBF := Lib.hid (B_wi.out.trans (hbf.mono B_wi.out.size))
    clear hbf
    go_wp2
    go_ret
    exact ⟨rfl, HBF.out⟩

end Go.Proofs.Ytoccnindkimjdaa
