/- The postings of an account make its cash: the balance of the cash account is the total of the account on each day: for every tape. -/
import Derived.Test.YtoelidndnajedabMLgEn
import Derived.Test.YtoelidndnajedabMLgU
import Derived.Test.YtoelidndnajedabMAcL
set_option linter.unusedSimpArgs false
set_option linter.unusedVariables false
set_option linter.unusedSimpArgs false
set_option linter.unusedVariables false
namespace Go.Proofs.Ytoelidndnajedab
open Go.RowKit Go.Lib Go.Proofs Go.Maps

set_option maxRecDepth 100000 in
set_option maxHeartbeats 32000000 in
theorem lgentries_any (v : Value) (n : Nat) (a : Int) (w : World) (hi : IntsAt w v n w.heap.size) (hn : n ≤ 9223372036854775807) (ha : 0 ≤ a) (ha1 : a ≤ 255) :
    Calls Try.prog 7 #[v, .int .u8 a] w fun e w' => e = .returned (.bool true) ∧ Below w.heap.size w w' := by
  have HNEW := Lib.hid (sNew_any v n w hi hn)
  have HSN := Lib.hid sane40_true
  clear hi hn
  go_enter Try.func7, Try.ntmps7
  go_wp2_with fail
  refine (HNEW.out).mono ?_
  rintro e w1 ⟨rfl, t1, b1⟩
  obtain ⟨tb, htb⟩ : ∃ tb, tb = w.heap.size := ⟨_, rfl⟩
  rw [← htb] at t1 ⊢
  have HACC : Hid (Calls Try.prog 19 #[.pointer (some ⟨tb, 0, none⟩), .int .i64 12] w1 (AccPost tb 12 w1)) := Lib.hid (sAccount_any tb 12 w1 t1 (by decide))
  have HW1 := Lib.hid b1
  have HTB := Lib.hid htb
  clear t1 b1 HNEW htb
  go_wp2_with fail
  refine (HACC.out).mono ?_
  rintro e w2 ⟨A, su, en, rfl, hmd, hs, he, hsi, hcr⟩
  obtain ⟨aS, cS, rfl, -, -⟩ := hs.shape
  obtain ⟨aE, cE, rfl, -, -⟩ := (ents_list.1 he).shape entF
  have HB2 := Lib.hid ((HW1.out).grown hsi.old HW1.out.size (fun q e => by injection e with e; rw [← e, ← HTB.out]; exact Nat.le_refl _))
  have hc := hmd.right
  obtain ⟨dy, hdy⟩ : ∃ m, a.tmod 40 = m := ⟨_, rfl⟩
  have hdy0 : 0 ≤ dy := by rw [← hdy]; exact Int.tmod_nonneg _ ha
  have hdy1 : dy < 40 := by rw [← hdy]; exact Int.tmod_lt_of_pos _ (by omega)
  have hwa : IntKind.i64.wrap a = a := IntWalk.i64_in _ (by omega)
  have hwm : IntKind.i64.wrap dy = dy := IntWalk.i64_in _ (by omega)
  obtain ⟨m, hm, hsum, hbal, hids⟩ := right_day hc dy
  have hml : m.length = 4 := by have h1 := congrArg List.length hids; have h2 := congrArg List.length hmd.ids; simp at h1 h2; omega
  have hok := right_ok hc
  have hlen : A.ents.length ≤ 12 := hmd.len
  obtain ⟨hlk, -⟩ := entsE_ok (ent := 1) (by omega) hok (right_days hc) (by omega)
  obtain ⟨of1, of2, of3⟩ := entsE_of (ent := 1) (k := dy) hok
  have hel := entsE_len 1 1 A.ents A.ents.length (Nat.le_refl _)
  rw [List.take_length] at hel
  have hEN := fun W (hW : Below w2.heap.size w2 W) => lgEntries_right A (.slice aS A.subs.length cS) (.slice aE A.ents.length cE) 1 1 W hc (hs.below hW) (he.below hW) (by omega) (by omega)
  have hAT := fun W (hW : Below w2.heap.size w2 W) => raAt_any A (.slice aS A.subs.length cS) (.slice aE A.ents.length cE) dy W (hs.below hW) (he.below hW) (by have := (plain_credit hc).2.1; omega) (by omega)
  have hFL := fun W (hW : Below w2.heap.size w2 W) => raFlow_any A (.slice aS A.subs.length cS) (.slice aE A.ents.length cE) 0 dy W (hs.below hW) (he.below hW) (by have := (plain_credit hc).2.1; omega) (by omega)
  have hcr50 : 0 ≤ A.credit ∧ A.credit ≤ 50 := by omega
  obtain ⟨fi, hfi⟩ : ∃ x, x = flowI 0 dy A.ents := ⟨_, rfl⟩
  obtain ⟨fo, hfo⟩ : ∃ x, x = flowO 0 dy A.ents := ⟨_, rfl⟩
  rw [← hfi, ← hfo] at of1 hsum
  rw [← hfi] at of2
  rw [← hfo] at of3
  obtain ⟨lp, hlp⟩ : ∃ x, x = entsE 1 1 A.ents := ⟨_, rfl⟩
  rw [← hlp] at hlk of1 of2 of3 hel hEN
  have hol2 := ofM_bound (e := 1) (f := byDay dy) (a := 410) hlk.mem
  have hl12 : lp.length ≤ 12 := by omega
  rw [of2] at hol2
  have HFLQ : Hid (flowM A 0 dy = (fi, fo)) := Lib.hid (by unfold flowM; rw [if_pos hc, hfi, hfo])
  obtain ⟨cr, hcrq⟩ : ∃ x, x = A.credit := ⟨_, rfl⟩
  obtain ⟨nS, hnS⟩ : ∃ x, x = A.subs.length := ⟨_, rfl⟩
  obtain ⟨nE, hnE⟩ : ∃ x, x = A.ents.length := ⟨_, rfl⟩
  rw [← hcrq, ← hnS, ← hnE] at hEN hAT hFL
  rw [← hcrq, ← hnS, ← hnE]
  rw [← hcrq] at hbal hcr50
  have HEN : Hid (∀ W, Below w2.heap.size w2 W → Calls Try.prog 20 #[.agg #[.int .i64 cr, .slice aS nS cS, .slice aE nE cE], .int .i64 1, .int .i64 1] W fun e w' => ∃ (aP : Option Addr) (nP cP : Nat), e = .returned (.slice aP nP cP) ∧ PstsAt w' (.slice aP nP cP) lp ∧ Below W.heap.size W w') := Lib.hid fun W hW => by
    refine (hEN W hW).mono ?_
    rintro e w' ⟨u, h1, h2, h3⟩
    have h4 : PstsAt w' u lp := ListAt.owns h2
    obtain ⟨aX, cX, rfl, -, -⟩ := PstsAt.open h4
    exact ⟨aX, _, cX, h1, h4, h3⟩
  have HAT : Hid (∀ W, Below w2.heap.size w2 W → Calls Try.prog 22 #[.agg #[.int .i64 cr, .slice aS nS cS, .slice aE nE cE], .int .i64 dy] W fun e w' => ∃ (aM : Option Addr) (nM cM : Nat), e = .returned (.slice aM nM cM) ∧ nM = m.length ∧ SubsAt w' (.slice aM nM cM) m ∧ Below W.heap.size W w') := Lib.hid fun W hW => by
    refine (hAT W hW).mono ?_
    intro e w' hp
    unfold RAtPost at hp
    rw [if_pos hc] at hp
    obtain ⟨m', u, h1, h2, h3, h4⟩ := hp
    rw [hm] at h1
    injection h1 with h1
    subst h1
    have h5 : SubsAt w' u m := by unfold SubsAt; exact RowG.owns h3
    obtain ⟨aM, cM, rfl, -, -⟩ := h5.shape
    exact ⟨aM, _, cM, h2, rfl, h5, h4⟩
  have HFL : Hid (∀ W, Below w2.heap.size w2 W → Calls Try.prog 23 #[.agg #[.int .i64 cr, .slice aS nS cS, .slice aE nE cE], .int .i64 0, .int .i64 dy] W fun e w' => e = .returned (.tuple #[.int .i64 fi, .int .i64 fo]) ∧ Below W.heap.size W w') := Lib.hid fun W hW => by
    have g := hFL W hW
    rw [HFLQ.out] at g
    exact g
  have HLK := Lib.hid hlk
  have HO1 := Lib.hid of1
  have HO2 := Lib.hid of2
  have HO3 := Lib.hid of3
  have HBAL := Lib.hid hbal
  have HSUM := Lib.hid hsum
  have HML := Lib.hid hml
  obtain ⟨w3, hw3⟩ : ∃ w3, w3 = w2.alloc (.cells #[.int .i64 cr, .slice aS nS cS, .slice aE nE cE] 56) := ⟨_, rfl⟩
  obtain ⟨bA, hbA⟩ : ∃ x, x = w2.heap.size := ⟨_, rfl⟩
  have HX3 : Hid (w3.heap[bA]? = some (.cells #[.int .i64 cr, .slice aS nS cS, .slice aE nE cE] 56 (0, 0))) := Lib.hid (by rw [hw3, hbA]; exact heap_alloc_new _ _)
  have HD3 : Hid (Below w2.heap.size w2 w3) := Lib.hid (by rw [hw3]; exact below_alloc _ _)
  have HW3 := Lib.hid hw3
  have HBA := Lib.hid hbA
  clear hw3 hbA hs he hsi hcr hc hm hsum hbal hids hok hlen hlk of1 of2 of3 hel hEN hAT hFL hfi hfo hlp hml HACC ha hmd hnS hnE hcrq HFLQ
  go_upto_region 3 with fail
  rw [← HW3.out, ← HBA.out]
  have hx := HX3.out
  have u0 := obj_cell hx 0
  have u1 := obj_cell hx 1
  have u2 := obj_cell hx 2
  simp at u0 u1 u2
  clear hx HW3 HBA
  go_wp2_with fail
  refine (HEN.out _ HD3.out).mono ?_
  rintro e w4 ⟨aP, nP, cP, rfl, hlx, hb4⟩
  obtain ⟨w5, hw5⟩ : ∃ x, x = w4.alloc (.cells #[.slice aP nP cP] 28) := ⟨_, rfl⟩
  obtain ⟨bL, hbL⟩ : ∃ x, x = w4.heap.size := ⟨_, rfl⟩
  have HXL : Hid (w5.heap[bL]? = some (.cells #[.slice aP nP cP] 28 (0, 0))) := Lib.hid (by rw [hw5, hbL]; exact heap_alloc_new _ _)
  have HB35 : Hid (Below w3.heap.size w3 w5) := Lib.hid (by rw [hw5]; exact hb4.alloc hb4.size _)
  have HD5 := Lib.hid (HD3.out.trans (HB35.out.mono HD3.out.size))
  have HLX : Hid (PstsAt w5 (.slice aP nP cP) lp) := Lib.hid (by rw [hw5]; exact ListAt.below hlx (below_alloc _ _))
  have HX5 := Lib.hid (obj_below HX3.out HB35.out)
  have HW5 := Lib.hid hw5
  have HBL := Lib.hid hbL
  clear hw5 hbL hlx hb4 u0 u1 u2 HEN HX3
  go_upto_region 4 with fail
  rw [← HW5.out, ← HBL.out]
  have hx := HXL.out
  have u0 := obj_cell hx 0
  simp at u0
  clear hx HW5 HBL
  go_wp2_with fail
  refine (lgCheck_right HLK.out _ w5 HLX.out).mono ?_
  rintro e w6 ⟨rfl, hb6⟩
  have HB6 := Lib.hid hb6
  have HD6 := Lib.hid (HD5.out.trans (hb6.mono HD5.out.size))
  have hx := obj_below HX5.out hb6
  have z0 := obj_cell hx 0
  have z1 := obj_cell hx 1
  have z2 := obj_cell hx 2
  simp at z0 z1 z2
  clear hx hb6 u0
  go_wp2_with fail
  refine (HAT.out _ HD6.out).mono ?_
  rintro e w7 ⟨aM, nM, cM, rfl, hnM, hsm, hb7⟩
  have HB7 := Lib.hid (HB6.out.trans (hb7.mono HB6.out.size))
  obtain ⟨aM', cM', hme, hmcap, hms⟩ := hsm.shape
  injection hme with hme1 hme2 hme3
  subst hme1 hme3
  have HMS := Lib.hid hms
  rw [← hnM] at hmcap
  have HNM := Lib.hid hnM
  have hnm4 : nM = 4 := by rw [hnM, HML.out]
  clear hnM hsm hb7 hme2 hms z0 z1 z2
  go_wp2
  go_loopw [9, 31] (fun sv iv wi => ∃ (j : Nat) (s : Int), sv = .int .i64 s ∧ iv = .int .i64 j ∧ j ≤ nM ∧ Hid (s = sumM (m.take j)) ∧ (-50 * (j : Int) ≤ s ∧ s ≤ 1000000000000000 * (j : Int)) ∧ Hid (Below w7.heap.size w7 wi)) (fun _ iv _ => nM - (RowKit.intOf iv).toNat)
  case atStart => exact ⟨0, 0, rfl, rfl, by omega, Lib.hid rfl, by simp, Lib.hid (Below.refl _ _)⟩
  case round =>
    obtain ⟨j, s, rfl, rfl, hjn, HS, hs, HBI⟩ := hrel
    by_cases hlt : j < nM
    · have hjl : j < m.length := by rw [← HNM.out]; exact hlt
      obtain ⟨b, o, rfl, hb, hcc⟩ := HMS.out (by omega)
      have c0 : wr.cell? ⟨b, o + j * 2, none⟩ = some (.int .i64 (subAt m j).id) := (HBI.out.cell (p := ⟨b, o + j * 2, none⟩) hb).trans (hcc j hjl).1
      have c1 : wr.cell? ⟨b, o + j * 2 + 1, none⟩ = some (.int .i64 (subAt m j).bal) := (HBI.out.cell (p := ⟨b, o + j * 2 + 1, none⟩) hb).trans (hcc j hjl).2
      have hbb := HBAL.out _ (List.getElem_mem hjl)
      rw [← subAt_get hjl] at hbb
      have hbb2 : -50 ≤ (subAt m j).bal ∧ (subAt m j).bal ≤ 1000000000000000 := by
        obtain ⟨h1, h2⟩ := hbb
        rcases h1 with h1 | h1 <;> omega
      have HI : Hid (s + (subAt m j).bal = sumM (m.take (j + 1))) := Lib.hid (by rw [sumM_take j hjl, ← HS.out])
      clear hbb
      generalize (subAt m j).id = x at *
      generalize (subAt m j).bal = y at *
      have HBK := Lib.hid (HBI.out.alloc HBI.out.size (.cells #[.int .i64 x, .int .i64 y] 62))
      have hj0 : (0 : Int) ≤ (j : Int) := by omega
      have hj1 : (j : Int) < (nM : Int) := by omega
      have hws : IntKind.i64.wrap (s + y) = s + y := IntWalk.i64_in _ (by omega)
      clear hcc
      go_wp2
      go_roundw
      case rel => exact ⟨j + 1, s + y, rfl, by first | rfl | go_num, by omega, HI, by omega, HBK⟩
      case measure => simp [RowKit.intOf]; omega
    · obtain rfl : j = nM := by omega
      have hsq : s = fi - fo := by rw [HS.out, show m.take j = m by rw [HNM.out, List.take_length], HSUM.out]
      have HB8 := Lib.hid (HB7.out.trans (HBI.out.mono HB7.out.size))
      have HD8 := Lib.hid (HD5.out.trans (HB8.out.mono HD5.out.size))
      have hx := obj_below HX5.out HB8.out
      have u0 := obj_cell hx 0
      have u1 := obj_cell hx 1
      have u2 := obj_cell hx 2
      simp at u0 u1 u2
      clear hx
      go_wp2_with fail
      refine (HFL.out _ HD8.out).mono ?_
      rintro e w9 ⟨rfl, hb9⟩
      have HB9 := Lib.hid (HB8.out.trans (hb9.mono HB8.out.size))
      have hO1 := fun W (hW : Below w5.heap.size w5 W) => lgOf_right HLK.out 1 110 dy (.slice aP nP cP) W (ListAt.below HLX.out hW) (by omega) (by omega)
      have hO2 := fun W (hW : Below w5.heap.size w5 W) => lgOf_right HLK.out 1 410 dy (.slice aP nP cP) W (ListAt.below HLX.out hW) (by omega) (by omega)
      have hO3 := fun W (hW : Below w5.heap.size w5 W) => lgOf_right HLK.out 1 510 dy (.slice aP nP cP) W (ListAt.below HLX.out hW) (by omega) (by omega)
      rw [HO1.out, ← hsq] at hO1
      rw [HO2.out] at hO2
      rw [HO3.out] at hO3
      have HOA := Lib.hid hO1
      have HOB := Lib.hid hO2
      have HOC := Lib.hid hO3
      have hng : IntKind.i64.wrap (-(-fi)) = fi := by rw [Int.neg_neg]; exact IntWalk.i64_in _ (by omega)
      have hng2 : -(-fi) = fi := Int.neg_neg fi
      have hx := obj_below HXL.out HB9.out
      have v0 := obj_cell hx 0
      simp at v0
      clear hx hO1 hO2 hO3 u0 u1 u2 hb9 hsq
      go_wp2_with fail
      refine (HOA.out _ HB9.out).mono ?_
      rintro e w10 ⟨rfl, hb10⟩
      have HB10 := Lib.hid (HB9.out.trans (hb10.mono HB9.out.size))
      have hx := obj_below HXL.out HB10.out
      have x0 := obj_cell hx 0
      simp at x0
      clear hx hb10 v0
      go_wp2_with fail
      refine (HOB.out _ HB10.out).mono ?_
      rintro e w11 ⟨rfl, hb11⟩
      have HB11 := Lib.hid (HB10.out.trans (hb11.mono HB10.out.size))
      have hx := obj_below HXL.out HB11.out
      have y0 := obj_cell hx 0
      simp at y0
      clear hx hb11 x0
      go_wp2_with fail
      refine (HOC.out _ HB11.out).mono ?_
      rintro e w12 ⟨rfl, hb12⟩
      have HB12 := Lib.hid (HB11.out.trans (hb12.mono HB11.out.size))
      clear hb12 y0
      go_wp2_with fail
      refine (HSN.out _).mono ?_
      rintro e w13 ⟨rfl, hb13⟩
      have HB13 := Lib.hid (HD5.out.trans ((HB12.out.trans (hb13.mono HB12.out.size)).mono HD5.out.size))
      clear hb13
      go_wp2
      go_ret
      exact ⟨rfl, HB2.out.trans (HB13.out.mono HB2.out.size)⟩

end Go.Proofs.Ytoelidndnajedab
