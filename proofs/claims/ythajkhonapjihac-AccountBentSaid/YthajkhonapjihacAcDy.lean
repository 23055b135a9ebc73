/- Balances of a day: what the entries make, flows that add up, no balance but the main one below 0: for every tape and day. -/
import Derived.Test.YthajkhonapjihacAcNu
set_option linter.unusedSimpArgs false
set_option linter.unusedVariables false
namespace Go.Proofs.Ythajkhonapjihac
open Go.RowKit Go.Lib Go.Proofs

theorem flowIO_bound {a : Acc} (h : checkM a = 0) (lo hi : Int) : (0 ≤ flowI lo hi a.ents ∧ flowI lo hi a.ents ≤ 400000000000000) ∧ (0 ≤ flowO lo hi a.ents ∧ flowO lo hi a.ents ≤ 400000000000000) := by
  have h1 := inL_bound (l := a.ents.filter fun e => decide (lo ≤ e.day) && decide (e.day ≤ hi)) (fun e he => right_amt h e (List.mem_filter.1 he).1)
  obtain ⟨e1, e2⟩ := flow_filter lo hi a.ents
  rw [e1, e2] at h1
  have h2 : (a.ents.filter fun e => decide (lo ≤ e.day) && decide (e.day ≤ hi)).length ≤ 400 := Nat.le_trans (List.length_filter_le _ _) (checkM_zero.1 h).2.1
  omega
theorem flowM_right {a : Acc} (h : checkM a = 0) (lo hi : Int) : flowM a lo hi = (flowI lo hi a.ents, flowO lo hi a.ents) := if_pos h
theorem right_atday {a : Acc} (h : checkM a = 0) (k : Int) : ∃ m, carryL (emptyM a.subs) (a.ents.filter fun e => decide (e.day ≤ k)) = m ∧ sumM m = flowI 0 k a.ents - flowO 0 k a.ents ∧ Bals a.credit m ∧ m.length = a.subs.length := by
  obtain ⟨m, h1, h2, h3, h4⟩ := right_day h k
  rw [right_carry h k] at h1
  injection h1 with h1
  exact ⟨m, h1, h2, h3, len_of_ids h4⟩
theorem right_atend {a : Acc} (h : checkM a = 0) : carryL (emptyM a.subs) (a.ents.filter fun e => decide (e.day ≤ 36000)) = a.subs := by
  have h1 := right_carry h 36000
  rw [(checkM_zero.1 h).2.2.2.2] at h1
  injection h1 with h1
  exact h1.symm

set_option maxRecDepth 100000 in
set_option maxHeartbeats 32000000 in
theorem acdays_any (v : Value) (n : Nat) (d : Int) (w : World) (hi : IntsAt w v n w.heap.size) (hn : n ≤ 9223372036854775807) (hd0 : 0 ≤ d) (hd1 : d ≤ 255) :
    Calls Try.prog 4 #[v, .int .u8 d] w fun e w' => e = .returned (.bool true) ∧ Below w.heap.size w w' := by
  have HNEW := Lib.hid (sNew_any v n w hi hn)
  have HSN := Lib.hid sane23_true
  clear hi hn
  have hwd : IntKind.i64.wrap d = d := IntWalk.i64_in _ (by omega)
  have hj0 : 0 ≤ d.tmod 40 := Int.tmod_nonneg 40 hd0
  have hj1 : d.tmod 40 < 40 := Int.tmod_lt_of_pos d (by omega)
  have hwk : IntKind.i64.wrap (d.tmod 40) = d.tmod 40 := IntWalk.i64_in _ (by omega)
  go_enter Try.func4, Try.ntmps4
  go_wp2_with fail
  refine (HNEW.out).mono ?_
  rintro e w1 ⟨rfl, t1, b1⟩
  obtain ⟨tb, htb⟩ : ∃ tb, tb = w.heap.size := ⟨_, rfl⟩
  rw [← htb] at t1 ⊢
  have HACC : Hid (Calls Try.prog 17 #[.pointer (some ⟨tb, 0, none⟩), .int .i64 12] w1 (AccPost tb 12 w1)) := Lib.hid (sAccount_any tb 12 w1 t1 (by decide))
  have HW1 := Lib.hid b1
  have HTB := Lib.hid htb
  clear t1 b1 HNEW htb
  go_wp2_with fail
  refine (HACC.out).mono ?_
  rintro e w2 ⟨a, su, en, rfl, hmd, hs, he, hsi, hcr⟩
  obtain ⟨s, hsl⟩ : ∃ s, s = a.subs.length := ⟨_, rfl⟩
  obtain ⟨m, hml⟩ : ∃ m, m = a.ents.length := ⟨_, rfl⟩
  obtain ⟨cr, hcrl⟩ : ∃ cr, cr = a.credit := ⟨_, rfl⟩
  obtain ⟨aS, cS, rfl, -, -⟩ := hs.shape
  obtain ⟨aE, cE, rfl, -, -⟩ := he.shape
  rw [← hsl] at hs
  rw [← hml] at he
  rw [← hcrl] at hcr
  rw [← hsl, ← hml, ← hcrl]
  have HB2 := Lib.hid ((HW1.out).grown hsi.old HW1.out.size (fun q e => by injection e with e; rw [← e, ← HTB.out]; exact Nat.le_refl _))
  have HSU : Hid (SubsAt (w2.alloc (.cells #[.int .i64 cr, .slice aS s cS, .slice aE m cE] 28)) (.slice aS s cS) a.subs) := Lib.hid (hs.below (below_alloc _ _))
  have HEN : Hid (EntsAt (w2.alloc (.cells #[.int .i64 cr, .slice aS s cS, .slice aE m cE] 28)) (.slice aE m cE) a.ents) := Lib.hid (he.below (below_alloc _ _))
  have HBX : Hid ((w2.alloc (.cells #[.int .i64 cr, .slice aS s cS, .slice aE m cE] 28)).heap[w2.heap.size]? = some (.cells #[.int .i64 cr, .slice aS s cS, .slice aE m cE] 28 (0, 0))) := Lib.hid (heap_alloc_new _ _)
  have HB3 := Lib.hid (HB2.out.alloc HB2.out.size (.cells #[.int .i64 cr, .slice aS s cS, .slice aE m cE] 28))
  have HOK := Lib.hid hmd.right
  have hz := checkM_zero.1 hmd.right
  have HSL := Lib.hid hsl
  have HML := Lib.hid hml
  have HCR := Lib.hid hcrl
  have hc0 : 0 ≤ cr := by omega
  have hc1 : cr ≤ 50 := by omega
  have hm10 : m ≤ 400 := by rw [hml]; exact hz.2.1
  have hs20 : s ≤ 20 := by rw [hsl]; exact hz.1
  clear hs he hsi hmd hcr hz hsl hml hcrl HACC HB2
  go_upto_region 4 with fail
  clear hj0 hj1 hwk
  have hk0 : 0 ≤ d % 40 := Int.emod_nonneg d (by omega)
  have hk1 : d % 40 < 40 := Int.emod_lt_of_pos d (by omega)
  generalize d % 40 = k at *
  generalize w2.heap.size = bA at *
  generalize w2.alloc (.cells #[.int .i64 cr, .slice aS s cS, .slice aE m cE] 28) = w3 at *
  have HJ0 : Hid (Below w3.heap.size w3 w3) := Lib.hid (Below.refl _ _)
  have HCL : Hid (∀ W, Below w3.heap.size w3 W → ∀ i, W.cell? ⟨bA, i, none⟩ = #[.int .i64 cr, .slice aS s cS, .slice aE m cE][i]?) := Lib.hid fun W hW i => obj_cell (obj_below HBX.out hW) i
  have HAT : Hid (∀ (q : Int) W, Below w3.heap.size w3 W → Calls Try.prog 18 #[.agg #[.int .i64 cr, .slice aS s cS, .slice aE m cE], .int .i64 q] W fun e w' => ∃ v, e = .returned v ∧ w'.ownsRow W.heap.size 41 2 v s (cellsU (carryL (emptyM a.subs) (a.ents.filter fun e => decide (e.day ≤ q)))) ∧ Below W.heap.size W w') := Lib.hid fun q W hW => by
    have h := acAt_any a (.slice aS s cS) (.slice aE m cE) q W (HSU.out.below hW) (HEN.out.below hW) (by rw [← HSL.out]; omega) (by rw [← HML.out]; omega)
    unfold AtPost at h
    simp only [if_pos HOK.out] at h
    rw [← HCR.out, ← HSL.out] at h
    exact h
  have HFL : Hid (∀ (lo hi : Int) W, Below w3.heap.size w3 W → Calls Try.prog 13 #[.agg #[.int .i64 cr, .slice aS s cS, .slice aE m cE], .int .i64 lo, .int .i64 hi] W fun e w' => e = .returned (.tuple #[.int .i64 (flowI lo hi a.ents), .int .i64 (flowO lo hi a.ents)]) ∧ Below W.heap.size W w') := Lib.hid fun lo hi W hW => by
    have h := acFlow_any a (.slice aS s cS) (.slice aE m cE) lo hi W (HSU.out.below hW) (HEN.out.below hW) (by rw [← HSL.out]; omega) (by rw [← HML.out]; omega)
    rw [flowM_right HOK.out, ← HCR.out] at h
    exact h
  obtain ⟨l, hl, hsum, hbal, hlen⟩ := right_atday HOK.out k
  obtain ⟨i1, hi1⟩ : ∃ x, x = flowI 0 k a.ents := ⟨_, rfl⟩
  obtain ⟨o1, ho1⟩ : ∃ x, x = flowO 0 k a.ents := ⟨_, rfl⟩
  obtain ⟨i2, hi2⟩ : ∃ x, x = flowI (k + 1) 36000 a.ents := ⟨_, rfl⟩
  obtain ⟨o2, ho2⟩ : ∃ x, x = flowO (k + 1) 36000 a.ents := ⟨_, rfl⟩
  have HAT1 : Hid (∀ W, Below w3.heap.size w3 W → Calls Try.prog 18 #[.agg #[.int .i64 cr, .slice aS s cS, .slice aE m cE], .int .i64 k] W fun e w' => ∃ v, e = .returned v ∧ w'.ownsRow W.heap.size 41 2 v s (cellsU l) ∧ Below W.heap.size W w') := Lib.hid fun W hW => by rw [← hl]; exact HAT.out k W hW
  have HAT2 : Hid (∀ W, Below w3.heap.size w3 W → Calls Try.prog 18 #[.agg #[.int .i64 cr, .slice aS s cS, .slice aE m cE], .int .i64 36000] W fun e w' => ∃ v, e = .returned v ∧ w'.ownsRow W.heap.size 41 2 v s (cellsU a.subs) ∧ Below W.heap.size W w') := Lib.hid fun W hW => by
    have h := HAT.out 36000 W hW
    rw [right_atend HOK.out] at h
    exact h
  have HF1 : Hid (∀ W, Below w3.heap.size w3 W → Calls Try.prog 13 #[.agg #[.int .i64 cr, .slice aS s cS, .slice aE m cE], .int .i64 0, .int .i64 k] W fun e w' => e = .returned (.tuple #[.int .i64 i1, .int .i64 o1]) ∧ Below W.heap.size W w') := Lib.hid fun W hW => by rw [hi1, ho1]; exact HFL.out 0 k W hW
  have HF2 : Hid (∀ W, Below w3.heap.size w3 W → Calls Try.prog 13 #[.agg #[.int .i64 cr, .slice aS s cS, .slice aE m cE], .int .i64 (k + 1), .int .i64 36000] W fun e w' => e = .returned (.tuple #[.int .i64 i2, .int .i64 o2]) ∧ Below W.heap.size W w') := Lib.hid fun W hW => by rw [hi2, ho2]; exact HFL.out (k + 1) 36000 W hW
  have HF3 : Hid (∀ W, Below w3.heap.size w3 W → Calls Try.prog 13 #[.agg #[.int .i64 cr, .slice aS s cS, .slice aE m cE], .int .i64 0, .int .i64 36000] W fun e w' => e = .returned (.tuple #[.int .i64 (i1 + i2), .int .i64 (o1 + o2)]) ∧ Below W.heap.size W w') := Lib.hid fun W hW => by
    rw [hi1, ho1, hi2, ho2, flowI_split 0 k 36000 (by omega) (by omega), flowO_split 0 k 36000 (by omega) (by omega)]
    exact HFL.out 0 36000 W hW
  obtain ⟨⟨b1, b2⟩, b3, b4⟩ := flowIO_bound HOK.out 0 k
  obtain ⟨⟨b5, b6⟩, b7, b8⟩ := flowIO_bound HOK.out (k + 1) 36000
  rw [← hi1] at b1 b2
  rw [← ho1] at b3 b4
  rw [← hi2] at b5 b6
  rw [← ho2] at b7 b8
  rw [← hi1, ← ho1] at hsum
  have HSUM := Lib.hid hsum
  have HBAL : Hid (Bals cr l) := Lib.hid (by rw [HCR.out]; exact hbal)
  have HLS : Hid (l.length = s) := Lib.hid (hlen.trans HSL.out.symm)
  have hbx := HCL.out _ HJ0.out
  have u0 := hbx 0
  have u1 := hbx 1
  have u2 := hbx 2
  simp at u0 u1 u2
  clear hl hsum hbal hlen hi1 ho1 hi2 ho2 HAT HFL hbx
  go_wp2_with fail
  with_reducible refine (HAT1.out _ HJ0.out).mono ?_
  rintro e w4 ⟨vl, rfl, hown4, hb4⟩
  have HB4 := Lib.hid hb4
  have HV4 : Hid (SubsAt w4 vl l) := Lib.hid (by unfold SubsAt; rw [HLS.out]; exact RowG.owns hown4)
  obtain ⟨al, cl, rfl, hcl, hcs⟩ := HV4.out.shape
  rw [HLS.out] at hcl
  have HCS := Lib.hid hcs
  rw [HLS.out]
  clear hown4 hb4 hcs HAT1 HJ0 u0 u1 u2
  go_wp2
  go_loopw [9, 30] (fun x i wr => ∃ (j : Nat) (t : Int), x = .int .i64 t ∧ i = .int .i64 j ∧ j ≤ s ∧ Hid (t = sumM (l.take j)) ∧ (-1000000000000 * (j : Int) ≤ t ∧ t ≤ 1000000000000000 * (j : Int)) ∧ Hid (Below w4.heap.size w4 wr)) (fun _ i _ => s - (RowKit.intOf i).toNat)
  case atStart => exact ⟨0, 0, rfl, rfl, by omega, Lib.hid rfl, by simp, Lib.hid (Below.refl _ _)⟩
  case round =>
    obtain ⟨j, t, rfl, rfl, hjs, HT, ht, HB⟩ := hrel
    by_cases hlt : j < s
    · have hjl : j < l.length := by rw [HLS.out]; exact hlt
      obtain ⟨b, o, rfl, hb, hcc⟩ := HCS.out (by omega)
      have c0 : wr.cell? ⟨b, o + j * 2, none⟩ = some (.int .i64 (subAt l j).id) := (HB.out.cell (p := ⟨b, o + j * 2, none⟩) hb).trans (hcc j hjl).1
      have c1 : wr.cell? ⟨b, o + j * 2 + 1, none⟩ = some (.int .i64 (subAt l j).bal) := (HB.out.cell (p := ⟨b, o + j * 2 + 1, none⟩) hb).trans (hcc j hjl).2
      have hbb := HBAL.out _ (List.getElem_mem hjl)
      rw [← subAt_get hjl] at hbb
      obtain ⟨hbl, hbh⟩ := hbb
      have HI : Hid (t + (subAt l j).bal = sumM (l.take (j + 1))) := Lib.hid (by rw [sumM_take j hjl, ← HT.out])
      generalize (subAt l j).id = x at *
      generalize (subAt l j).bal = y at *
      have HBR := Lib.hid (HB4.out.trans (HB.out.mono HB4.out.size))
      have hbx := HCL.out _ HBR.out
      have u0 := hbx 0
      simp at u0
      have hbA : bA < wr.heap.size := Nat.lt_of_lt_of_le (obj_lt HBX.out) HBR.out.size
      have HB2 := Lib.hid (HB.out.alloc HB.out.size (.cells #[.int .i64 x, .int .i64 y] 41))
      have hj0 : (0 : Int) ≤ (j : Int) := by omega
      have hj1 : (j : Int) < (s : Int) := by omega
      have hyl : -1000000000000 ≤ y := by omega
      clear hcc hbx
      by_cases hy : y < 0
      · have hx : x = 1 := by omega
        have hcy : ¬ y < -cr := by omega
        subst hx
        clear hbl
        go_wp2
        go_roundw
        case rel => exact ⟨j + 1, t + y, rfl, by first | rfl | go_num, by omega, HI, by omega, HB2⟩
        case measure => simp [RowKit.intOf]; omega
      · clear hbl
        go_wp2
        go_roundw
        case rel => exact ⟨j + 1, t + y, rfl, by first | rfl | go_num, by omega, HI, by omega, HB2⟩
        case measure => simp [RowKit.intOf]; omega
    · obtain rfl : j = s := by omega
      obtain rfl : t = i1 - o1 := by rw [HT.out, ← HLS.out, List.take_length]; exact HSUM.out
      have HBR := Lib.hid (HB4.out.trans (HB.out.mono HB4.out.size))
      have hbx := HCL.out _ HBR.out
      have u0 := hbx 0
      have u1 := hbx 1
      have u2 := hbx 2
      simp at u0 u1 u2
      clear hbx
      go_wp2_with fail
      refine (HF1.out _ HBR.out).mono ?_
      rintro e w5 ⟨rfl, hb5⟩
      have HB5 := Lib.hid (HBR.out.trans (hb5.mono HBR.out.size))
      have hbx := HCL.out _ HB5.out
      have v0 := hbx 0
      have v1 := hbx 1
      have v2 := hbx 2
      simp at v0 v1 v2
      clear hbx hb5 u0 u1 u2
      go_wp2_with fail
      refine (HF2.out _ HB5.out).mono ?_
      rintro e w6 ⟨rfl, hb6⟩
      have HB6 := Lib.hid (HB5.out.trans (hb6.mono HB5.out.size))
      have hbx := HCL.out _ HB6.out
      have u0 := hbx 0
      have u1 := hbx 1
      have u2 := hbx 2
      simp at u0 u1 u2
      clear hbx hb6 v0 v1 v2
      go_wp2_with fail
      refine (HF3.out _ HB6.out).mono ?_
      rintro e w7 ⟨rfl, hb7⟩
      have HB7 := Lib.hid (HB6.out.trans (hb7.mono HB6.out.size))
      clear hb7 u0 u1 u2
      go_upto_region 16 with fail
      have HJ : Hid (∀ W, Below w3.heap.size w3 W → Below w3.heap.size w3 W.drew) := Lib.hid fun W hW => hW.drew
      have hw1 : IntKind.i64.wrap (i1 - o1) = i1 - o1 := IntWalk.i64_in _ (by omega)
      have hw2 : IntKind.i64.wrap (i1 + i2) = i1 + i2 := IntWalk.i64_in _ (by omega)
      have hw3 : IntKind.i64.wrap (o1 + o2) = o1 + o2 := IntWalk.i64_in _ (by omega)
      obtain ⟨J, hJ⟩ : ∃ J, J = fun W : World => Below w3.heap.size w3 W := ⟨_, rfl⟩
      have HJO : Hid (∀ W, J W → Below w3.heap.size w3 W) := Lib.hid fun W hW => by rw [hJ] at hW; exact hW
      have HJI : Hid (∀ W, Below w3.heap.size w3 W → J W) := Lib.hid fun W hW => by rw [hJ]; exact hW
      have HJD : Hid (∀ W, J W → J W.drew) := Lib.hid fun W hW => HJI.out _ ((HJO.out W hW).drew)
      have HS : Hid (∀ W, J W → ∀ i, W.cell? ⟨bA, i, none⟩ = #[.int .i64 cr, .slice aS j cS, .slice aE m cE][i]?) := Lib.hid fun W hW => HCL.out W (HJO.out W hW)
      have HC1 : Hid (∀ W, J W → Calls Try.prog 18 #[.agg #[.int .i64 cr, .slice aS j cS, .slice aE m cE], .int .i64 36000] W fun e w' => ∃ v, e = .returned v ∧ Hid (SubsAt w' v a.subs) ∧ J w') := Lib.hid fun W hW => by
        refine (HAT2.out W (HJO.out W hW)).mono ?_
        rintro e w' ⟨v, h1, h2, h3⟩
        exact ⟨v, h1, Lib.hid (by unfold SubsAt; rw [← HSL.out]; exact RowG.owns h2), HJI.out _ ((HJO.out W hW).trans (h3.mono (HJO.out W hW).size))⟩
      have HC2 : Hid (∀ v W, J W → SubsAt W v a.subs → Calls Try.prog 19 #[v, .slice aS j cS] W fun e w' => e = .returned (.bool true) ∧ J w') := Lib.hid fun v W hW hv => by
        have h := raSubs_any v (.slice aS j cS) a.subs a.subs W hv (HSU.out.below (HJO.out W hW)) (by rw [← HSL.out]; omega) (by rw [← HSL.out]; omega)
        rw [sameL_eq.2 rfl] at h
        exact h.mono fun e w' g => ⟨g.1, HJI.out _ ((HJO.out W hW).trans (g.2.mono (HJO.out W hW).size))⟩
      have HC3 : Hid (∀ W, J W → Calls Try.prog 16 #[] W fun e w' => e = .returned (.bool true) ∧ J w') := Lib.hid fun W hW =>
        (HSN.out W).mono fun e w' g => ⟨g.1, HJI.out _ ((HJO.out W hW).trans (g.2.mono (HJO.out W hW).size))⟩
      have HFIN : Hid (∀ W, J W → Below w.heap.size w W) := Lib.hid fun W hW => HB3.out.trans ((HJO.out W hW).mono HB3.out.size)
      have hnew := HJI.out _ HB7.out
      have hcs := HS.out _ hnew
      clear hJ HF1 HF2 HF3 HB5 HB6 HB7 HBR HB HT hlt
      go_region_held3 (fun W => ∀ i, W.cell? ⟨bA, i, none⟩ = #[.int .i64 cr, .slice aS j cS, .slice aE m cE][i]?)
        (first | exact HS.out _ (by with_reducible assumption) | exact HS.out _ (HJD.out _ (by with_reducible assumption)) | exact HS.out _ (HJD.out _ (HJD.out _ (by with_reducible assumption))))
        (first
          | (go_at_call 18; (with_reducible refine Calls.mono (HC1.out _ (by first | with_reducible assumption | exact HJD.out _ (by with_reducible assumption))) ?_); rintro e wx ⟨vx, rfl, HVX, hinvx⟩)
          | (go_at_call 19; (with_reducible refine Calls.mono (HC2.out _ _ (by first | with_reducible assumption | exact HJD.out _ (by with_reducible assumption)) (by first | exact HVX.out | exact HVX.out.below (Below.refl _ _).drew)) ?_); rintro e wy ⟨rfl, hinvy⟩)
          | (go_at_call 16; (with_reducible refine Calls.mono (HC3.out _ (by first | with_reducible assumption | exact HJD.out _ (by with_reducible assumption))) ?_); rintro e wz ⟨rfl, hinvz⟩))
      go_wp2
      go_ret
      exact ⟨rfl, HFIN.out _ hinvz⟩

end Go.Proofs.Ythajkhonapjihac
