/- What a closing takes out of a year's result it puts into the next one, but for claims and their provision: for every tape. -/
import Derived.Test.YtknmgkjfopoinaaGreatDoorMAuG
import Derived.Test.YtknmgkjfopoinaaGreatDoorMAuD
import Derived.Test.YtknmgkjfopoinaaGreatDoorMAuE
import Derived.Test.YtknmgkjfopoinaaGreatDoorMCs5
import Derived.Test.YtknmgkjfopoinaaGreatDoorMAaW
set_option linter.unusedSimpArgs false
set_option linter.unusedVariables false
set_option linter.unusedSimpArgs false
set_option linter.unusedVariables false
namespace Go.Proofs.YtknmgkjfopoinaaGreatDoor
open Go.RowKit Go.Lib Go.Proofs

set_option maxRecDepth 100000 in
set_option maxHeartbeats 16000000 in
theorem accshifts_any (v : Value) (n : Nat) (w : World) (hi : IntsAt w v n w.heap.size) (hn : n ≤ 9223372036854775807) (hL : Lay w) :
    Calls Tryz.prog 5 #[v] w fun e w' => e = .returned (.bool true) ∧ Below w.heap.size w w' := by
  have HNEW := Lib.hid (sNew_any v n w hi hn)
  have HLAY := Lib.hid (fun W (hW : Below w.heap.size w W) => hL.below hW (Nat.le_refl _))
  clear hi hn hL
  go_enter Tryz.func5, Tryz.ntmps5
  go_wp2_with fail
  refine (HNEW.out).mono ?_
  rintro e w1 ⟨rfl, t1, b1⟩
  obtain ⟨tb, htb⟩ : ∃ tb, tb = w.heap.size := ⟨_, rfl⟩
  rw [← htb] at t1 ⊢
  have HLG := Lib.hid (sLedger_any tb 8 2 700 w1 t1 (by omega) (by omega) (by omega))
  have HTB := Lib.hid htb
  have HFIN : Hid (∀ W, SI w1 tb W → Below w.heap.size w W) := Lib.hid fun W hW => b1.grown hW.old b1.size (fun q e => by injection e with e; omega)
  have HW1 := Lib.hid b1
  clear t1 b1 HNEW htb
  go_wp2_with fail
  refine (HLG.out).mono ?_
  rintro e w2 ⟨l, lv, rfl, hin, hl10, hl, hsi⟩
  have HIN := Lib.hid hin
  have HOK := Lib.hid hin.ok
  have HFEW := Lib.hid (fun e f a => books_few hin (by omega) e f a)
  have HDAY := Lib.hid (books_days hin)
  have HDNE := Lib.hid (books_ne hin)
  have HLEN : Hid (l.length ≤ 10) := Lib.hid (by omega)
  have HS2 := Lib.hid hsi
  have HL2 := Lib.hid hl
  clear hin hl hsi hl10 HLG
  go_wp2_with fail
  refine (closing41_any tb w2 HS2.out.src).mono ?_
  rintro e w3 ⟨iA, uA, pA, cvA, clA, rfl, hcs, hown, hsi⟩
  have HS3 := Lib.hid (HS2.out.turn hsi.src hsi.old)
  have HL3 := Lib.hid (PstsAt.turn HL2.out HS2.out.src hsi.old)
  obtain ⟨acA, ccA, rfl, -, -⟩ := owns_gen hown
  have HOA_3 := Lib.hid hown
  have HCBA := Lib.hid (clsB_of hcs)
  have HCIA : Hid ((0 ≤ iA ∧ iA ≤ 1000) ∧ (0 ≤ uA ∧ uA ≤ 1000) ∧ (0 ≤ pA ∧ pA ≤ 1000)) := Lib.hid (by have h1 := hcs.i; have h2 := hcs.u; have h3 := hcs.p; omega)
  have HTA : Hid (tb < w2.heap.size + 1) := Lib.hid (by have := HS2.out.src.lt; omega)
  clear hcs hown hsi
  obtain ⟨oA, hoA⟩ : ∃ q, q = openC clA := ⟨_, rfl⟩
  obtain ⟨rA, hrA⟩ : ∃ q, q = provM 719 clA := ⟨_, rfl⟩
  rw [← hoA, ← hrA] at HCBA
  obtain ⟨ncA, hncA⟩ : ∃ q, q = clA.length := ⟨_, rfl⟩
  rw [← hncA]
  have HNCA := Lib.hid hncA
  have HEOA := Lib.hid hoA
  have HERA := Lib.hid hrA
  clear hoA hrA hncA
  obtain ⟨al, cpl, rfl, -, -⟩ := PstsAt.open HL3.out
  obtain ⟨nl, hnl⟩ : ∃ q, q = l.length := ⟨_, rfl⟩
  rw [← hnl]
  have HNL := Lib.hid hnl
  clear hnl
  have HB3 := Lib.hid (HFIN.out _ HS3.out)
  have HRL_3 : Hid (PstsAt w3 (.slice al nl cpl) l) := Lib.hid (by have h := HL3.out; rw [← HNL.out] at h; exact h)
  clear HL3 HL2 HFIN HS2 HS3 HW1
  obtain ⟨w4, hw4⟩ : ∃ W, W = (w3.alloc (.cells #[.slice al nl cpl] 27)).alloc (.cells #[.int .i64 iA, .int .i64 uA, .int .i64 pA, .slice acA ncA ccA] 31) := ⟨_, rfl⟩
  obtain ⟨bX, hbX⟩ : ∃ q, q = w3.heap.size := ⟨_, rfl⟩
  obtain ⟨bY, hbY⟩ : ∃ q, q = w3.heap.size + 1 := ⟨_, rfl⟩
  have hx4 : w4.heap[bX]? = some (.cells #[.slice al nl cpl] 27 (0, 0)) := by rw [hw4, hbX]; exact alloc1_at _ _ _
  have hy4 : w4.heap[bY]? = some (.cells #[.int .i64 iA, .int .i64 uA, .int .i64 pA, .slice acA ncA ccA] 31 (0, 0)) := by rw [hw4, hbY]; exact alloc2_at _ _ _
  have hb4 : Below w3.heap.size w3 w4 := by rw [hw4]; exact below2 _ _ _
  have hyle : w3.heap.size ≤ bY := by rw [hbY]; omega
  have hxy : bX ≠ bY := by rw [hbX, hbY]; omega
  have z3 := obj_cell hy4 3
  have f3 := obj_free hy4 3
  simp at z3
  have HW4 := Lib.hid hw4
  have HPX := Lib.hid hbX
  have HPY := Lib.hid hbY
  obtain ⟨w5, hw5⟩ : ∃ W, W = w4.setCell ⟨bY, 3, none⟩ (.slice none 0 0) := ⟨_, rfl⟩
  have hset := obj_set hy4 3 (.slice none 0 0)
  simp only [List.setIfInBounds_toArray, List.set_cons_zero, List.set_cons_succ] at hset
  rw [← hw5] at hset
  have hg5 : w4.grownBy w5 (some bY) := by rw [hw5]; exact setCell_grown _ _
  have hbn : Below w3.heap.size w3 w5 := by rw [hw5]; exact hb4.setCell hyle _
  have HXX_5 : Hid (w5.heap[bX]? = some (.cells #[.slice al nl cpl] 27 (0, 0))) := Lib.hid ((hg5.block bX (obj_lt hx4) (by simp [hxy])).trans hx4)
  have HXY_5 : Hid (w5.heap[bY]? = some (.cells #[.int .i64 iA, .int .i64 uA, .int .i64 pA, .slice none 0 0] 31 (0, 0))) := Lib.hid hset
  have HB5 := Lib.hid (HB3.out.trans (hbn.mono HB3.out.size))
  have HRL_5 := Lib.hid (ListAt.below HRL_3.out hbn)
  clear HB3 HRL_3
  have HW5 := Lib.hid hw5
  clear hw4 hbX hbY hx4 hy4 hb4 hyle hxy hset hg5 hbn hw5
  go_upto_region 3 with fail
  rw [← HW4.out, ← HPY.out, ← HPX.out]
  go_upto_region 4 with fail
  rw [← HW5.out]
  clear z3 f3
  have hxX := HXX_5.out
  have zX_0 := obj_cell hxX 0
  have hxY := HXY_5.out
  have zY_0 := obj_cell hxY 0
  have zY_1 := obj_cell hxY 1
  have zY_2 := obj_cell hxY 2
  have zY_3 := obj_cell hxY 3
  simp at zX_0 zY_0 zY_1 zY_2 zY_3
  clear hxX hxY
  obtain ⟨q1, hq1⟩ : ∃ q, q = ofM 1 (byDay 719) 120 l := ⟨_, rfl⟩
  obtain ⟨q2, hq2⟩ : ∃ q, q = ofM 1 (byDay 719) 119 l := ⟨_, rfl⟩
  have HF1 := Lib.hid (rgOf_right HOK.out 1 120 719 _ w5 HRL_5.out (by decide) (by decide))
  rw [← hq1] at HF1
  have HQ1 := Lib.hid hq1
  have HQ2 := Lib.hid hq2
  clear hq1 hq2
  go_wp2_with fail
  clear zX_0 zY_0 zY_1 zY_2 zY_3
  refine (HF1.out).mono ?_
  rintro en w6 ⟨rfl, hbn⟩
  have HB6 := Lib.hid (HB5.out.trans (hbn.mono HB5.out.size))
  have HXX_6 := Lib.hid (obj_below HXX_5.out hbn)
  have HXY_6 := Lib.hid (obj_below HXY_5.out hbn)
  have HRL_6 := Lib.hid (ListAt.below HRL_5.out hbn)
  clear HB5 HXX_5 HXY_5 HRL_5
  clear hbn
  have hxX := HXX_6.out
  have zX_0 := obj_cell hxX 0
  have hxY := HXY_6.out
  have zY_0 := obj_cell hxY 0
  have zY_1 := obj_cell hxY 1
  have zY_2 := obj_cell hxY 2
  have zY_3 := obj_cell hxY 3
  simp at zX_0 zY_0 zY_1 zY_2 zY_3
  clear hxX hxY
  by_cases h1 : q1 = 0
  rotate_left
  · have h1b : (q1 != 0) = true := by rw [bne_iff_ne]; exact h1
    clear h1 zX_0 zY_0 zY_1 zY_2 zY_3
    have HSN := Lib.hid (sane41_true w6 (HLAY.out _ HB6.out))
    go_wp2_with fail
    refine (HSN.out).mono ?_
    rintro en w' ⟨rfl, hbn⟩
    have HBE := Lib.hid (HB6.out.trans (hbn.mono HB6.out.size))
    clear hbn
    go_wp2
    go_ret
    exact ⟨rfl, HBE.out⟩
  have h1b : (q1 != 0) = false := by rw [bne_eq_false_iff_eq]; exact h1
  have HZ1 := Lib.hid h1
  have HF2 := Lib.hid (rgOf_right HOK.out 1 119 719 _ w6 HRL_6.out (by decide) (by decide))
  rw [← HQ2.out] at HF2
  clear h1
  go_wp2_with fail
  clear zX_0 zY_0 zY_1 zY_2 zY_3
  refine (HF2.out).mono ?_
  rintro en w7 ⟨rfl, hbn⟩
  have HB7 := Lib.hid (HB6.out.trans (hbn.mono HB6.out.size))
  have HXX_7 := Lib.hid (obj_below HXX_6.out hbn)
  have HXY_7 := Lib.hid (obj_below HXY_6.out hbn)
  have HRL_7 := Lib.hid (ListAt.below HRL_6.out hbn)
  clear HB6 HXX_6 HXY_6 HRL_6
  clear hbn
  have hxX := HXX_7.out
  have zX_0 := obj_cell hxX 0
  have hxY := HXY_7.out
  have zY_0 := obj_cell hxY 0
  have zY_1 := obj_cell hxY 1
  have zY_2 := obj_cell hxY 2
  have zY_3 := obj_cell hxY 3
  simp at zX_0 zY_0 zY_1 zY_2 zY_3
  clear hxX hxY
  by_cases h2 : q2 = 0
  rotate_left
  · have h2b : (q2 != 0) = true := by rw [bne_iff_ne]; exact h2
    clear h2 zX_0 zY_0 zY_1 zY_2 zY_3
    have HSN := Lib.hid (sane41_true w7 (HLAY.out _ HB7.out))
    go_wp2_with fail
    refine (HSN.out).mono ?_
    rintro en w' ⟨rfl, hbn⟩
    have HBE := Lib.hid (HB7.out.trans (hbn.mono HB7.out.size))
    clear hbn
    go_wp2
    go_ret
    exact ⟨rfl, HBE.out⟩
  have h2b : (q2 != 0) = false := by rw [bne_eq_false_iff_eq]; exact h2
  have h120 : ofM 1 (byDay 719) 120 l = 0 := by rw [← HQ1.out]; exact HZ1.out
  have h119 : ofM 1 (byDay 719) 119 l = 0 := by rw [← HQ2.out]; exact h2
  have HSR := Lib.hid (shift_res HDNE.out iA uA pA h120 h119)
  clear h2 h120 h119
  go_wp2_with fail
  clear zX_0 zY_0 zY_1 zY_2 zY_3
  refine (lawClose HOK.out (by have := HLEN.out; omega) HDAY.out clsB_nil (e := 1) (by decide) HCIA.out.1 HCIA.out.2.1 HCIA.out.2.2 (HFEW.out _ _ _) (HFEW.out _ _ _) _ (.slice none 0 0) w7 (HLAY.out _ HB7.out) HRL_7.out (nil_listAt _ _ _ _ _)).mono ?_
  rintro en w8 ⟨xv, rfl, hrx, hbn⟩
  have HB8 := Lib.hid (HB7.out.trans (hbn.mono HB7.out.size))
  have HXX_8 := Lib.hid (obj_below HXX_7.out hbn)
  have HXY_8 := Lib.hid (obj_below HXY_7.out hbn)
  have HRL_8 := Lib.hid (ListAt.below HRL_7.out hbn)
  clear HB7 HXX_7 HXY_7 HRL_7
  clear hbn
  have HXOK := Lib.hid (lawClose_ok HOK.out (by have := HLEN.out; omega) HDAY.out clsB_nil.le (e := 1) (by decide) HCIA.out.1 HCIA.out.2.1 HCIA.out.2.2 (HFEW.out _ _ _) (HFEW.out _ _ _))
  have HXD := Lib.hid (cls_days (e := 1) (i := iA) (u := uA) (p := pA) (o := 0) (r := 0) HDAY.out)
  have HXN : Hid ((clsL l 1 iA uA pA 0 0).length ≤ 15) := Lib.hid (by have h1 := cls_len l 1 iA uA pA 0 0; have h2 := HLEN.out; omega)
  have HYOK := Lib.hid (lawTurn_ok HXOK.out (by have := HXN.out; omega) HXD.out (e := 1))
  obtain ⟨x, hx⟩ : ∃ x, x = clsL l 1 iA uA pA 0 0 := ⟨_, rfl⟩
  rw [← hx] at hrx HXOK HXD HXN HYOK HSR
  clear hx
  obtain ⟨ax, cx, rfl, -, -⟩ := PstsAt.open hrx
  obtain ⟨nx, hnx⟩ : ∃ q, q = x.length := ⟨_, rfl⟩
  rw [← hnx]
  have HRX_8 : Hid (PstsAt w8 (.slice ax nx cx) x) := Lib.hid (by rw [hnx]; exact hrx)
  clear hrx hnx
  obtain ⟨w9, hwn⟩ : ∃ W, W = (w8.alloc (.cells #[.slice ax nx cx] 27)) := ⟨_, rfl⟩
  obtain ⟨bU, hbU⟩ : ∃ q, q = w8.heap.size := ⟨_, rfl⟩
  have hbn : Below w8.heap.size w8 w9 := by rw [hwn]; exact below_alloc _ _
  have HXU_9 : Hid (w9.heap[bU]? = some (.cells #[.slice ax nx cx] 27 (0, 0))) := Lib.hid (by rw [hwn, hbU]; exact heap_alloc_new _ _)
  have HB9 := Lib.hid (HB8.out.trans (hbn.mono HB8.out.size))
  have HXX_9 := Lib.hid (obj_below HXX_8.out hbn)
  have HXY_9 := Lib.hid (obj_below HXY_8.out hbn)
  have HRL_9 := Lib.hid (ListAt.below HRL_8.out hbn)
  have HRX_9 := Lib.hid (ListAt.below HRX_8.out hbn)
  clear HB8 HXX_8 HXY_8 HRL_8 HRX_8
  have HW9 := Lib.hid hwn
  have HPU := Lib.hid hbU
  clear hwn hbn hbU
  go_upto_region 7 with fail
  rw [← HW9.out, ← HPU.out]
  have hxU := HXU_9.out
  have zU_0 := obj_cell hxU 0
  simp at zU_0
  clear hxU
  go_wp2_with fail
  clear zU_0
  refine (aaReopen_right HXOK.out (ent := 1) (d := 719) (by decide) (by decide) (Int.le_trans (lastP_le (by decide) HXD.out) (by decide)) (by have := HXN.out; omega) (.slice ax nx cx) w9 HRX_9.out).mono ?_
  rintro en w10 ⟨yv, rfl, hry, hbn⟩
  have HB10 := Lib.hid (HB9.out.trans (hbn.mono HB9.out.size))
  have HXX_10 := Lib.hid (obj_below HXX_9.out hbn)
  have HXY_10 := Lib.hid (obj_below HXY_9.out hbn)
  have HXU_10 := Lib.hid (obj_below HXU_9.out hbn)
  have HRL_10 := Lib.hid (ListAt.below HRL_9.out hbn)
  have HRX_10 := Lib.hid (ListAt.below HRX_9.out hbn)
  clear HB9 HXX_9 HXY_9 HXU_9 HRL_9 HRX_9
  clear hbn
  obtain ⟨y, hy⟩ : ∃ y, y = turnM x 1 719 := ⟨_, rfl⟩
  rw [← hy] at hry HYOK HSR
  clear hy
  obtain ⟨ay, cy, rfl, -, -⟩ := PstsAt.open hry
  obtain ⟨ny, hny⟩ : ∃ q, q = y.length := ⟨_, rfl⟩
  rw [← hny]
  have HRY_10 : Hid (PstsAt w10 (.slice ay ny cy) y) := Lib.hid (by rw [hny]; exact hry)
  clear hry hny
  obtain ⟨w11, hwn⟩ : ∃ W, W = (w10.alloc (.cells #[.slice ay ny cy] 27)) := ⟨_, rfl⟩
  obtain ⟨bV, hbV⟩ : ∃ q, q = w10.heap.size := ⟨_, rfl⟩
  have hbn : Below w10.heap.size w10 w11 := by rw [hwn]; exact below_alloc _ _
  have HXV_11 : Hid (w11.heap[bV]? = some (.cells #[.slice ay ny cy] 27 (0, 0))) := Lib.hid (by rw [hwn, hbV]; exact heap_alloc_new _ _)
  have HB11 := Lib.hid (HB10.out.trans (hbn.mono HB10.out.size))
  have HXX_11 := Lib.hid (obj_below HXX_10.out hbn)
  have HXY_11 := Lib.hid (obj_below HXY_10.out hbn)
  have HXU_11 := Lib.hid (obj_below HXU_10.out hbn)
  have HRL_11 := Lib.hid (ListAt.below HRL_10.out hbn)
  have HRX_11 := Lib.hid (ListAt.below HRX_10.out hbn)
  have HRY_11 := Lib.hid (ListAt.below HRY_10.out hbn)
  clear HB10 HXX_10 HXY_10 HXU_10 HRL_10 HRX_10 HRY_10
  have HW11 := Lib.hid hwn
  have HPV := Lib.hid hbV
  clear hwn hbn hbV
  go_upto_region 8 with fail
  rw [← HW11.out, ← HPV.out]
  have hxX := HXX_11.out
  have zX_0 := obj_cell hxX 0
  have hxV := HXV_11.out
  have zV_0 := obj_cell hxV 0
  simp at zX_0 zV_0
  clear hxX hxV
  obtain ⟨ra, hra⟩ : ∃ q, q = resM 1 (amidDay (360 * 1) (360 * 1 + 359)) l := ⟨_, rfl⟩
  obtain ⟨rb, hrb⟩ : ∃ q, q = resM 1 (amidDay (360 * 1) (360 * 1 + 359)) y := ⟨_, rfl⟩
  obtain ⟨rp, hrp⟩ : ∃ q, q = resM 1 (amidDay (360 * 2) (360 * 2 + 359)) l := ⟨_, rfl⟩
  obtain ⟨rq, hrq⟩ : ∃ q, q = resM 1 (amidDay (360 * 2) (360 * 2 + 359)) y := ⟨_, rfl⟩
  have hsr := HSR.out
  rw [← hra, ← hrb, ← hrp, ← hrq] at hsr
  have hci := HCIA.out
  have hba := resM_small HOK.out 1 (amidDay (360 * 1) (360 * 1 + 359))
  have hbp := resM_small HOK.out 1 (amidDay (360 * 2) (360 * 2 + 359))
  rw [← hra] at hba
  rw [← hrp] at hbp
  obtain ⟨t, ht⟩ : ∃ q, q = iA + uA - pA := ⟨_, rfl⟩
  have hw1 : IntKind.i64.wrap (ra - rb) = t := by rw [show ra - rb = t by omega]; exact IntWalk.i64_in _ (by omega)
  have hw2 : IntKind.i64.wrap (rq - rp) = t := by rw [show rq - rp = t by omega]; exact IntWalk.i64_in _ (by omega)
  have hw3 : IntKind.i64.wrap (iA + uA) = iA + uA := IntWalk.i64_in _ (by omega)
  have hw4 : IntKind.i64.wrap (iA + uA - pA) = t := by rw [ht]; exact IntWalk.i64_in _ (by omega)
  have HRA := Lib.hid hra
  have HRB := Lib.hid hrb
  have HRP := Lib.hid hrp
  have HRQ := Lib.hid hrq
  clear hsr hci hba hbp ht hra hrb hrp hrq
  have HRS := Lib.hid (aaResult_right HOK.out (ent := 1) (y := 1) (by decide) (by decide) _ w11 HRL_11.out)
  rw [← HRA.out] at HRS
  go_wp2_with fail
  clear zX_0 zV_0
  refine (HRS.out).mono ?_
  rintro en w12 ⟨rfl, hbn⟩
  have HB12 := Lib.hid (HB11.out.trans (hbn.mono HB11.out.size))
  have HXX_12 := Lib.hid (obj_below HXX_11.out hbn)
  have HXY_12 := Lib.hid (obj_below HXY_11.out hbn)
  have HXU_12 := Lib.hid (obj_below HXU_11.out hbn)
  have HXV_12 := Lib.hid (obj_below HXV_11.out hbn)
  have HRL_12 := Lib.hid (ListAt.below HRL_11.out hbn)
  have HRX_12 := Lib.hid (ListAt.below HRX_11.out hbn)
  have HRY_12 := Lib.hid (ListAt.below HRY_11.out hbn)
  clear HB11 HXX_11 HXY_11 HXU_11 HXV_11 HRL_11 HRX_11 HRY_11
  clear hbn
  clear HRS
  have hxV := HXV_12.out
  have zV_0 := obj_cell hxV 0
  simp at zV_0
  clear hxV
  have HRS := Lib.hid (aaResult_right HYOK.out (ent := 1) (y := 1) (by decide) (by decide) _ w12 HRY_12.out)
  rw [← HRB.out] at HRS
  go_wp2_with fail
  clear zV_0
  refine (HRS.out).mono ?_
  rintro en w13 ⟨rfl, hbn⟩
  have HB13 := Lib.hid (HB12.out.trans (hbn.mono HB12.out.size))
  have HXX_13 := Lib.hid (obj_below HXX_12.out hbn)
  have HXY_13 := Lib.hid (obj_below HXY_12.out hbn)
  have HXU_13 := Lib.hid (obj_below HXU_12.out hbn)
  have HXV_13 := Lib.hid (obj_below HXV_12.out hbn)
  have HRL_13 := Lib.hid (ListAt.below HRL_12.out hbn)
  have HRX_13 := Lib.hid (ListAt.below HRX_12.out hbn)
  have HRY_13 := Lib.hid (ListAt.below HRY_12.out hbn)
  clear HB12 HXX_12 HXY_12 HXU_12 HXV_12 HRL_12 HRX_12 HRY_12
  clear hbn
  clear HRS
  have hxX := HXX_13.out
  have zX_0 := obj_cell hxX 0
  simp at zX_0
  clear hxX
  have HRS := Lib.hid (aaResult_right HOK.out (ent := 1) (y := 2) (by decide) (by decide) _ w13 HRL_13.out)
  rw [← HRP.out] at HRS
  go_wp2_with fail
  clear zX_0
  refine (HRS.out).mono ?_
  rintro en w14 ⟨rfl, hbn⟩
  have HB14 := Lib.hid (HB13.out.trans (hbn.mono HB13.out.size))
  have HXX_14 := Lib.hid (obj_below HXX_13.out hbn)
  have HXY_14 := Lib.hid (obj_below HXY_13.out hbn)
  have HXU_14 := Lib.hid (obj_below HXU_13.out hbn)
  have HXV_14 := Lib.hid (obj_below HXV_13.out hbn)
  have HRL_14 := Lib.hid (ListAt.below HRL_13.out hbn)
  have HRX_14 := Lib.hid (ListAt.below HRX_13.out hbn)
  have HRY_14 := Lib.hid (ListAt.below HRY_13.out hbn)
  clear HB13 HXX_13 HXY_13 HXU_13 HXV_13 HRL_13 HRX_13 HRY_13
  clear hbn
  clear HRS
  have hxV := HXV_14.out
  have zV_0 := obj_cell hxV 0
  simp at zV_0
  clear hxV
  have HRS := Lib.hid (aaResult_right HYOK.out (ent := 1) (y := 2) (by decide) (by decide) _ w14 HRY_14.out)
  rw [← HRQ.out] at HRS
  go_wp2_with fail
  clear zV_0
  refine (HRS.out).mono ?_
  rintro en w15 ⟨rfl, hbn⟩
  have HB15 := Lib.hid (HB14.out.trans (hbn.mono HB14.out.size))
  have HXX_15 := Lib.hid (obj_below HXX_14.out hbn)
  have HXY_15 := Lib.hid (obj_below HXY_14.out hbn)
  have HXU_15 := Lib.hid (obj_below HXU_14.out hbn)
  have HXV_15 := Lib.hid (obj_below HXV_14.out hbn)
  have HRL_15 := Lib.hid (ListAt.below HRL_14.out hbn)
  have HRX_15 := Lib.hid (ListAt.below HRX_14.out hbn)
  have HRY_15 := Lib.hid (ListAt.below HRY_14.out hbn)
  clear HB14 HXX_14 HXY_14 HXU_14 HXV_14 HRL_14 HRX_14 HRY_14
  clear hbn
  clear HRS
  have hxY := HXY_15.out
  have zY_0 := obj_cell hxY 0
  have zY_1 := obj_cell hxY 1
  have zY_2 := obj_cell hxY 2
  have zY_3 := obj_cell hxY 3
  simp at zY_0 zY_1 zY_2 zY_3
  clear hxY
  go_wp2_with fail
  clear zY_0 zY_1 zY_2 zY_3
  refine (sane41_true w15 (HLAY.out _ HB15.out)).mono ?_
  rintro en w16 ⟨rfl, hbn⟩
  have HB16 := Lib.hid (HB15.out.trans (hbn.mono HB15.out.size))
  have HXX_16 := Lib.hid (obj_below HXX_15.out hbn)
  have HXY_16 := Lib.hid (obj_below HXY_15.out hbn)
  have HXU_16 := Lib.hid (obj_below HXU_15.out hbn)
  have HXV_16 := Lib.hid (obj_below HXV_15.out hbn)
  have HRL_16 := Lib.hid (ListAt.below HRL_15.out hbn)
  have HRX_16 := Lib.hid (ListAt.below HRX_15.out hbn)
  have HRY_16 := Lib.hid (ListAt.below HRY_15.out hbn)
  clear HB15 HXX_15 HXY_15 HXU_15 HXV_15 HRL_15 HRX_15 HRY_15
  clear hbn
  go_wp2
  go_ret
  exact ⟨rfl, HB16.out⟩

end Go.Proofs.YtknmgkjfopoinaaGreatDoor
