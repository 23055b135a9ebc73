/- Closing the books of one entity changes nothing in those of another one, and closings of two entities can be made in either order: for every tape. -/
import Derived.Test.YtknmgkjfopoinaaGreatDoorMAuG
import Derived.Test.YtknmgkjfopoinaaGreatDoorMAuL
import Derived.Test.YtknmgkjfopoinaaGreatDoorMAaW
set_option linter.unusedSimpArgs false
set_option linter.unusedVariables false
set_option linter.unusedSimpArgs false
set_option linter.unusedVariables false
namespace Go.Proofs.YtknmgkjfopoinaaGreatDoor
open Go.RowKit Go.Lib Go.Proofs

set_option maxRecDepth 100000 in
set_option maxHeartbeats 16000000 in
theorem accentities_any (v : Value) (n : Nat) (w : World) (hi : IntsAt w v n w.heap.size) (hn : n ≤ 9223372036854775807) (hL : Lay w) :
    Calls Tryz.prog 6 #[v] w fun e w' => e = .returned (.bool true) ∧ Below w.heap.size w w' := by
  have HNEW := Lib.hid (sNew_any v n w hi hn)
  have HLAY := Lib.hid (fun W (hW : Below w.heap.size w W) => hL.below hW (Nat.le_refl _))
  clear hi hn hL
  go_enter Tryz.func6, Tryz.ntmps6
  go_wp2_with fail
  refine (HNEW.out).mono ?_
  rintro e w1 ⟨rfl, t1, b1⟩
  obtain ⟨tb, htb⟩ : ∃ tb, tb = w.heap.size := ⟨_, rfl⟩
  rw [← htb] at t1 ⊢
  have HLG := Lib.hid (sLedger_any tb 8 2 700 w1 t1 (by omega) (by omega) (by omega))
  have HTB := Lib.hid htb
  have HFIN : Hid (∀ W, SI w1 tb W → Below w.heap.size w W) := Lib.hid fun W hW => b1.grown hW.old b1.size (fun q e => by injection e with e; omega)
  have HW1 := Lib.hid b1
  clear t1 b1 HNEW htb
  go_wp2_with fail
  refine (HLG.out).mono ?_
  rintro e w2 ⟨l, lv, rfl, hin, hl10, hl, hsi⟩
  have HIN := Lib.hid hin
  have HOK := Lib.hid hin.ok
  have HFEW := Lib.hid (fun e f a => books_few hin (by omega) e f a)
  have HDAY := Lib.hid (books_days hin)
  have HLEN : Hid (l.length ≤ 10) := Lib.hid (by omega)
  have HS2 := Lib.hid hsi
  have HL2 := Lib.hid hl
  clear hin hl hsi hl10 HLG
  go_wp2_with fail
  refine (closing41_any tb w2 HS2.out.src).mono ?_
  rintro e w3 ⟨iA, uA, pA, cvA, clA, rfl, hcs, hown, hsi⟩
  have HS3 := Lib.hid (HS2.out.turn hsi.src hsi.old)
  have HL3 := Lib.hid (PstsAt.turn HL2.out HS2.out.src hsi.old)
  obtain ⟨acA, ccA, rfl, -, -⟩ := owns_gen hown
  have HOA_3 := Lib.hid hown
  have HCBA := Lib.hid (clsB_of hcs)
  have HCIA : Hid ((0 ≤ iA ∧ iA ≤ 1000) ∧ (0 ≤ uA ∧ uA ≤ 1000) ∧ (0 ≤ pA ∧ pA ≤ 1000)) := Lib.hid (by have h1 := hcs.i; have h2 := hcs.u; have h3 := hcs.p; omega)
  have HTA : Hid (tb < w2.heap.size + 1) := Lib.hid (by have := HS2.out.src.lt; omega)
  clear hcs hown hsi
  obtain ⟨oA, hoA⟩ : ∃ q, q = openC clA := ⟨_, rfl⟩
  obtain ⟨rA, hrA⟩ : ∃ q, q = provM 719 clA := ⟨_, rfl⟩
  rw [← hoA, ← hrA] at HCBA
  obtain ⟨ncA, hncA⟩ : ∃ q, q = clA.length := ⟨_, rfl⟩
  rw [← hncA]
  have HNCA := Lib.hid hncA
  have HEOA := Lib.hid hoA
  have HERA := Lib.hid hrA
  clear hoA hrA hncA
  go_wp2_with fail
  refine (closing41_any tb w3 HS3.out.src).mono ?_
  rintro e w4 ⟨iB, uB, pB, cvB, clB, rfl, hcs, hown, hsi⟩
  have HS4 := Lib.hid (HS3.out.turn hsi.src hsi.old)
  have HL4 := Lib.hid (PstsAt.turn HL3.out HS3.out.src hsi.old)
  obtain ⟨acB, ccB, rfl, -, -⟩ := owns_gen hown
  have HOB_4 := Lib.hid hown
  have HCBB := Lib.hid (clsB_of hcs)
  have HCIB : Hid ((0 ≤ iB ∧ iB ≤ 1000) ∧ (0 ≤ uB ∧ uB ≤ 1000) ∧ (0 ≤ pB ∧ pB ≤ 1000)) := Lib.hid (by have h1 := hcs.i; have h2 := hcs.u; have h3 := hcs.p; omega)
  have HOA_4 := Lib.hid (HOA_3.out.kept hsi.old (ownBlock_ne HOA_3.out tb HTA.out))
  have HTB : Hid (tb < w3.heap.size + 1) := Lib.hid (by have := HS3.out.src.lt; omega)
  clear hcs hown hsi
  obtain ⟨oB, hoB⟩ : ∃ q, q = openC clB := ⟨_, rfl⟩
  obtain ⟨rB, hrB⟩ : ∃ q, q = provM 719 clB := ⟨_, rfl⟩
  rw [← hoB, ← hrB] at HCBB
  obtain ⟨ncB, hncB⟩ : ∃ q, q = clB.length := ⟨_, rfl⟩
  rw [← hncB]
  have HNCB := Lib.hid hncB
  have HEOB := Lib.hid hoB
  have HERB := Lib.hid hrB
  clear hoB hrB hncB
  obtain ⟨al, cpl, rfl, -, -⟩ := PstsAt.open HL4.out
  obtain ⟨nl, hnl⟩ : ∃ q, q = l.length := ⟨_, rfl⟩
  rw [← hnl]
  have HNL := Lib.hid hnl
  clear hnl
  have HB4 := Lib.hid (HFIN.out _ HS4.out)
  have HRL_4 : Hid (PstsAt w4 (.slice al nl cpl) l) := Lib.hid (by have h := HL4.out; rw [← HNL.out] at h; exact h)
  have HRC_4 : Hid (ListAt clmC 6 w4 (.slice acA ncA ccA) clA) := Lib.hid (by have h := ListAt.owns HOA_4.out; rw [← HNCA.out] at h; exact h)
  have HRD_4 : Hid (ListAt clmC 6 w4 (.slice acB ncB ccB) clB) := Lib.hid (by have h := ListAt.owns HOB_4.out; rw [← HNCB.out] at h; exact h)
  clear HL4 HL3 HL2 HOA_3 HOA_4 HOB_4 HFIN HS2 HS3 HS4 HW1
  obtain ⟨w5, hwn⟩ : ∃ W, W = (((w4.alloc (.cells #[.slice al nl cpl] 27)).alloc (.cells #[.int .i64 iA, .int .i64 uA, .int .i64 pA, .slice acA ncA ccA] 31)).alloc (.cells #[.int .i64 iB, .int .i64 uB, .int .i64 pB, .slice acB ncB ccB] 31)) := ⟨_, rfl⟩
  obtain ⟨bX, hbX⟩ : ∃ q, q = w4.heap.size := ⟨_, rfl⟩
  obtain ⟨bY, hbY⟩ : ∃ q, q = w4.heap.size + 1 := ⟨_, rfl⟩
  obtain ⟨bZ, hbZ⟩ : ∃ q, q = w4.heap.size + 2 := ⟨_, rfl⟩
  have hbn : Below w4.heap.size w4 w5 := by rw [hwn]; exact tri_below _ _ _ _
  have HXX_5 : Hid (w5.heap[bX]? = some (.cells #[.slice al nl cpl] 27 (0, 0))) := Lib.hid (by rw [hwn, hbX]; exact tri_at0 _ _ _ _)
  have HXY_5 : Hid (w5.heap[bY]? = some (.cells #[.int .i64 iA, .int .i64 uA, .int .i64 pA, .slice acA ncA ccA] 31 (0, 0))) := Lib.hid (by rw [hwn, hbY]; exact tri_at1 _ _ _ _)
  have HXZ_5 : Hid (w5.heap[bZ]? = some (.cells #[.int .i64 iB, .int .i64 uB, .int .i64 pB, .slice acB ncB ccB] 31 (0, 0))) := Lib.hid (by rw [hwn, hbZ]; exact tri_at _ _ _ _)
  have HB5 := Lib.hid (HB4.out.trans (hbn.mono HB4.out.size))
  have HRL_5 := Lib.hid (ListAt.below HRL_4.out hbn)
  have HRC_5 := Lib.hid (ListAt.below HRC_4.out hbn)
  have HRD_5 := Lib.hid (ListAt.below HRD_4.out hbn)
  clear HB4 HRL_4 HRC_4 HRD_4
  have HW5 := Lib.hid hwn
  have HPX := Lib.hid hbX
  have HPY := Lib.hid hbY
  have HPZ := Lib.hid hbZ
  clear hwn hbn hbX hbY hbZ
  go_upto_region 3 with fail
  rw [← HW5.out, ← HPZ.out, ← HPY.out, ← HPX.out]
  have hxX := HXX_5.out
  have zX_0 := obj_cell hxX 0
  have hxY := HXY_5.out
  have zY_0 := obj_cell hxY 0
  have zY_1 := obj_cell hxY 1
  have zY_2 := obj_cell hxY 2
  have zY_3 := obj_cell hxY 3
  simp at zX_0 zY_0 zY_1 zY_2 zY_3
  clear hxX hxY
  go_wp2_with fail
  clear zX_0 zY_0 zY_1 zY_2 zY_3
  refine (lawClose HOK.out (by have := HLEN.out; omega) HDAY.out HCBA.out (e := 1) (by decide) HCIA.out.1 HCIA.out.2.1 HCIA.out.2.2 (HFEW.out _ _ 120) (HFEW.out _ _ 119) _ _ w5 (HLAY.out _ HB5.out) HRL_5.out HRC_5.out).mono ?_
  rintro en w6 ⟨xv, rfl, hr, hbn⟩
  have HB6 := Lib.hid (HB5.out.trans (hbn.mono HB5.out.size))
  have HXX_6 := Lib.hid (obj_below HXX_5.out hbn)
  have HXY_6 := Lib.hid (obj_below HXY_5.out hbn)
  have HXZ_6 := Lib.hid (obj_below HXZ_5.out hbn)
  have HRL_6 := Lib.hid (ListAt.below HRL_5.out hbn)
  have HRC_6 := Lib.hid (ListAt.below HRC_5.out hbn)
  have HRD_6 := Lib.hid (ListAt.below HRD_5.out hbn)
  clear HB5 HXX_5 HXY_5 HXZ_5 HRL_5 HRC_5 HRD_5
  clear hbn
  have HXOK := Lib.hid (lawClose_ok HOK.out (by have := HLEN.out; omega) HDAY.out HCBA.out.le (e := 1) (by decide) HCIA.out.1 HCIA.out.2.1 HCIA.out.2.2 (HFEW.out _ _ 120) (HFEW.out _ _ 119))
  have HXD := Lib.hid (cls_days (e := 1) (i := iA) (u := uA) (p := pA) (o := oA) (r := rA) HDAY.out)
  have HXE : Hid (clsL l 1 iA uA pA oA rA = clsL l 1 iA uA pA oA rA) := Lib.hid rfl
  have HXN : Hid ((clsL l 1 iA uA pA oA rA).length ≤ l.length + 5) := Lib.hid (cls_len _ _ _ _ _ _ _)
  obtain ⟨x, hx⟩ : ∃ zz, zz = clsL l 1 iA uA pA oA rA := ⟨_, rfl⟩
  clear HXE
  have HXE := Lib.hid hx
  rw [← hx] at hr HXOK HXD HXN
  clear hx
  obtain ⟨ax, cx, rfl, -, -⟩ := PstsAt.open hr
  obtain ⟨nx, hnx⟩ : ∃ q, q = x.length := ⟨_, rfl⟩
  rw [← hnx]
  have HRX_6 : Hid (PstsAt w6 (.slice ax nx cx) x) := Lib.hid (by rw [hnx]; exact hr)
  clear hr hnx
  obtain ⟨w7, hwn⟩ : ∃ W, W = (w6.alloc (.cells #[.slice ax nx cx] 27)) := ⟨_, rfl⟩
  obtain ⟨bU, hbU⟩ : ∃ q, q = w6.heap.size := ⟨_, rfl⟩
  have hbn : Below w6.heap.size w6 w7 := by rw [hwn]; exact below_alloc _ _
  have HXU_7 : Hid (w7.heap[bU]? = some (.cells #[.slice ax nx cx] 27 (0, 0))) := Lib.hid (by rw [hwn, hbU]; exact heap_alloc_new _ _)
  have HB7 := Lib.hid (HB6.out.trans (hbn.mono HB6.out.size))
  have HXX_7 := Lib.hid (obj_below HXX_6.out hbn)
  have HXY_7 := Lib.hid (obj_below HXY_6.out hbn)
  have HXZ_7 := Lib.hid (obj_below HXZ_6.out hbn)
  have HRL_7 := Lib.hid (ListAt.below HRL_6.out hbn)
  have HRC_7 := Lib.hid (ListAt.below HRC_6.out hbn)
  have HRD_7 := Lib.hid (ListAt.below HRD_6.out hbn)
  have HRX_7 := Lib.hid (ListAt.below HRX_6.out hbn)
  clear HB6 HXX_6 HXY_6 HXZ_6 HRL_6 HRC_6 HRD_6 HRX_6
  have HW7 := Lib.hid hwn
  have HPU := Lib.hid hbU
  clear hwn hbn hbU
  go_upto_region 4 with fail
  rw [← HW7.out, ← HPU.out]
  have hxU := HXU_7.out
  have zU_0 := obj_cell hxU 0
  have hxZ := HXZ_7.out
  have zZ_0 := obj_cell hxZ 0
  have zZ_1 := obj_cell hxZ 1
  have zZ_2 := obj_cell hxZ 2
  have zZ_3 := obj_cell hxZ 3
  simp at zU_0 zZ_0 zZ_1 zZ_2 zZ_3
  clear hxU hxZ
  go_wp2_with fail
  clear zU_0 zZ_0 zZ_1 zZ_2 zZ_3
  refine (lawClose HXOK.out (by have h1 := HXN.out; have h2 := HLEN.out; omega) HXD.out HCBB.out (e := 2) (by decide) HCIB.out.1 HCIB.out.2.1 HCIB.out.2.2 (by rw [HXE.out, clsL_other _ _ _ _ _ _ _ (by decide) (by decide)]; exact HFEW.out _ _ 120) (by rw [HXE.out, clsL_other _ _ _ _ _ _ _ (by decide) (by decide)]; exact HFEW.out _ _ 119) _ _ w7 (HLAY.out _ HB7.out) HRX_7.out HRD_7.out).mono ?_
  rintro en w8 ⟨yv, rfl, hr, hbn⟩
  have HB8 := Lib.hid (HB7.out.trans (hbn.mono HB7.out.size))
  have HXX_8 := Lib.hid (obj_below HXX_7.out hbn)
  have HXY_8 := Lib.hid (obj_below HXY_7.out hbn)
  have HXZ_8 := Lib.hid (obj_below HXZ_7.out hbn)
  have HXU_8 := Lib.hid (obj_below HXU_7.out hbn)
  have HRL_8 := Lib.hid (ListAt.below HRL_7.out hbn)
  have HRC_8 := Lib.hid (ListAt.below HRC_7.out hbn)
  have HRD_8 := Lib.hid (ListAt.below HRD_7.out hbn)
  have HRX_8 := Lib.hid (ListAt.below HRX_7.out hbn)
  clear HB7 HXX_7 HXY_7 HXZ_7 HXU_7 HRL_7 HRC_7 HRD_7 HRX_7
  clear hbn
  have HYOK := Lib.hid (lawClose_ok HXOK.out (by have h1 := HXN.out; have h2 := HLEN.out; omega) HXD.out HCBB.out.le (e := 2) (by decide) HCIB.out.1 HCIB.out.2.1 HCIB.out.2.2 (by rw [HXE.out, clsL_other _ _ _ _ _ _ _ (by decide) (by decide)]; exact HFEW.out _ _ 120) (by rw [HXE.out, clsL_other _ _ _ _ _ _ _ (by decide) (by decide)]; exact HFEW.out _ _ 119))
  have HYD := Lib.hid (cls_days (e := 2) (i := iB) (u := uB) (p := pB) (o := oB) (r := rB) HXD.out)
  have HYE : Hid (clsL x 2 iB uB pB oB rB = clsL x 2 iB uB pB oB rB) := Lib.hid rfl
  have HYN : Hid ((clsL x 2 iB uB pB oB rB).length ≤ x.length + 5) := Lib.hid (cls_len _ _ _ _ _ _ _)
  obtain ⟨y, hy⟩ : ∃ zz, zz = clsL x 2 iB uB pB oB rB := ⟨_, rfl⟩
  clear HYE
  have HYE := Lib.hid hy
  rw [← hy] at hr HYOK HYD HYN
  clear hy
  obtain ⟨ay, cy, rfl, -, -⟩ := PstsAt.open hr
  obtain ⟨ny, hny⟩ : ∃ q, q = y.length := ⟨_, rfl⟩
  rw [← hny]
  have HRY_8 : Hid (PstsAt w8 (.slice ay ny cy) y) := Lib.hid (by rw [hny]; exact hr)
  clear hr hny
  obtain ⟨w9, hwn⟩ : ∃ W, W = (w8.alloc (.cells #[.slice ay ny cy] 27)) := ⟨_, rfl⟩
  obtain ⟨bV, hbV⟩ : ∃ q, q = w8.heap.size := ⟨_, rfl⟩
  have hbn : Below w8.heap.size w8 w9 := by rw [hwn]; exact below_alloc _ _
  have HXV_9 : Hid (w9.heap[bV]? = some (.cells #[.slice ay ny cy] 27 (0, 0))) := Lib.hid (by rw [hwn, hbV]; exact heap_alloc_new _ _)
  have HB9 := Lib.hid (HB8.out.trans (hbn.mono HB8.out.size))
  have HXX_9 := Lib.hid (obj_below HXX_8.out hbn)
  have HXY_9 := Lib.hid (obj_below HXY_8.out hbn)
  have HXZ_9 := Lib.hid (obj_below HXZ_8.out hbn)
  have HXU_9 := Lib.hid (obj_below HXU_8.out hbn)
  have HRL_9 := Lib.hid (ListAt.below HRL_8.out hbn)
  have HRC_9 := Lib.hid (ListAt.below HRC_8.out hbn)
  have HRD_9 := Lib.hid (ListAt.below HRD_8.out hbn)
  have HRX_9 := Lib.hid (ListAt.below HRX_8.out hbn)
  have HRY_9 := Lib.hid (ListAt.below HRY_8.out hbn)
  clear HB8 HXX_8 HXY_8 HXZ_8 HXU_8 HRL_8 HRC_8 HRD_8 HRX_8 HRY_8
  have HW9 := Lib.hid hwn
  have HPV := Lib.hid hbV
  clear hwn hbn hbV
  go_upto_region 5 with fail
  rw [← HW9.out, ← HPV.out]
  have hxX := HXX_9.out
  have zX_0 := obj_cell hxX 0
  have hxZ := HXZ_9.out
  have zZ_0 := obj_cell hxZ 0
  have zZ_1 := obj_cell hxZ 1
  have zZ_2 := obj_cell hxZ 2
  have zZ_3 := obj_cell hxZ 3
  simp at zX_0 zZ_0 zZ_1 zZ_2 zZ_3
  clear hxX hxZ
  go_wp2_with fail
  clear zX_0 zZ_0 zZ_1 zZ_2 zZ_3
  refine (lawClose HOK.out (by have := HLEN.out; omega) HDAY.out HCBB.out (e := 2) (by decide) HCIB.out.1 HCIB.out.2.1 HCIB.out.2.2 (HFEW.out _ _ 120) (HFEW.out _ _ 119) _ _ w9 (HLAY.out _ HB9.out) HRL_9.out HRD_9.out).mono ?_
  rintro en w10 ⟨mv, rfl, hr, hbn⟩
  have HB10 := Lib.hid (HB9.out.trans (hbn.mono HB9.out.size))
  have HXX_10 := Lib.hid (obj_below HXX_9.out hbn)
  have HXY_10 := Lib.hid (obj_below HXY_9.out hbn)
  have HXZ_10 := Lib.hid (obj_below HXZ_9.out hbn)
  have HXU_10 := Lib.hid (obj_below HXU_9.out hbn)
  have HXV_10 := Lib.hid (obj_below HXV_9.out hbn)
  have HRL_10 := Lib.hid (ListAt.below HRL_9.out hbn)
  have HRC_10 := Lib.hid (ListAt.below HRC_9.out hbn)
  have HRD_10 := Lib.hid (ListAt.below HRD_9.out hbn)
  have HRX_10 := Lib.hid (ListAt.below HRX_9.out hbn)
  have HRY_10 := Lib.hid (ListAt.below HRY_9.out hbn)
  clear HB9 HXX_9 HXY_9 HXZ_9 HXU_9 HXV_9 HRL_9 HRC_9 HRD_9 HRX_9 HRY_9
  clear hbn
  have HMOK := Lib.hid (lawClose_ok HOK.out (by have := HLEN.out; omega) HDAY.out HCBB.out.le (e := 2) (by decide) HCIB.out.1 HCIB.out.2.1 HCIB.out.2.2 (HFEW.out _ _ 120) (HFEW.out _ _ 119))
  have HMD := Lib.hid (cls_days (e := 2) (i := iB) (u := uB) (p := pB) (o := oB) (r := rB) HDAY.out)
  have HME : Hid (clsL l 2 iB uB pB oB rB = clsL l 2 iB uB pB oB rB) := Lib.hid rfl
  have HMN : Hid ((clsL l 2 iB uB pB oB rB).length ≤ l.length + 5) := Lib.hid (cls_len _ _ _ _ _ _ _)
  obtain ⟨m, hm⟩ : ∃ zz, zz = clsL l 2 iB uB pB oB rB := ⟨_, rfl⟩
  clear HME
  have HME := Lib.hid hm
  rw [← hm] at hr HMOK HMD HMN
  clear hm
  obtain ⟨am, cm, rfl, -, -⟩ := PstsAt.open hr
  obtain ⟨nm, hnm⟩ : ∃ q, q = m.length := ⟨_, rfl⟩
  rw [← hnm]
  have HRM_10 : Hid (PstsAt w10 (.slice am nm cm) m) := Lib.hid (by rw [hnm]; exact hr)
  clear hr hnm
  obtain ⟨w11, hwn⟩ : ∃ W, W = (w10.alloc (.cells #[.slice am nm cm] 27)) := ⟨_, rfl⟩
  obtain ⟨bS, hbS⟩ : ∃ q, q = w10.heap.size := ⟨_, rfl⟩
  have hbn : Below w10.heap.size w10 w11 := by rw [hwn]; exact below_alloc _ _
  have HXS_11 : Hid (w11.heap[bS]? = some (.cells #[.slice am nm cm] 27 (0, 0))) := Lib.hid (by rw [hwn, hbS]; exact heap_alloc_new _ _)
  have HB11 := Lib.hid (HB10.out.trans (hbn.mono HB10.out.size))
  have HXX_11 := Lib.hid (obj_below HXX_10.out hbn)
  have HXY_11 := Lib.hid (obj_below HXY_10.out hbn)
  have HXZ_11 := Lib.hid (obj_below HXZ_10.out hbn)
  have HXU_11 := Lib.hid (obj_below HXU_10.out hbn)
  have HXV_11 := Lib.hid (obj_below HXV_10.out hbn)
  have HRL_11 := Lib.hid (ListAt.below HRL_10.out hbn)
  have HRC_11 := Lib.hid (ListAt.below HRC_10.out hbn)
  have HRD_11 := Lib.hid (ListAt.below HRD_10.out hbn)
  have HRX_11 := Lib.hid (ListAt.below HRX_10.out hbn)
  have HRY_11 := Lib.hid (ListAt.below HRY_10.out hbn)
  have HRM_11 := Lib.hid (ListAt.below HRM_10.out hbn)
  clear HB10 HXX_10 HXY_10 HXZ_10 HXU_10 HXV_10 HRL_10 HRC_10 HRD_10 HRX_10 HRY_10 HRM_10
  have HW11 := Lib.hid hwn
  have HPS := Lib.hid hbS
  clear hwn hbn hbS
  go_upto_region 6 with fail
  rw [← HW11.out, ← HPS.out]
  have hxS := HXS_11.out
  have zS_0 := obj_cell hxS 0
  have hxY := HXY_11.out
  have zY_0 := obj_cell hxY 0
  have zY_1 := obj_cell hxY 1
  have zY_2 := obj_cell hxY 2
  have zY_3 := obj_cell hxY 3
  simp at zS_0 zY_0 zY_1 zY_2 zY_3
  clear hxS hxY
  go_wp2_with fail
  clear zS_0 zY_0 zY_1 zY_2 zY_3
  refine (lawClose HMOK.out (by have h1 := HMN.out; have h2 := HLEN.out; omega) HMD.out HCBA.out (e := 1) (by decide) HCIA.out.1 HCIA.out.2.1 HCIA.out.2.2 (by rw [HME.out, clsL_other _ _ _ _ _ _ _ (by decide) (by decide)]; exact HFEW.out _ _ 120) (by rw [HME.out, clsL_other _ _ _ _ _ _ _ (by decide) (by decide)]; exact HFEW.out _ _ 119) _ _ w11 (HLAY.out _ HB11.out) HRM_11.out HRC_11.out).mono ?_
  rintro en w12 ⟨kv, rfl, hr, hbn⟩
  have HB12 := Lib.hid (HB11.out.trans (hbn.mono HB11.out.size))
  have HXX_12 := Lib.hid (obj_below HXX_11.out hbn)
  have HXY_12 := Lib.hid (obj_below HXY_11.out hbn)
  have HXZ_12 := Lib.hid (obj_below HXZ_11.out hbn)
  have HXU_12 := Lib.hid (obj_below HXU_11.out hbn)
  have HXV_12 := Lib.hid (obj_below HXV_11.out hbn)
  have HXS_12 := Lib.hid (obj_below HXS_11.out hbn)
  have HRL_12 := Lib.hid (ListAt.below HRL_11.out hbn)
  have HRC_12 := Lib.hid (ListAt.below HRC_11.out hbn)
  have HRD_12 := Lib.hid (ListAt.below HRD_11.out hbn)
  have HRX_12 := Lib.hid (ListAt.below HRX_11.out hbn)
  have HRY_12 := Lib.hid (ListAt.below HRY_11.out hbn)
  have HRM_12 := Lib.hid (ListAt.below HRM_11.out hbn)
  clear HB11 HXX_11 HXY_11 HXZ_11 HXU_11 HXV_11 HXS_11 HRL_11 HRC_11 HRD_11 HRX_11 HRY_11 HRM_11
  clear hbn
  have HKOK := Lib.hid (lawClose_ok HMOK.out (by have h1 := HMN.out; have h2 := HLEN.out; omega) HMD.out HCBA.out.le (e := 1) (by decide) HCIA.out.1 HCIA.out.2.1 HCIA.out.2.2 (by rw [HME.out, clsL_other _ _ _ _ _ _ _ (by decide) (by decide)]; exact HFEW.out _ _ 120) (by rw [HME.out, clsL_other _ _ _ _ _ _ _ (by decide) (by decide)]; exact HFEW.out _ _ 119))
  have HKD := Lib.hid (cls_days (e := 1) (i := iA) (u := uA) (p := pA) (o := oA) (r := rA) HMD.out)
  have HKE : Hid (clsL m 1 iA uA pA oA rA = clsL m 1 iA uA pA oA rA) := Lib.hid rfl
  have HKN : Hid ((clsL m 1 iA uA pA oA rA).length ≤ m.length + 5) := Lib.hid (cls_len _ _ _ _ _ _ _)
  obtain ⟨k, hk⟩ : ∃ zz, zz = clsL m 1 iA uA pA oA rA := ⟨_, rfl⟩
  clear HKE
  have HKE := Lib.hid hk
  rw [← hk] at hr HKOK HKD HKN
  clear hk
  obtain ⟨ak, ck, rfl, -, -⟩ := PstsAt.open hr
  obtain ⟨nk, hnk⟩ : ∃ q, q = k.length := ⟨_, rfl⟩
  rw [← hnk]
  have HRK_12 : Hid (PstsAt w12 (.slice ak nk ck) k) := Lib.hid (by rw [hnk]; exact hr)
  clear hr hnk
  obtain ⟨w13, hwn⟩ : ∃ W, W = (w12.alloc (.cells #[.slice ak nk ck] 27)) := ⟨_, rfl⟩
  obtain ⟨bT, hbT⟩ : ∃ q, q = w12.heap.size := ⟨_, rfl⟩
  have hbn : Below w12.heap.size w12 w13 := by rw [hwn]; exact below_alloc _ _
  have HXT_13 : Hid (w13.heap[bT]? = some (.cells #[.slice ak nk ck] 27 (0, 0))) := Lib.hid (by rw [hwn, hbT]; exact heap_alloc_new _ _)
  have HB13 := Lib.hid (HB12.out.trans (hbn.mono HB12.out.size))
  have HXX_13 := Lib.hid (obj_below HXX_12.out hbn)
  have HXY_13 := Lib.hid (obj_below HXY_12.out hbn)
  have HXZ_13 := Lib.hid (obj_below HXZ_12.out hbn)
  have HXU_13 := Lib.hid (obj_below HXU_12.out hbn)
  have HXV_13 := Lib.hid (obj_below HXV_12.out hbn)
  have HXS_13 := Lib.hid (obj_below HXS_12.out hbn)
  have HRL_13 := Lib.hid (ListAt.below HRL_12.out hbn)
  have HRC_13 := Lib.hid (ListAt.below HRC_12.out hbn)
  have HRD_13 := Lib.hid (ListAt.below HRD_12.out hbn)
  have HRX_13 := Lib.hid (ListAt.below HRX_12.out hbn)
  have HRY_13 := Lib.hid (ListAt.below HRY_12.out hbn)
  have HRM_13 := Lib.hid (ListAt.below HRM_12.out hbn)
  have HRK_13 := Lib.hid (ListAt.below HRK_12.out hbn)
  clear HB12 HXX_12 HXY_12 HXZ_12 HXU_12 HXV_12 HXS_12 HRL_12 HRC_12 HRD_12 HRX_12 HRY_12 HRM_12 HRK_12
  have HW13 := Lib.hid hwn
  have HPT := Lib.hid hbT
  clear hwn hbn hbT
  go_upto_region 7 with fail
  rw [← HW13.out, ← HPT.out]
  have HTW : Hid (∀ j : Int, j = 1 ∨ j = 2 → ∀ a, ofM j (byDay 719) a k = ofM j (byDay 719) a y) := Lib.hid fun j hk a => by rw [HKE.out, HYE.out, HME.out, HXE.out]; exact (clsL_twice l iA uA pA oA rA iB uB pB oB rB a hk).symm
  have HX2 : Hid (∀ a, ofM 2 (byDay 719) a x = ofM 2 (byDay 719) a l) := Lib.hid fun a => by rw [HXE.out]; exact clsL_other _ _ _ _ _ _ _ (by decide) (by decide)
  have HS1 : Hid (∀ a, ofM 1 (byDay 719) a m = ofM 1 (byDay 719) a l) := Lib.hid fun a => by rw [HME.out]; exact clsL_other _ _ _ _ _ _ _ (by decide) (by decide)
  clear HKE HYE HME HXE
  go_wp2
  go_loopw [15] (fun kv wr => ∃ kk : Int, kv = .int .i64 kk ∧ 1 ≤ kk ∧ kk ≤ 3 ∧ Hid (Below w13.heap.size w13 wr)) (fun kv _ => (3 - RowKit.intOf kv).toNat)
  case atStart => exact ⟨1, rfl, by omega, by omega, Lib.hid (Below.refl _ _)⟩
  case round =>
    obtain ⟨kk, rfl, hk1, hk3, HB⟩ := hrel
    by_cases hlt : kk ≤ 2
    · have hwk : IntKind.i64.wrap (kk + 1) = kk + 1 := IntWalk.i64_in _ (by omega)
      obtain ⟨BL, hBL⟩ : ∃ B, B = balsN (fun i : Nat => ofM kk (byDay 719) (100 + (i : Int)) y) 500 := ⟨_, rfl⟩
      have HLB : Hid (BL.length ≤ 1000000) := Lib.hid (by rw [hBL]; have := balsN_len (fun i : Nat => ofM kk (byDay 719) (100 + (i : Int)) y) 500; omega)
      have HEQ : Hid (balsN (fun i : Nat => ofM kk (byDay 719) (100 + (i : Int)) k) 500 = BL) := Lib.hid (by rw [hBL]; exact bals_congr (fun i => HTW.out kk (by omega) _) 500)
      have HEY : Hid (balsN (fun i : Nat => ofM kk (byDay 719) (100 + (i : Int)) y) 500 = BL) := Lib.hid hBL.symm
      clear hBL
      obtain ⟨J, hJ⟩ : ∃ J, J = fun W : World => Below wr.heap.size wr W := ⟨_, rfl⟩
      have HJO : Hid (∀ W, J W → Below wr.heap.size wr W) := Lib.hid fun W hW => by rw [hJ] at hW; exact hW
      have HJI : Hid (∀ W, Below wr.heap.size wr W → J W) := Lib.hid fun W hW => by rw [hJ]; exact hW
      have HJD : Hid (∀ W, J W → J W.drew) := Lib.hid fun W hW => HJI.out _ ((HJO.out W hW).drew)
      have HJ0 : Hid (J wr) := Lib.hid (HJI.out _ (Below.refl _ _))
      have HJB : Hid (∀ W, J W → Below w13.heap.size w13 W) := Lib.hid fun W hW => HB.out.trans ((HJO.out W hW).mono HB.out.size)
      clear hJ
      have HMV : Hid (∀ W, J W → ∀ i, W.cell? ⟨bV, i, none⟩ = #[.slice ay ny cy][i]?) := Lib.hid fun W hW i => obj_cell (obj_below HXV_13.out (HJB.out W hW)) i
      have HMT : Hid (∀ W, J W → ∀ i, W.cell? ⟨bT, i, none⟩ = #[.slice ak nk ck][i]?) := Lib.hid fun W hW i => obj_cell (obj_below HXT_13.out (HJB.out W hW)) i
      have HBY : Hid (∀ W, J W → Calls Tryz.prog 19 #[.agg #[.slice ay ny cy], .int .i64 kk, .int .i64 719] W fun e w' => ∃ u, e = .returned u ∧ ListAt balC 2 w' u BL ∧ J w' ∧ Below W.heap.size W w') := Lib.hid fun W hW => by
        have h := rgBalances_right HYOK.out kk 719 _ W (ListAt.below HRY_13.out (HJB.out W hW)) (by first | decide | omega)
        rw [HEY.out] at h
        exact h.mono fun e w' g => by obtain ⟨u, g1, g2, g3⟩ := g; exact ⟨u, g1, g2, HJI.out _ ((HJO.out W hW).trans (g3.mono (HJO.out W hW).size)), g3⟩
      have HBT : Hid (∀ W, J W → Calls Tryz.prog 19 #[.agg #[.slice ak nk ck], .int .i64 kk, .int .i64 719] W fun e w' => ∃ u, e = .returned u ∧ ListAt balC 2 w' u BL ∧ J w' ∧ Below W.heap.size W w') := Lib.hid fun W hW => by
        have h := rgBalances_right HKOK.out kk 719 _ W (ListAt.below HRK_13.out (HJB.out W hW)) (by first | decide | omega)
        rw [HEQ.out] at h
        exact h.mono fun e w' g => by obtain ⟨u, g1, g2, g3⟩ := g; exact ⟨u, g1, g2, HJI.out _ ((HJO.out W hW).trans (g3.mono (HJO.out W hW).size)), g3⟩
      have HSM : Hid (∀ (W : World) (u v : Value), J W → ListAt balC 2 W u BL → ListAt balC 2 W v BL → Calls Tryz.prog 18 #[u, v] W fun e w' => e = .returned (.bool true) ∧ J w' ∧ Below W.heap.size W w') := Lib.hid fun W u v hW hu hv => (rgListedSame_same _ HLB.out u v W hu hv).mono fun e w' g => ⟨g.1, HJI.out _ ((HJO.out W hW).trans (g.2.mono (HJO.out W hW).size)), g.2⟩
      have egB := enters_of Tryz.func19 (by kernel_rfl) rfl
      have egL := enters_of Tryz.func18 (by kernel_rfl) rfl
      go_upto_region 12 with fail
      obtain ⟨P, hP⟩ : ∃ P : Nat → Value → World → Prop, P = fun j v W => match j with | 0 => (v = .agg #[.slice ay ny cy]) | 1 => (v = .int .i64 kk) | 2 => (∃ u2, v = u2 ∧ ListAt balC 2 W u2 BL) | 3 => (v = .agg #[.slice ak nk ck]) | 4 => (v = .int .i64 kk) | 5 => (∃ u5, v = u5 ∧ ListAt balC 2 W u5 BL) | 6 => (v = .bool true) | 7 => (v = .bool false) | _ => True := ⟨_, rfl⟩
      have HPI0 : Hid (∀ v W, P 0 v W ↔ (v = .agg #[.slice ay ny cy])) := Lib.hid fun v W => by rw [hP] <;> exact Iff.rfl
      have HPI1 : Hid (∀ v W, P 1 v W ↔ (v = .int .i64 kk)) := Lib.hid fun v W => by rw [hP] <;> exact Iff.rfl
      have HPI2 : Hid (∀ v W, P 2 v W ↔ (∃ u2, v = u2 ∧ ListAt balC 2 W u2 BL)) := Lib.hid fun v W => by rw [hP] <;> exact Iff.rfl
      have HPI3 : Hid (∀ v W, P 3 v W ↔ (v = .agg #[.slice ak nk ck])) := Lib.hid fun v W => by rw [hP] <;> exact Iff.rfl
      have HPI4 : Hid (∀ v W, P 4 v W ↔ (v = .int .i64 kk)) := Lib.hid fun v W => by rw [hP] <;> exact Iff.rfl
      have HPI5 : Hid (∀ v W, P 5 v W ↔ (∃ u5, v = u5 ∧ ListAt balC 2 W u5 BL)) := Lib.hid fun v W => by rw [hP] <;> exact Iff.rfl
      have HPI6 : Hid (∀ v W, P 6 v W ↔ (v = .bool true)) := Lib.hid fun v W => by rw [hP] <;> exact Iff.rfl
      have HPI7 : Hid (∀ v W, P 7 v W ↔ (v = .bool false)) := Lib.hid fun v W => by rw [hP] <;> exact Iff.rfl
      have HKP : Hid (∀ (j : Nat) v W W', Below W.heap.size W W' → P j v W → P j v W') := Lib.hid (by
        rw [hP]
        intro j v W W' hb h
        match j, h with
        | 0, h => exact h
        | 1, h => exact h
        | 2, ⟨u2, e, s0⟩ => exact ⟨u2, e, ListAt.below s0 hb⟩
        | 3, h => exact h
        | 4, h => exact h
        | 5, ⟨u5, e, s0⟩ => exact ⟨u5, e, ListAt.below s0 hb⟩
        | 6, h => exact h
        | 7, h => exact h
        | j + 8, _ => trivial)
      clear hP
      go_cut [73] (fun dv wx => dv = .bool false ∧ Hid (J wx))
      case first =>
        refine wp_region_props [66, 67, 68, 69, 70, 71, 72, 73] (slotS [66, 67, 68, 69, 70, 71, 72, 73]) (readsS [66, 67, 68, 69, 70, 71, 72, 73]) (RP [66, 67, 68, 69, 70, 71, 72, 73] P) J (by kernel_rfl) (by kernel_rfl) (by kernel_rfl) (HJD.out _ HJ0.out) (fun j f q v W hq h => RP.upd hq h) ?_ ?_
        case refine_1 =>
          intro iq hiq f W hIW hdep0
          have hiq' : iq < 8 := hiq
          have hdep : ∀ j, depB _ iq j = true → P j (f (slotS [66, 67, 68, 69, 70, 71, 72, 73] j)) W := hdep0
          clear hdep0
          generalize ha1 : putsL _ [66, 67, 68, 69, 70, 71, 72, 73] f = a1
          match iq, hiq', hdep with
          | 0, _, hdep0 =>
            have E9 : a1.tmps[9]?.getD undef = .pointer (some ⟨bV, 0, none⟩) := by rw [← ha1]; exact (putsL_out2 _ _ _ _ (by decide)).trans rfl
            have v0 : W.cell? ⟨bV, 0, none⟩ = some (.slice ay ny cy) := by simpa using HMV.out W hIW 0
            exact wpOp_val rfl rfl (v := .agg #[.slice ay ny cy]) (w' := W) (by simp [execOp, go_sem, E9, v0]) ⟨hIW, fun _ h => h, Or.inl ⟨_, by decide, rfl, RP.set ((HPI0.out _ _).2 rfl)⟩⟩
          | 1, _, hdep0 =>
            have E15 : a1.tmps[15]?.getD undef = .int .i64 kk := by rw [← ha1]; exact (putsL_out2 _ _ _ _ (by decide)).trans rfl
            exact wpOp_val rfl rfl (v := .int .i64 kk) (w' := W) (by simp [execOp, go_sem, E15]) ⟨hIW, fun _ h => h, Or.inl ⟨_, by decide, rfl, RP.set ((HPI1.out _ _).2 rfl)⟩⟩
          | 2, _, hdep0 =>
            have hd0 := (HPI0.out _ _).1 (hdep0 0 (by kernel_rfl))
            have hd1 := (HPI1.out _ _).1 (hdep0 1 (by kernel_rfl))
            have E66 : a1.tmps[66]?.getD undef = .agg #[.slice ay ny cy] := by rw [← ha1]; exact (putsL_in2 _ _ _ _ (by decide) (show 66 < 89 from by decide)).trans hd0
            have E67 : a1.tmps[67]?.getD undef = .int .i64 kk := by rw [← ha1]; exact (putsL_in2 _ _ _ _ (by decide) (show 67 < 89 from by decide)).trans hd1
            refine wpOp_call rfl rfl (n := 19) (vs := #[.agg #[.slice ay ny cy], .int .i64 kk, .int .i64 719]) (by have := egB #[.agg #[.slice ay ny cy], .int .i64 kk, .int .i64 719] W; simp [execOp, E66, E67, resolve, invoke, go_sem] <;> exact this) ((HBY.out W hIW).mono fun e w' hh => (by obtain ⟨u2, rfl, p0, hJ', hb'⟩ := hh; exact ⟨_, rfl, (HPI2.out _ _).2 ⟨_, rfl, p0⟩, hJ', hb'⟩ : ∃ v, e = .returned v ∧ (P 2 v w' ∧ J w' ∧ Below W.heap.size W w'))) ?_
            rintro v w' ⟨hv, hI', hb'⟩
            exact ⟨hI', fun j h => HKP.out j _ _ _ hb' h, Or.inl ⟨_, by decide, rfl, RP.set hv⟩⟩
          | 3, _, hdep0 =>
            have E13 : a1.tmps[13]?.getD undef = .pointer (some ⟨bT, 0, none⟩) := by rw [← ha1]; exact (putsL_out2 _ _ _ _ (by decide)).trans rfl
            have v0 : W.cell? ⟨bT, 0, none⟩ = some (.slice ak nk ck) := by simpa using HMT.out W hIW 0
            exact wpOp_val rfl rfl (v := .agg #[.slice ak nk ck]) (w' := W) (by simp [execOp, go_sem, E13, v0]) ⟨hIW, fun _ h => h, Or.inl ⟨_, by decide, rfl, RP.set ((HPI3.out _ _).2 rfl)⟩⟩
          | 4, _, hdep0 =>
            have E15 : a1.tmps[15]?.getD undef = .int .i64 kk := by rw [← ha1]; exact (putsL_out2 _ _ _ _ (by decide)).trans rfl
            exact wpOp_val rfl rfl (v := .int .i64 kk) (w' := W) (by simp [execOp, go_sem, E15]) ⟨hIW, fun _ h => h, Or.inl ⟨_, by decide, rfl, RP.set ((HPI4.out _ _).2 rfl)⟩⟩
          | 5, _, hdep0 =>
            have hd3 := (HPI3.out _ _).1 (hdep0 3 (by kernel_rfl))
            have hd4 := (HPI4.out _ _).1 (hdep0 4 (by kernel_rfl))
            have E69 : a1.tmps[69]?.getD undef = .agg #[.slice ak nk ck] := by rw [← ha1]; exact (putsL_in2 _ _ _ _ (by decide) (show 69 < 89 from by decide)).trans hd3
            have E70 : a1.tmps[70]?.getD undef = .int .i64 kk := by rw [← ha1]; exact (putsL_in2 _ _ _ _ (by decide) (show 70 < 89 from by decide)).trans hd4
            refine wpOp_call rfl rfl (n := 19) (vs := #[.agg #[.slice ak nk ck], .int .i64 kk, .int .i64 719]) (by have := egB #[.agg #[.slice ak nk ck], .int .i64 kk, .int .i64 719] W; simp [execOp, E69, E70, resolve, invoke, go_sem] <;> exact this) ((HBT.out W hIW).mono fun e w' hh => (by obtain ⟨u5, rfl, p0, hJ', hb'⟩ := hh; exact ⟨_, rfl, (HPI5.out _ _).2 ⟨_, rfl, p0⟩, hJ', hb'⟩ : ∃ v, e = .returned v ∧ (P 5 v w' ∧ J w' ∧ Below W.heap.size W w'))) ?_
            rintro v w' ⟨hv, hI', hb'⟩
            exact ⟨hI', fun j h => HKP.out j _ _ _ hb' h, Or.inl ⟨_, by decide, rfl, RP.set hv⟩⟩
          | 6, _, hdep0 =>
            have hd2 := (HPI2.out _ _).1 (hdep0 2 (by kernel_rfl))
            have hd5 := (HPI5.out _ _).1 (hdep0 5 (by kernel_rfl))
            obtain ⟨u2, q2, r2_0⟩ := hd2
            have E68 : a1.tmps[68]?.getD undef = u2 := by rw [← ha1]; exact (putsL_in2 _ _ _ _ (by decide) (show 68 < 89 from by decide)).trans q2
            obtain ⟨u5, q5, r5_0⟩ := hd5
            have E71 : a1.tmps[71]?.getD undef = u5 := by rw [← ha1]; exact (putsL_in2 _ _ _ _ (by decide) (show 71 < 89 from by decide)).trans q5
            refine wpOp_call rfl rfl (n := 18) (vs := #[u2, u5]) (by have := egL #[u2, u5] W; simp [execOp, E68, E71, resolve, invoke, go_sem] <;> exact this) ((HSM.out W _ _ hIW r2_0 r5_0).mono fun e w' hh => (by obtain ⟨rfl, hJ', hb'⟩ := hh; exact ⟨_, rfl, (HPI6.out _ _).2 rfl, hJ', hb'⟩ : ∃ v, e = .returned v ∧ (P 6 v w' ∧ J w' ∧ Below W.heap.size W w'))) ?_
            rintro v w' ⟨hv, hI', hb'⟩
            exact ⟨hI', fun j h => HKP.out j _ _ _ hb' h, Or.inl ⟨_, by decide, rfl, RP.set hv⟩⟩
          | 7, _, hdep0 =>
            have hd6 := (HPI6.out _ _).1 (hdep0 6 (by kernel_rfl))
            have E72 : a1.tmps[72]?.getD undef = .bool true := by rw [← ha1]; exact (putsL_in2 _ _ _ _ (by decide) (show 72 < 89 from by decide)).trans hd6
            exact wpOp_val rfl rfl (v := .bool false) (w' := W) (by simp [execOp, go_sem, E72]) ⟨hIW, fun _ h => h, Or.inl ⟨_, by decide, rfl, RP.set ((HPI7.out _ _).2 rfl)⟩⟩
          | iq + 8, h, _ => exact absurd h (by omega)
        case refine_2 =>
          intro f W hIW hR
          have h73 := (HPI7.out _ _).1 (hR 7 (show 7 < 8 from by decide))
          simp only [putsL, List.foldl_cons, List.foldl_nil, Act.put, List.setIfInBounds_toArray, List.set_cons_zero, List.set_cons_succ]
          go_wp2
          go_meet
          exact ⟨(by first | exact h73 | rfl), Lib.hid hIW⟩
      case rest =>
        obtain ⟨rfl, HJ⟩ := hcut
        have HBN := Lib.hid (HJB.out _ HJ.out)
        clear HJ HJO HJI HJD HJ0 HJB HMV HMT HBY HBT HSM
        go_wp2
        go_roundw
        case rel => exact ⟨kk + 1, rfl, by omega, by omega, HBN⟩
        case measure => simp [RowKit.intOf]; omega
    · obtain rfl : kk = 3 := by omega
      clear HTW
      obtain ⟨B1, hB1⟩ : ∃ B, B = balsN (fun i : Nat => ofM 1 (byDay 719) (100 + (i : Int)) l) 500 := ⟨_, rfl⟩
      obtain ⟨B2, hB2⟩ : ∃ B, B = balsN (fun i : Nat => ofM 2 (byDay 719) (100 + (i : Int)) l) 500 := ⟨_, rfl⟩
      have HL1 : Hid (B1.length ≤ 1000000) := Lib.hid (by rw [hB1]; have := balsN_len (fun i : Nat => ofM 1 (byDay 719) (100 + (i : Int)) l) 500; omega)
      have HL2 : Hid (B2.length ≤ 1000000) := Lib.hid (by rw [hB2]; have := balsN_len (fun i : Nat => ofM 2 (byDay 719) (100 + (i : Int)) l) 500; omega)
      have HE1 : Hid (balsN (fun i : Nat => ofM 1 (byDay 719) (100 + (i : Int)) m) 500 = B1) := Lib.hid (by rw [hB1]; exact bals_congr (fun i => HS1.out _) 500)
      have HE2 : Hid (balsN (fun i : Nat => ofM 2 (byDay 719) (100 + (i : Int)) x) 500 = B2) := Lib.hid (by rw [hB2]; exact bals_congr (fun i => HX2.out _) 500)
      have HB1 := Lib.hid hB1.symm
      have HB2 := Lib.hid hB2.symm
      clear hB1 hB2
      obtain ⟨J, hJ⟩ : ∃ J, J = fun W : World => Below wr.heap.size wr W := ⟨_, rfl⟩
      have HJO : Hid (∀ W, J W → Below wr.heap.size wr W) := Lib.hid fun W hW => by rw [hJ] at hW; exact hW
      have HJI : Hid (∀ W, Below wr.heap.size wr W → J W) := Lib.hid fun W hW => by rw [hJ]; exact hW
      have HJD : Hid (∀ W, J W → J W.drew) := Lib.hid fun W hW => HJI.out _ ((HJO.out W hW).drew)
      have HJ0 : Hid (J wr) := Lib.hid (HJI.out _ (Below.refl _ _))
      have HJB : Hid (∀ W, J W → Below w13.heap.size w13 W) := Lib.hid fun W hW => HB.out.trans ((HJO.out W hW).mono HB.out.size)
      clear hJ
      have HMX : Hid (∀ W, J W → ∀ i, W.cell? ⟨bX, i, none⟩ = #[.slice al nl cpl][i]?) := Lib.hid fun W hW i => obj_cell (obj_below HXX_13.out (HJB.out W hW)) i
      have HMU : Hid (∀ W, J W → ∀ i, W.cell? ⟨bU, i, none⟩ = #[.slice ax nx cx][i]?) := Lib.hid fun W hW i => obj_cell (obj_below HXU_13.out (HJB.out W hW)) i
      have HMS : Hid (∀ W, J W → ∀ i, W.cell? ⟨bS, i, none⟩ = #[.slice am nm cm][i]?) := Lib.hid fun W hW i => obj_cell (obj_below HXS_13.out (HJB.out W hW)) i
      have HC1 : Hid (∀ W, J W → Calls Tryz.prog 19 #[.agg #[.slice al nl cpl], .int .i64 1, .int .i64 719] W fun e w' => ∃ u, e = .returned u ∧ ListAt balC 2 w' u B1 ∧ J w' ∧ Below W.heap.size W w') := Lib.hid fun W hW => by
        have h := rgBalances_right HOK.out 1 719 _ W (ListAt.below HRL_13.out (HJB.out W hW)) (by first | decide | omega)
        rw [HB1.out] at h
        exact h.mono fun e w' g => by obtain ⟨u, g1, g2, g3⟩ := g; exact ⟨u, g1, g2, HJI.out _ ((HJO.out W hW).trans (g3.mono (HJO.out W hW).size)), g3⟩
      have HC2 : Hid (∀ W, J W → Calls Tryz.prog 19 #[.agg #[.slice al nl cpl], .int .i64 2, .int .i64 719] W fun e w' => ∃ u, e = .returned u ∧ ListAt balC 2 w' u B2 ∧ J w' ∧ Below W.heap.size W w') := Lib.hid fun W hW => by
        have h := rgBalances_right HOK.out 2 719 _ W (ListAt.below HRL_13.out (HJB.out W hW)) (by first | decide | omega)
        rw [HB2.out] at h
        exact h.mono fun e w' g => by obtain ⟨u, g1, g2, g3⟩ := g; exact ⟨u, g1, g2, HJI.out _ ((HJO.out W hW).trans (g3.mono (HJO.out W hW).size)), g3⟩
      have HC3 : Hid (∀ W, J W → Calls Tryz.prog 19 #[.agg #[.slice ax nx cx], .int .i64 2, .int .i64 719] W fun e w' => ∃ u, e = .returned u ∧ ListAt balC 2 w' u B2 ∧ J w' ∧ Below W.heap.size W w') := Lib.hid fun W hW => by
        have h := rgBalances_right HXOK.out 2 719 _ W (ListAt.below HRX_13.out (HJB.out W hW)) (by first | decide | omega)
        rw [HE2.out] at h
        exact h.mono fun e w' g => by obtain ⟨u, g1, g2, g3⟩ := g; exact ⟨u, g1, g2, HJI.out _ ((HJO.out W hW).trans (g3.mono (HJO.out W hW).size)), g3⟩
      have HC4 : Hid (∀ W, J W → Calls Tryz.prog 19 #[.agg #[.slice am nm cm], .int .i64 1, .int .i64 719] W fun e w' => ∃ u, e = .returned u ∧ ListAt balC 2 w' u B1 ∧ J w' ∧ Below W.heap.size W w') := Lib.hid fun W hW => by
        have h := rgBalances_right HMOK.out 1 719 _ W (ListAt.below HRM_13.out (HJB.out W hW)) (by first | decide | omega)
        rw [HE1.out] at h
        exact h.mono fun e w' g => by obtain ⟨u, g1, g2, g3⟩ := g; exact ⟨u, g1, g2, HJI.out _ ((HJO.out W hW).trans (g3.mono (HJO.out W hW).size)), g3⟩
      have HSM1 : Hid (∀ (W : World) (u v : Value), J W → ListAt balC 2 W u B1 → ListAt balC 2 W v B1 → Calls Tryz.prog 18 #[u, v] W fun e w' => e = .returned (.bool true) ∧ J w' ∧ Below W.heap.size W w') := Lib.hid fun W u v hW hu hv => (rgListedSame_same _ HL1.out u v W hu hv).mono fun e w' g => ⟨g.1, HJI.out _ ((HJO.out W hW).trans (g.2.mono (HJO.out W hW).size)), g.2⟩
      have HSM2 : Hid (∀ (W : World) (u v : Value), J W → ListAt balC 2 W u B2 → ListAt balC 2 W v B2 → Calls Tryz.prog 18 #[u, v] W fun e w' => e = .returned (.bool true) ∧ J w' ∧ Below W.heap.size W w') := Lib.hid fun W u v hW hu hv => (rgListedSame_same _ HL2.out u v W hu hv).mono fun e w' g => ⟨g.1, HJI.out _ ((HJO.out W hW).trans (g.2.mono (HJO.out W hW).size)), g.2⟩
      have HSN : Hid (∀ W, J W → Calls Tryz.prog 15 #[] W fun e w' => e = .returned (.bool true) ∧ J w' ∧ Below W.heap.size W w') := Lib.hid fun W hW => (sane41_true W (HLAY.out _ (HB13.out.trans ((HJB.out W hW).mono HB13.out.size)))).mono fun e w' g => ⟨g.1, HJI.out _ ((HJO.out W hW).trans (g.2.mono (HJO.out W hW).size)), g.2⟩
      have HJW : Hid (∀ W, J W → Below w.heap.size w W) := Lib.hid fun W hW => HB13.out.trans ((HJB.out W hW).mono HB13.out.size)
      have egB := enters_of Tryz.func19 (by kernel_rfl) rfl
      have egL := enters_of Tryz.func18 (by kernel_rfl) rfl
      have egS := enters_of Tryz.func15 (by kernel_rfl) rfl
      go_upto_region 14 with fail
      obtain ⟨P, hP⟩ : ∃ P : Nat → Value → World → Prop, P = fun j v W => match j with | 0 => (v = .agg #[.slice ax nx cx]) | 1 => (∃ u1, v = u1 ∧ ListAt balC 2 W u1 B2) | 2 => (v = .agg #[.slice al nl cpl]) | 3 => (∃ u3, v = u3 ∧ ListAt balC 2 W u3 B2) | 4 => (v = .bool true) | 5 => (v = .bool true) | 6 => (v = .agg #[.slice am nm cm]) | 7 => (∃ u7, v = u7 ∧ ListAt balC 2 W u7 B1) | 8 => (v = .agg #[.slice al nl cpl]) | 9 => (∃ u9, v = u9 ∧ ListAt balC 2 W u9 B1) | 10 => (v = .bool true) | 11 => (v = .bool true) | 12 => (v = .bool true) | 13 => (v = .bool true) | 14 => (v = .bool true) | 15 => (v = .bool true) | _ => True := ⟨_, rfl⟩
      have HPI0 : Hid (∀ v W, P 0 v W ↔ (v = .agg #[.slice ax nx cx])) := Lib.hid fun v W => by rw [hP] <;> exact Iff.rfl
      have HPI1 : Hid (∀ v W, P 1 v W ↔ (∃ u1, v = u1 ∧ ListAt balC 2 W u1 B2)) := Lib.hid fun v W => by rw [hP] <;> exact Iff.rfl
      have HPI2 : Hid (∀ v W, P 2 v W ↔ (v = .agg #[.slice al nl cpl])) := Lib.hid fun v W => by rw [hP] <;> exact Iff.rfl
      have HPI3 : Hid (∀ v W, P 3 v W ↔ (∃ u3, v = u3 ∧ ListAt balC 2 W u3 B2)) := Lib.hid fun v W => by rw [hP] <;> exact Iff.rfl
      have HPI4 : Hid (∀ v W, P 4 v W ↔ (v = .bool true)) := Lib.hid fun v W => by rw [hP] <;> exact Iff.rfl
      have HPI5 : Hid (∀ v W, P 5 v W ↔ (v = .bool true)) := Lib.hid fun v W => by rw [hP] <;> exact Iff.rfl
      have HPI6 : Hid (∀ v W, P 6 v W ↔ (v = .agg #[.slice am nm cm])) := Lib.hid fun v W => by rw [hP] <;> exact Iff.rfl
      have HPI7 : Hid (∀ v W, P 7 v W ↔ (∃ u7, v = u7 ∧ ListAt balC 2 W u7 B1)) := Lib.hid fun v W => by rw [hP] <;> exact Iff.rfl
      have HPI8 : Hid (∀ v W, P 8 v W ↔ (v = .agg #[.slice al nl cpl])) := Lib.hid fun v W => by rw [hP] <;> exact Iff.rfl
      have HPI9 : Hid (∀ v W, P 9 v W ↔ (∃ u9, v = u9 ∧ ListAt balC 2 W u9 B1)) := Lib.hid fun v W => by rw [hP] <;> exact Iff.rfl
      have HPI10 : Hid (∀ v W, P 10 v W ↔ (v = .bool true)) := Lib.hid fun v W => by rw [hP] <;> exact Iff.rfl
      have HPI11 : Hid (∀ v W, P 11 v W ↔ (v = .bool true)) := Lib.hid fun v W => by rw [hP] <;> exact Iff.rfl
      have HPI12 : Hid (∀ v W, P 12 v W ↔ (v = .bool true)) := Lib.hid fun v W => by rw [hP] <;> exact Iff.rfl
      have HPI13 : Hid (∀ v W, P 13 v W ↔ (v = .bool true)) := Lib.hid fun v W => by rw [hP] <;> exact Iff.rfl
      have HPI14 : Hid (∀ v W, P 14 v W ↔ (v = .bool true)) := Lib.hid fun v W => by rw [hP] <;> exact Iff.rfl
      have HPI15 : Hid (∀ v W, P 15 v W ↔ (v = .bool true)) := Lib.hid fun v W => by rw [hP] <;> exact Iff.rfl
      have HKP : Hid (∀ (j : Nat) v W W', Below W.heap.size W W' → P j v W → P j v W') := Lib.hid (by
        rw [hP]
        intro j v W W' hb h
        match j, h with
        | 0, h => exact h
        | 1, ⟨u1, e, s0⟩ => exact ⟨u1, e, ListAt.below s0 hb⟩
        | 2, h => exact h
        | 3, ⟨u3, e, s0⟩ => exact ⟨u3, e, ListAt.below s0 hb⟩
        | 4, h => exact h
        | 5, h => exact h
        | 6, h => exact h
        | 7, ⟨u7, e, s0⟩ => exact ⟨u7, e, ListAt.below s0 hb⟩
        | 8, h => exact h
        | 9, ⟨u9, e, s0⟩ => exact ⟨u9, e, ListAt.below s0 hb⟩
        | 10, h => exact h
        | 11, h => exact h
        | 12, h => exact h
        | 13, h => exact h
        | 14, h => exact h
        | 15, h => exact h
        | j + 16, _ => trivial)
      clear hP
      go_cut [2] (fun dv wx => dv = .bool true ∧ Hid (J wx))
      case first =>
        refine wp_region_props [74, 75, 76, 77, 78, 79, 80, 81, 82, 83, 84, 85, 86, 87, 88, 2] (slotS [74, 75, 76, 77, 78, 79, 80, 81, 82, 83, 84, 85, 86, 87, 88, 2]) (readsS [74, 75, 76, 77, 78, 79, 80, 81, 82, 83, 84, 85, 86, 87, 88, 2]) (RP [74, 75, 76, 77, 78, 79, 80, 81, 82, 83, 84, 85, 86, 87, 88, 2] P) J (by kernel_rfl) (by kernel_rfl) (by kernel_rfl) (HJD.out _ HJ0.out) (fun j f q v W hq h => RP.upd hq h) ?_ ?_
        case refine_1 =>
          intro iq hiq f W hIW hdep0
          have hiq' : iq < 16 := hiq
          have hdep : ∀ j, depB _ iq j = true → P j (f (slotS [74, 75, 76, 77, 78, 79, 80, 81, 82, 83, 84, 85, 86, 87, 88, 2] j)) W := hdep0
          clear hdep0
          generalize ha1 : putsL _ [74, 75, 76, 77, 78, 79, 80, 81, 82, 83, 84, 85, 86, 87, 88, 2] f = a1
          match iq, hiq', hdep with
          | 0, _, hdep0 =>
            have E7 : a1.tmps[7]?.getD undef = .pointer (some ⟨bU, 0, none⟩) := by rw [← ha1]; exact (putsL_out2 _ _ _ _ (by decide)).trans rfl
            have v0 : W.cell? ⟨bU, 0, none⟩ = some (.slice ax nx cx) := by simpa using HMU.out W hIW 0
            exact wpOp_val rfl rfl (v := .agg #[.slice ax nx cx]) (w' := W) (by simp [execOp, go_sem, E7, v0]) ⟨hIW, fun _ h => h, Or.inl ⟨_, by decide, rfl, RP.set ((HPI0.out _ _).2 rfl)⟩⟩
          | 1, _, hdep0 =>
            have hd0 := (HPI0.out _ _).1 (hdep0 0 (by kernel_rfl))
            have E74 : a1.tmps[74]?.getD undef = .agg #[.slice ax nx cx] := by rw [← ha1]; exact (putsL_in2 _ _ _ _ (by decide) (show 74 < 89 from by decide)).trans hd0
            refine wpOp_call rfl rfl (n := 19) (vs := #[.agg #[.slice ax nx cx], .int .i64 2, .int .i64 719]) (by have := egB #[.agg #[.slice ax nx cx], .int .i64 2, .int .i64 719] W; simp [execOp, E74, resolve, invoke, go_sem] <;> exact this) ((HC3.out W hIW).mono fun e w' hh => (by obtain ⟨u1, rfl, p0, hJ', hb'⟩ := hh; exact ⟨_, rfl, (HPI1.out _ _).2 ⟨_, rfl, p0⟩, hJ', hb'⟩ : ∃ v, e = .returned v ∧ (P 1 v w' ∧ J w' ∧ Below W.heap.size W w'))) ?_
            rintro v w' ⟨hv, hI', hb'⟩
            exact ⟨hI', fun j h => HKP.out j _ _ _ hb' h, Or.inl ⟨_, by decide, rfl, RP.set hv⟩⟩
          | 2, _, hdep0 =>
            have E4 : a1.tmps[4]?.getD undef = .pointer (some ⟨bX, 0, none⟩) := by rw [← ha1]; exact (putsL_out2 _ _ _ _ (by decide)).trans rfl
            have v0 : W.cell? ⟨bX, 0, none⟩ = some (.slice al nl cpl) := by simpa using HMX.out W hIW 0
            exact wpOp_val rfl rfl (v := .agg #[.slice al nl cpl]) (w' := W) (by simp [execOp, go_sem, E4, v0]) ⟨hIW, fun _ h => h, Or.inl ⟨_, by decide, rfl, RP.set ((HPI2.out _ _).2 rfl)⟩⟩
          | 3, _, hdep0 =>
            have hd2 := (HPI2.out _ _).1 (hdep0 2 (by kernel_rfl))
            have E76 : a1.tmps[76]?.getD undef = .agg #[.slice al nl cpl] := by rw [← ha1]; exact (putsL_in2 _ _ _ _ (by decide) (show 76 < 89 from by decide)).trans hd2
            refine wpOp_call rfl rfl (n := 19) (vs := #[.agg #[.slice al nl cpl], .int .i64 2, .int .i64 719]) (by have := egB #[.agg #[.slice al nl cpl], .int .i64 2, .int .i64 719] W; simp [execOp, E76, resolve, invoke, go_sem] <;> exact this) ((HC2.out W hIW).mono fun e w' hh => (by obtain ⟨u3, rfl, p0, hJ', hb'⟩ := hh; exact ⟨_, rfl, (HPI3.out _ _).2 ⟨_, rfl, p0⟩, hJ', hb'⟩ : ∃ v, e = .returned v ∧ (P 3 v w' ∧ J w' ∧ Below W.heap.size W w'))) ?_
            rintro v w' ⟨hv, hI', hb'⟩
            exact ⟨hI', fun j h => HKP.out j _ _ _ hb' h, Or.inl ⟨_, by decide, rfl, RP.set hv⟩⟩
          | 4, _, hdep0 =>
            have hd1 := (HPI1.out _ _).1 (hdep0 1 (by kernel_rfl))
            have hd3 := (HPI3.out _ _).1 (hdep0 3 (by kernel_rfl))
            obtain ⟨u1, q1, r1_0⟩ := hd1
            have E75 : a1.tmps[75]?.getD undef = u1 := by rw [← ha1]; exact (putsL_in2 _ _ _ _ (by decide) (show 75 < 89 from by decide)).trans q1
            obtain ⟨u3, q3, r3_0⟩ := hd3
            have E77 : a1.tmps[77]?.getD undef = u3 := by rw [← ha1]; exact (putsL_in2 _ _ _ _ (by decide) (show 77 < 89 from by decide)).trans q3
            refine wpOp_call rfl rfl (n := 18) (vs := #[u1, u3]) (by have := egL #[u1, u3] W; simp [execOp, E75, E77, resolve, invoke, go_sem] <;> exact this) ((HSM2.out W _ _ hIW r1_0 r3_0).mono fun e w' hh => (by obtain ⟨rfl, hJ', hb'⟩ := hh; exact ⟨_, rfl, (HPI4.out _ _).2 rfl, hJ', hb'⟩ : ∃ v, e = .returned v ∧ (P 4 v w' ∧ J w' ∧ Below W.heap.size W w'))) ?_
            rintro v w' ⟨hv, hI', hb'⟩
            exact ⟨hI', fun j h => HKP.out j _ _ _ hb' h, Or.inl ⟨_, by decide, rfl, RP.set hv⟩⟩
          | 5, _, hdep0 =>
            have hd4 := (HPI4.out _ _).1 (hdep0 4 (by kernel_rfl))
            have E78 : a1.tmps[78]?.getD undef = .bool true := by rw [← ha1]; exact (putsL_in2 _ _ _ _ (by decide) (show 78 < 89 from by decide)).trans hd4
            exact wpOp_val rfl rfl (v := .bool true) (w' := W) (by simp [execOp, go_sem, E78]) ⟨hIW, fun _ h => h, Or.inl ⟨_, by decide, rfl, RP.set ((HPI5.out _ _).2 rfl)⟩⟩
          | 6, _, hdep0 =>
            have hd5 := (HPI5.out _ _).1 (hdep0 5 (by kernel_rfl))
            have G5 : a1.tmps[79]? = some (.bool true) := by rw [← ha1]; exact (putsL_some _ _ _ _ (by decide) (show 79 < 89 from by decide)).trans (congrArg some hd5)
            have E11 : a1.tmps[11]?.getD undef = .pointer (some ⟨bS, 0, none⟩) := by rw [← ha1]; exact (putsL_out2 _ _ _ _ (by decide)).trans rfl
            have v0 : W.cell? ⟨bS, 0, none⟩ = some (.slice am nm cm) := by simpa using HMS.out W hIW 0
            exact wpOp_valG rfl rfl (yielded_of rfl G5) (v := .agg #[.slice am nm cm]) (w' := W) (by simp [execOp, go_sem, E11, v0]) ⟨hIW, fun _ h => h, Or.inl ⟨_, by decide, rfl, RP.set ((HPI6.out _ _).2 rfl)⟩⟩
          | 7, _, hdep0 =>
            have hd5 := (HPI5.out _ _).1 (hdep0 5 (by kernel_rfl))
            have hd6 := (HPI6.out _ _).1 (hdep0 6 (by kernel_rfl))
            have G5 : a1.tmps[79]? = some (.bool true) := by rw [← ha1]; exact (putsL_some _ _ _ _ (by decide) (show 79 < 89 from by decide)).trans (congrArg some hd5)
            have E80 : a1.tmps[80]?.getD undef = .agg #[.slice am nm cm] := by rw [← ha1]; exact (putsL_in2 _ _ _ _ (by decide) (show 80 < 89 from by decide)).trans hd6
            refine wpOp_callG rfl rfl (yielded_of rfl G5) (n := 19) (vs := #[.agg #[.slice am nm cm], .int .i64 1, .int .i64 719]) (by have := egB #[.agg #[.slice am nm cm], .int .i64 1, .int .i64 719] W; simp [execOp, E80, resolve, invoke, go_sem] <;> exact this) ((HC4.out W hIW).mono fun e w' hh => (by obtain ⟨u7, rfl, p0, hJ', hb'⟩ := hh; exact ⟨_, rfl, (HPI7.out _ _).2 ⟨_, rfl, p0⟩, hJ', hb'⟩ : ∃ v, e = .returned v ∧ (P 7 v w' ∧ J w' ∧ Below W.heap.size W w'))) ?_
            rintro v w' ⟨hv, hI', hb'⟩
            exact ⟨hI', fun j h => HKP.out j _ _ _ hb' h, Or.inl ⟨_, by decide, rfl, RP.set hv⟩⟩
          | 8, _, hdep0 =>
            have hd5 := (HPI5.out _ _).1 (hdep0 5 (by kernel_rfl))
            have G5 : a1.tmps[79]? = some (.bool true) := by rw [← ha1]; exact (putsL_some _ _ _ _ (by decide) (show 79 < 89 from by decide)).trans (congrArg some hd5)
            have E4 : a1.tmps[4]?.getD undef = .pointer (some ⟨bX, 0, none⟩) := by rw [← ha1]; exact (putsL_out2 _ _ _ _ (by decide)).trans rfl
            have v0 : W.cell? ⟨bX, 0, none⟩ = some (.slice al nl cpl) := by simpa using HMX.out W hIW 0
            exact wpOp_valG rfl rfl (yielded_of rfl G5) (v := .agg #[.slice al nl cpl]) (w' := W) (by simp [execOp, go_sem, E4, v0]) ⟨hIW, fun _ h => h, Or.inl ⟨_, by decide, rfl, RP.set ((HPI8.out _ _).2 rfl)⟩⟩
          | 9, _, hdep0 =>
            have hd5 := (HPI5.out _ _).1 (hdep0 5 (by kernel_rfl))
            have hd8 := (HPI8.out _ _).1 (hdep0 8 (by kernel_rfl))
            have G5 : a1.tmps[79]? = some (.bool true) := by rw [← ha1]; exact (putsL_some _ _ _ _ (by decide) (show 79 < 89 from by decide)).trans (congrArg some hd5)
            have E82 : a1.tmps[82]?.getD undef = .agg #[.slice al nl cpl] := by rw [← ha1]; exact (putsL_in2 _ _ _ _ (by decide) (show 82 < 89 from by decide)).trans hd8
            refine wpOp_callG rfl rfl (yielded_of rfl G5) (n := 19) (vs := #[.agg #[.slice al nl cpl], .int .i64 1, .int .i64 719]) (by have := egB #[.agg #[.slice al nl cpl], .int .i64 1, .int .i64 719] W; simp [execOp, E82, resolve, invoke, go_sem] <;> exact this) ((HC1.out W hIW).mono fun e w' hh => (by obtain ⟨u9, rfl, p0, hJ', hb'⟩ := hh; exact ⟨_, rfl, (HPI9.out _ _).2 ⟨_, rfl, p0⟩, hJ', hb'⟩ : ∃ v, e = .returned v ∧ (P 9 v w' ∧ J w' ∧ Below W.heap.size W w'))) ?_
            rintro v w' ⟨hv, hI', hb'⟩
            exact ⟨hI', fun j h => HKP.out j _ _ _ hb' h, Or.inl ⟨_, by decide, rfl, RP.set hv⟩⟩
          | 10, _, hdep0 =>
            have hd5 := (HPI5.out _ _).1 (hdep0 5 (by kernel_rfl))
            have hd7 := (HPI7.out _ _).1 (hdep0 7 (by kernel_rfl))
            have hd9 := (HPI9.out _ _).1 (hdep0 9 (by kernel_rfl))
            have G5 : a1.tmps[79]? = some (.bool true) := by rw [← ha1]; exact (putsL_some _ _ _ _ (by decide) (show 79 < 89 from by decide)).trans (congrArg some hd5)
            obtain ⟨u7, q7, r7_0⟩ := hd7
            have E81 : a1.tmps[81]?.getD undef = u7 := by rw [← ha1]; exact (putsL_in2 _ _ _ _ (by decide) (show 81 < 89 from by decide)).trans q7
            obtain ⟨u9, q9, r9_0⟩ := hd9
            have E83 : a1.tmps[83]?.getD undef = u9 := by rw [← ha1]; exact (putsL_in2 _ _ _ _ (by decide) (show 83 < 89 from by decide)).trans q9
            refine wpOp_callG rfl rfl (yielded_of rfl G5) (n := 18) (vs := #[u7, u9]) (by have := egL #[u7, u9] W; simp [execOp, E81, E83, resolve, invoke, go_sem] <;> exact this) ((HSM1.out W _ _ hIW r7_0 r9_0).mono fun e w' hh => (by obtain ⟨rfl, hJ', hb'⟩ := hh; exact ⟨_, rfl, (HPI10.out _ _).2 rfl, hJ', hb'⟩ : ∃ v, e = .returned v ∧ (P 10 v w' ∧ J w' ∧ Below W.heap.size W w'))) ?_
            rintro v w' ⟨hv, hI', hb'⟩
            exact ⟨hI', fun j h => HKP.out j _ _ _ hb' h, Or.inl ⟨_, by decide, rfl, RP.set hv⟩⟩
          | 11, _, hdep0 =>
            have hd5 := (HPI5.out _ _).1 (hdep0 5 (by kernel_rfl))
            have hd10 := (HPI10.out _ _).1 (hdep0 10 (by kernel_rfl))
            have E79 : a1.tmps[79]?.getD undef = .bool true := by rw [← ha1]; exact (putsL_in2 _ _ _ _ (by decide) (show 79 < 89 from by decide)).trans hd5
            have E84 : a1.tmps[84]?.getD undef = .bool true := by rw [← ha1]; exact (putsL_in2 _ _ _ _ (by decide) (show 84 < 89 from by decide)).trans hd10
            exact wpOp_val rfl rfl (v := .bool true) (w' := W) (by simp [execOp, go_sem, E79, E84]) ⟨hIW, fun _ h => h, Or.inl ⟨_, by decide, rfl, RP.set ((HPI11.out _ _).2 rfl)⟩⟩
          | 12, _, hdep0 =>
            have hd11 := (HPI11.out _ _).1 (hdep0 11 (by kernel_rfl))
            have E85 : a1.tmps[85]?.getD undef = .bool true := by rw [← ha1]; exact (putsL_in2 _ _ _ _ (by decide) (show 85 < 89 from by decide)).trans hd11
            exact wpOp_val rfl rfl (v := .bool true) (w' := W) (by simp [execOp, go_sem, E85]) ⟨hIW, fun _ h => h, Or.inl ⟨_, by decide, rfl, RP.set ((HPI12.out _ _).2 rfl)⟩⟩
          | 13, _, hdep0 =>
            have hd12 := (HPI12.out _ _).1 (hdep0 12 (by kernel_rfl))
            have G12 : a1.tmps[86]? = some (.bool true) := by rw [← ha1]; exact (putsL_some _ _ _ _ (by decide) (show 86 < 89 from by decide)).trans (congrArg some hd12)
            refine wpOp_callG rfl rfl (yielded_of rfl G12) (n := 15) (vs := #[]) (by have := egS #[] W; simp [execOp, go_sem, resolve, invoke, go_sem] <;> exact this) ((HSN.out W hIW).mono fun e w' hh => (by obtain ⟨rfl, hJ', hb'⟩ := hh; exact ⟨_, rfl, (HPI13.out _ _).2 rfl, hJ', hb'⟩ : ∃ v, e = .returned v ∧ (P 13 v w' ∧ J w' ∧ Below W.heap.size W w'))) ?_
            rintro v w' ⟨hv, hI', hb'⟩
            exact ⟨hI', fun j h => HKP.out j _ _ _ hb' h, Or.inl ⟨_, by decide, rfl, RP.set hv⟩⟩
          | 14, _, hdep0 =>
            have hd12 := (HPI12.out _ _).1 (hdep0 12 (by kernel_rfl))
            have hd13 := (HPI13.out _ _).1 (hdep0 13 (by kernel_rfl))
            have E86 : a1.tmps[86]?.getD undef = .bool true := by rw [← ha1]; exact (putsL_in2 _ _ _ _ (by decide) (show 86 < 89 from by decide)).trans hd12
            have E87 : a1.tmps[87]?.getD undef = .bool true := by rw [← ha1]; exact (putsL_in2 _ _ _ _ (by decide) (show 87 < 89 from by decide)).trans hd13
            exact wpOp_val rfl rfl (v := .bool true) (w' := W) (by simp [execOp, go_sem, E86, E87]) ⟨hIW, fun _ h => h, Or.inl ⟨_, by decide, rfl, RP.set ((HPI14.out _ _).2 rfl)⟩⟩
          | 15, _, hdep0 =>
            have hd14 := (HPI14.out _ _).1 (hdep0 14 (by kernel_rfl))
            have E88 : a1.tmps[88]?.getD undef = .bool true := by rw [← ha1]; exact (putsL_in2 _ _ _ _ (by decide) (show 88 < 89 from by decide)).trans hd14
            exact wpOp_val rfl rfl (v := .bool true) (w' := W) (by simp [execOp, go_sem, E88]) ⟨hIW, fun _ h => h, Or.inl ⟨_, by decide, rfl, RP.set ((HPI15.out _ _).2 rfl)⟩⟩
          | iq + 16, h, _ => exact absurd h (by omega)
        case refine_2 =>
          intro f W hIW hR
          have h2 := (HPI15.out _ _).1 (hR 15 (show 15 < 16 from by decide))
          simp only [putsL, List.foldl_cons, List.foldl_nil, Act.put, List.setIfInBounds_toArray, List.set_cons_zero, List.set_cons_succ]
          go_wp2
          go_meet
          exact ⟨(by first | exact h2 | rfl), Lib.hid hIW⟩
      case rest =>
        obtain ⟨rfl, HJ⟩ := hcut
        have HFW := Lib.hid (HJW.out _ HJ.out)
        clear HJ HJO HJI HJD HJ0 HJB HMX HMU HMS HC1 HC2 HC3 HC4 HSM1 HSM2 HSN HJW
        go_wp2
        go_ret
        exact ⟨rfl, HFW.out⟩

end Go.Proofs.YtknmgkjfopoinaaGreatDoor
