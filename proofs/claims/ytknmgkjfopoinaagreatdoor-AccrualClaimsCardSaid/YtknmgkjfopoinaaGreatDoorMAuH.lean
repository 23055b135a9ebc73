/- Behind a closing the claims stand with what is open, less their provision, and closing again with the same claims changes neither: for every tape. -/
import Derived.Test.YtknmgkjfopoinaaGreatDoorMAuG
import Derived.Test.YtknmgkjfopoinaaGreatDoorMAuP
import Derived.Test.YtknmgkjfopoinaaGreatDoorMCs5
import Derived.Test.YtknmgkjfopoinaaGreatDoorMAaW
set_option linter.unusedSimpArgs false
set_option linter.unusedVariables false
set_option linter.unusedSimpArgs false
set_option linter.unusedVariables false
namespace Go.Proofs.YtknmgkjfopoinaaGreatDoor
open Go.RowKit Go.Lib Go.Proofs

set_option maxRecDepth 100000 in
set_option maxHeartbeats 16000000 in
theorem accclaims_any (v : Value) (n : Nat) (w : World) (hi : IntsAt w v n w.heap.size) (hn : n ≤ 9223372036854775807) (hL : Lay w) :
    Calls Tryz.prog 3 #[v] w fun e w' => e = .returned (.bool true) ∧ Below w.heap.size w w' := by
  have HNEW := Lib.hid (sNew_any v n w hi hn)
  have HLAY := Lib.hid (fun W (hW : Below w.heap.size w W) => hL.below hW (Nat.le_refl _))
  clear hi hn hL
  go_enter Tryz.func3, Tryz.ntmps3
  go_wp2_with fail
  refine (HNEW.out).mono ?_
  rintro e w1 ⟨rfl, t1, b1⟩
  obtain ⟨tb, htb⟩ : ∃ tb, tb = w.heap.size := ⟨_, rfl⟩
  rw [← htb] at t1 ⊢
  have HLG := Lib.hid (sLedger_any tb 10 2 700 w1 t1 (by omega) (by omega) (by omega))
  have HTB := Lib.hid htb
  have HFIN : Hid (∀ W, SI w1 tb W → Below w.heap.size w W) := Lib.hid fun W hW => b1.grown hW.old b1.size (fun q e => by injection e with e; omega)
  have HW1 := Lib.hid b1
  clear t1 b1 HNEW htb
  go_wp2_with fail
  refine (HLG.out).mono ?_
  rintro e w2 ⟨l, lv, rfl, hin, hl10, hl, hsi⟩
  have HIN := Lib.hid hin
  have HOK := Lib.hid hin.ok
  have HFEW := Lib.hid (fun e f a => books_few hin (by omega) e f a)
  have HDAY := Lib.hid (books_days hin)
  have HLEN : Hid (l.length ≤ 10) := Lib.hid (by omega)
  have HS2 := Lib.hid hsi
  have HL2 := Lib.hid hl
  clear hin hl hsi hl10 HLG
  go_wp2_with fail
  refine (closing41_any tb w2 HS2.out.src).mono ?_
  rintro e w3 ⟨iA, uA, pA, cvA, clA, rfl, hcs, hown, hsi⟩
  have HS3 := Lib.hid (HS2.out.turn hsi.src hsi.old)
  have HL3 := Lib.hid (PstsAt.turn HL2.out HS2.out.src hsi.old)
  obtain ⟨acA, ccA, rfl, -, -⟩ := owns_gen hown
  have HOA_3 := Lib.hid hown
  have HCBA := Lib.hid (clsB_of hcs)
  have HCIA : Hid ((0 ≤ iA ∧ iA ≤ 1000) ∧ (0 ≤ uA ∧ uA ≤ 1000) ∧ (0 ≤ pA ∧ pA ≤ 1000)) := Lib.hid (by have h1 := hcs.i; have h2 := hcs.u; have h3 := hcs.p; omega)
  have HTA : Hid (tb < w2.heap.size + 1) := Lib.hid (by have := HS2.out.src.lt; omega)
  clear hcs hown hsi
  obtain ⟨oA, hoA⟩ : ∃ q, q = openC clA := ⟨_, rfl⟩
  obtain ⟨rA, hrA⟩ : ∃ q, q = provM 719 clA := ⟨_, rfl⟩
  rw [← hoA, ← hrA] at HCBA
  obtain ⟨ncA, hncA⟩ : ∃ q, q = clA.length := ⟨_, rfl⟩
  rw [← hncA]
  have HNCA := Lib.hid hncA
  have HEOA := Lib.hid hoA
  have HERA := Lib.hid hrA
  clear hoA hrA hncA
  obtain ⟨al, cpl, rfl, -, -⟩ := PstsAt.open HL3.out
  obtain ⟨nl, hnl⟩ : ∃ q, q = l.length := ⟨_, rfl⟩
  rw [← hnl]
  have HNL := Lib.hid hnl
  clear hnl
  have HB3 := Lib.hid (HFIN.out _ HS3.out)
  have HRL_3 : Hid (PstsAt w3 (.slice al nl cpl) l) := Lib.hid (by have h := HL3.out; rw [← HNL.out] at h; exact h)
  have HRC_3 : Hid (ListAt clmC 6 w3 (.slice acA ncA ccA) clA) := Lib.hid (by have h := ListAt.owns HOA_3.out; rw [← HNCA.out] at h; exact h)
  clear HL3 HL2 HOA_3 HFIN HS2 HS3 HW1
  obtain ⟨w4, hwn⟩ : ∃ W, W = ((w3.alloc (.cells #[.slice al nl cpl] 27)).alloc (.cells #[.int .i64 iA, .int .i64 uA, .int .i64 pA, .slice acA ncA ccA] 31)) := ⟨_, rfl⟩
  obtain ⟨bX, hbX⟩ : ∃ q, q = w3.heap.size := ⟨_, rfl⟩
  obtain ⟨bY, hbY⟩ : ∃ q, q = w3.heap.size + 1 := ⟨_, rfl⟩
  have hbn : Below w3.heap.size w3 w4 := by rw [hwn]; exact below2 _ _ _
  have HXX_4 : Hid (w4.heap[bX]? = some (.cells #[.slice al nl cpl] 27 (0, 0))) := Lib.hid (by rw [hwn, hbX]; exact alloc1_at _ _ _)
  have HXY_4 : Hid (w4.heap[bY]? = some (.cells #[.int .i64 iA, .int .i64 uA, .int .i64 pA, .slice acA ncA ccA] 31 (0, 0))) := Lib.hid (by rw [hwn, hbY]; exact alloc2_at _ _ _)
  have HB4 := Lib.hid (HB3.out.trans (hbn.mono HB3.out.size))
  have HRL_4 := Lib.hid (ListAt.below HRL_3.out hbn)
  have HRC_4 := Lib.hid (ListAt.below HRC_3.out hbn)
  clear HB3 HRL_3 HRC_3
  have HW4 := Lib.hid hwn
  have HPX := Lib.hid hbX
  have HPY := Lib.hid hbY
  clear hwn hbn hbX hbY
  go_upto_region 3 with fail
  rw [← HW4.out, ← HPY.out, ← HPX.out]
  have hxX := HXX_4.out
  have zX_0 := obj_cell hxX 0
  have hxY := HXY_4.out
  have zY_0 := obj_cell hxY 0
  have zY_1 := obj_cell hxY 1
  have zY_2 := obj_cell hxY 2
  have zY_3 := obj_cell hxY 3
  simp at zX_0 zY_0 zY_1 zY_2 zY_3
  clear hxX hxY
  go_wp2_with fail
  clear zX_0 zY_0 zY_1 zY_2 zY_3
  refine (lawClose HOK.out (by have := HLEN.out; omega) HDAY.out HCBA.out (e := 1) (by decide) HCIA.out.1 HCIA.out.2.1 HCIA.out.2.2 (HFEW.out _ _ _) (HFEW.out _ _ _) _ _ w4 (HLAY.out _ HB4.out) HRL_4.out HRC_4.out).mono ?_
  rintro en w5 ⟨xv, rfl, hrx, hbn⟩
  have HB5 := Lib.hid (HB4.out.trans (hbn.mono HB4.out.size))
  have HXX_5 := Lib.hid (obj_below HXX_4.out hbn)
  have HXY_5 := Lib.hid (obj_below HXY_4.out hbn)
  have HRL_5 := Lib.hid (ListAt.below HRL_4.out hbn)
  have HRC_5 := Lib.hid (ListAt.below HRC_4.out hbn)
  clear HB4 HXX_4 HXY_4 HRL_4 HRC_4
  clear hbn
  have HXOK := Lib.hid (lawClose_ok HOK.out (by have := HLEN.out; omega) HDAY.out HCBA.out.le (e := 1) (by decide) HCIA.out.1 HCIA.out.2.1 HCIA.out.2.2 (HFEW.out _ _ _) (HFEW.out _ _ _))
  have HXD := Lib.hid (cls_days (e := 1) (i := iA) (u := uA) (p := pA) (o := oA) (r := rA) HDAY.out)
  have HXN : Hid ((clsL l 1 iA uA pA oA rA).length ≤ 15) := Lib.hid (by have h1 := cls_len l 1 iA uA pA oA rA; have h2 := HLEN.out; omega)
  have HXC := Lib.hid (clsL_claims l 1 iA uA pA oA rA)
  have HXA := Lib.hid (clsL_again l 1 iA uA pA oA rA)
  obtain ⟨x, hx⟩ : ∃ x, x = clsL l 1 iA uA pA oA rA := ⟨_, rfl⟩
  rw [← hx] at hrx HXOK HXD HXN HXC HXA
  clear hx
  obtain ⟨ax, cx, rfl, -, -⟩ := PstsAt.open hrx
  obtain ⟨nx, hnx⟩ : ∃ q, q = x.length := ⟨_, rfl⟩
  rw [← hnx]
  have HNX := Lib.hid hnx
  have HRX_5 : Hid (PstsAt w5 (.slice ax nx cx) x) := Lib.hid (by rw [hnx]; exact hrx)
  clear hrx hnx
  obtain ⟨w6, hwn⟩ : ∃ W, W = (w5.alloc (.cells #[.slice ax nx cx] 27)) := ⟨_, rfl⟩
  obtain ⟨bU, hbU⟩ : ∃ q, q = w5.heap.size := ⟨_, rfl⟩
  have hbn : Below w5.heap.size w5 w6 := by rw [hwn]; exact below_alloc _ _
  have HXU_6 : Hid (w6.heap[bU]? = some (.cells #[.slice ax nx cx] 27 (0, 0))) := Lib.hid (by rw [hwn, hbU]; exact heap_alloc_new _ _)
  have HB6 := Lib.hid (HB5.out.trans (hbn.mono HB5.out.size))
  have HXX_6 := Lib.hid (obj_below HXX_5.out hbn)
  have HXY_6 := Lib.hid (obj_below HXY_5.out hbn)
  have HRL_6 := Lib.hid (ListAt.below HRL_5.out hbn)
  have HRC_6 := Lib.hid (ListAt.below HRC_5.out hbn)
  have HRX_6 := Lib.hid (ListAt.below HRX_5.out hbn)
  clear HB5 HXX_5 HXY_5 HRL_5 HRC_5 HRX_5
  have HW6 := Lib.hid hwn
  have HPU := Lib.hid hbU
  clear hwn hbn hbU
  go_upto_region 4 with fail
  rw [← HW6.out, ← HPU.out]
  have hxU := HXU_6.out
  have zU_0 := obj_cell hxU 0
  have hxY := HXY_6.out
  have zY_0 := obj_cell hxY 0
  have zY_1 := obj_cell hxY 1
  have zY_2 := obj_cell hxY 2
  have zY_3 := obj_cell hxY 3
  simp at zU_0 zY_0 zY_1 zY_2 zY_3
  clear hxU hxY
  have HC2 := Lib.hid (lawClose HXOK.out (by have := HXN.out; omega) HXD.out HCBA.out (e := 1) (i := 0) (u := 0) (p := 0) (by decide) (by decide) (by decide) (by decide) (by rw [HXC.out.1]; have := HCBA.out.le; omega) (by rw [HXC.out.2]; have := HCBA.out.le; omega) (.slice ax nx cx) (.slice acA ncA ccA) w6 (HLAY.out _ HB6.out) HRX_6.out HRC_6.out)
  rw [HXA.out] at HC2
  go_wp2_with fail
  clear zU_0 zY_0 zY_1 zY_2 zY_3
  refine (HC2.out).mono ?_
  rintro en w7 ⟨yv, rfl, hry, hbn⟩
  have HB7 := Lib.hid (HB6.out.trans (hbn.mono HB6.out.size))
  have HXX_7 := Lib.hid (obj_below HXX_6.out hbn)
  have HXY_7 := Lib.hid (obj_below HXY_6.out hbn)
  have HXU_7 := Lib.hid (obj_below HXU_6.out hbn)
  have HRL_7 := Lib.hid (ListAt.below HRL_6.out hbn)
  have HRC_7 := Lib.hid (ListAt.below HRC_6.out hbn)
  have HRX_7 := Lib.hid (ListAt.below HRX_6.out hbn)
  clear HB6 HXX_6 HXY_6 HXU_6 HRL_6 HRC_6 HRX_6
  clear hbn
  obtain ⟨ay, cy, rfl, -, -⟩ := PstsAt.open hry
  rw [← HNX.out] 
  have HRY_7 : Hid (PstsAt w7 (.slice ay nx cy) x) := Lib.hid (by rw [HNX.out]; exact hry)
  clear hry HC2
  obtain ⟨w8, hwn⟩ : ∃ W, W = (w7.alloc (.cells #[.slice ay nx cy] 27)) := ⟨_, rfl⟩
  obtain ⟨bV, hbV⟩ : ∃ q, q = w7.heap.size := ⟨_, rfl⟩
  have hbn : Below w7.heap.size w7 w8 := by rw [hwn]; exact below_alloc _ _
  have HXV_8 : Hid (w8.heap[bV]? = some (.cells #[.slice ay nx cy] 27 (0, 0))) := Lib.hid (by rw [hwn, hbV]; exact heap_alloc_new _ _)
  have HB8 := Lib.hid (HB7.out.trans (hbn.mono HB7.out.size))
  have HXX_8 := Lib.hid (obj_below HXX_7.out hbn)
  have HXY_8 := Lib.hid (obj_below HXY_7.out hbn)
  have HXU_8 := Lib.hid (obj_below HXU_7.out hbn)
  have HRL_8 := Lib.hid (ListAt.below HRL_7.out hbn)
  have HRC_8 := Lib.hid (ListAt.below HRC_7.out hbn)
  have HRX_8 := Lib.hid (ListAt.below HRX_7.out hbn)
  have HRY_8 := Lib.hid (ListAt.below HRY_7.out hbn)
  clear HB7 HXX_7 HXY_7 HXU_7 HRL_7 HRC_7 HRX_7 HRY_7
  have HW8 := Lib.hid hwn
  have HPV := Lib.hid hbV
  clear hwn hbn hbV
  go_upto_region 5 with fail
  rw [← HW8.out, ← HPV.out]
  have hxU := HXU_8.out
  have zU_0 := obj_cell hxU 0
  have hxY := HXY_8.out
  have zY_0 := obj_cell hxY 0
  have zY_1 := obj_cell hxY 1
  have zY_2 := obj_cell hxY 2
  have zY_3 := obj_cell hxY 3
  have hxV := HXV_8.out
  have zV_0 := obj_cell hxV 0
  simp at zU_0 zY_0 zY_1 zY_2 zY_3 zV_0
  clear hxU hxY hxV
  have HPV := Lib.hid (aaprov_any HCBA.out.ok HCBA.out.len 719 (by decide) (.slice acA ncA ccA) w8 (HLAY.out _ HB8.out) HRC_8.out)
  rw [← HERA.out] at HPV
  go_wp2_with fail
  clear zU_0 zY_0 zY_1 zY_2 zY_3 zV_0
  refine (HPV.out).mono ?_
  rintro en w9 ⟨rfl, hbn⟩
  have HB9 := Lib.hid (HB8.out.trans (hbn.mono HB8.out.size))
  have HXX_9 := Lib.hid (obj_below HXX_8.out hbn)
  have HXY_9 := Lib.hid (obj_below HXY_8.out hbn)
  have HXU_9 := Lib.hid (obj_below HXU_8.out hbn)
  have HXV_9 := Lib.hid (obj_below HXV_8.out hbn)
  have HRL_9 := Lib.hid (ListAt.below HRL_8.out hbn)
  have HRC_9 := Lib.hid (ListAt.below HRC_8.out hbn)
  have HRX_9 := Lib.hid (ListAt.below HRX_8.out hbn)
  have HRY_9 := Lib.hid (ListAt.below HRY_8.out hbn)
  clear HB8 HXX_8 HXY_8 HXU_8 HXV_8 HRL_8 HRC_8 HRX_8 HRY_8
  clear hbn
  have hxY := HXY_9.out
  have zY_0 := obj_cell hxY 0
  have zY_1 := obj_cell hxY 1
  have zY_2 := obj_cell hxY 2
  have zY_3 := obj_cell hxY 3
  simp at zY_0 zY_1 zY_2 zY_3
  clear hxY
  clear HPV
  have HRC := Lib.hid (ListAt.shape clmF HRC_9.out)
  have hsh := HRC.out
  obtain ⟨ac', cc', hac, -, HCS0⟩ := hsh
  simp only [Value.slice.injEq] at hac
  obtain ⟨rfl, hac2, rfl⟩ := hac
  have HCS := Lib.hid HCS0
  clear HCS0 hac2 HRC
  have HOPT := Lib.hid (fun (j : Nat) (hj : j < clA.length) => (⟨by rw [List.take_succ_eq_append_getElem hj, openC_app]; simp [openC], openC_in fun x hx => HCBA.out.ok x (List.mem_of_mem_take hx), (HCBA.out.ok _ (List.getElem_mem hj)).opn, (HCBA.out.ok _ (List.getElem_mem hj)).amt⟩ : openC (clA.take (j + 1)) = openC (clA.take j) + clA[j].opn ∧ (0 ≤ openC (clA.take j) ∧ openC (clA.take j) ≤ 1000000000000 * ((clA.take j).length : Int)) ∧ (0 ≤ clA[j].opn ∧ clA[j].opn ≤ clA[j].amt) ∧ (1 ≤ clA[j].amt ∧ clA[j].amt ≤ 1000000000000)))
  have hm6 : ncA ≤ 60 := by rw [HNCA.out]; exact HCBA.out.len
  go_wp2
  go_loopw [12, 44] (fun sv iv wr => ∃ (s : Int) (j : Nat), sv = .int .i64 s ∧ iv = .int .i64 j ∧ j ≤ ncA ∧ Hid (s = openC (clA.take j)) ∧ Hid (Below w9.heap.size w9 wr)) (fun _ iv _ => ncA - (RowKit.intOf iv).toNat)
  case atStart => exact ⟨0, 0, rfl, rfl, by omega, Lib.hid rfl, Lib.hid (Below.refl _ _)⟩
  case round =>
    clear zY_0 zY_1 zY_2 zY_3
    obtain ⟨s, j, rfl, rfl, hjn, HS, HB⟩ := hrel
    by_cases hlt : j < ncA
    · have hjl : j < clA.length := by rw [← HNCA.out]; exact hlt
      obtain ⟨bC, oC, rfl, hbC, hcc⟩ := HCS.out (by omega)
      have hcell := fun q (hq : q < 6) => (HB.out.cell (p := ⟨bC, oC + j * 6 + q, none⟩) hbC).trans (hcc j hjl q hq)
      obtain ⟨hst, hsb, hxo, hxa⟩ := HOPT.out j hjl
      have hlk : (clA.take j).length = j := by rw [List.length_take]; omega
      rw [hlk, ← HS.out] at hsb
      rw [← HS.out] at hst
      have HST := Lib.hid hst
      have hj0 : (0 : Int) ≤ (j : Int) := by omega
      have hj1 : (j : Int) < (ncA : Int) := by omega
      have hwj : IntKind.i64.wrap ((j : Int) + 1) = (j : Int) + 1 := IntWalk.i64_in _ (by omega)
      clear hst
      generalize clA[j] = x at *
      obtain ⟨c0, c1, c2, c3, c4, c5⟩ := x
      simp only at hxo hxa HST
      have z0 : wr.cell? ⟨bC, oC + j * 6, none⟩ = some (.int .i64 c0) := hcell 0 (by omega)
      have z1 : wr.cell? ⟨bC, oC + j * 6 + 1, none⟩ = some (.int .i64 c1) := hcell 1 (by omega)
      have z2 : wr.cell? ⟨bC, oC + j * 6 + 2, none⟩ = some (.int .i64 c2) := hcell 2 (by omega)
      have z3 : wr.cell? ⟨bC, oC + j * 6 + 3, none⟩ = some (.int .i64 c3) := hcell 3 (by omega)
      have z4 : wr.cell? ⟨bC, oC + j * 6 + 4, none⟩ = some (.int .i64 c4) := hcell 4 (by omega)
      have z5 : wr.cell? ⟨bC, oC + j * 6 + 5, none⟩ = some (.string c5) := hcell 5 (by omega)
      have hws : IntKind.i64.wrap (s + c3) = s + c3 := IntWalk.i64_in _ (by omega)
      obtain ⟨w8', hw8⟩ : ∃ W, W = wr.alloc (.cells #[.int .i64 c0, .int .i64 c1, .int .i64 c2, .int .i64 c3, .int .i64 c4, .string c5] 39) := ⟨_, rfl⟩
      obtain ⟨bZ, hbZ⟩ : ∃ q, q = wr.heap.size := ⟨_, rfl⟩
      have HZ8 : Hid (w8'.heap[bZ]? = some (.cells #[.int .i64 c0, .int .i64 c1, .int .i64 c2, .int .i64 c3, .int .i64 c4, .string c5] 39 (0, 0))) := Lib.hid (by rw [hw8, hbZ]; exact heap_alloc_new _ _)
      have HBN : Hid (Below w9.heap.size w9 w8') := Lib.hid (by rw [hw8]; exact HB.out.alloc HB.out.size _)
      have HW8' := Lib.hid hw8
      have HBZ := Lib.hid hbZ
      clear hw8 hbZ hcell hcc hsb hlk hxo hxa
      go_upto_region 10 with fail
      rw [← HW8'.out, ← HBZ.out]
      clear z0 z1 z2 z3 z4 z5
      have hz := HZ8.out
      have z3 := obj_cell hz 3
      simp at z3
      clear hz
      go_wp2
      go_roundw
      case rel => exact ⟨s + c3, j + 1, rfl, by first | rfl | go_num, by omega, Lib.hid (by rw [HST.out]), HBN⟩
      case measure => simp [RowKit.intOf]; omega
    · obtain rfl : ncA = j := by omega
      obtain rfl : oA = s := by rw [HS.out, HEOA.out, List.take_of_length_le (by rw [← HNCA.out]; exact Nat.le_refl _)]
      have hbn := HB.out
      obtain ⟨w10, hw10⟩ : ∃ W, W = wr := ⟨_, rfl⟩
      rw [← hw10] at hbn ⊢
      clear hw10 HB HS HOPT HCS
      have HB10 := Lib.hid (HB9.out.trans (hbn.mono HB9.out.size))
      have HXX_10 := Lib.hid (obj_below HXX_9.out hbn)
      have HXY_10 := Lib.hid (obj_below HXY_9.out hbn)
      have HXU_10 := Lib.hid (obj_below HXU_9.out hbn)
      have HXV_10 := Lib.hid (obj_below HXV_9.out hbn)
      have HRL_10 := Lib.hid (ListAt.below HRL_9.out hbn)
      have HRC_10 := Lib.hid (ListAt.below HRC_9.out hbn)
      have HRX_10 := Lib.hid (ListAt.below HRX_9.out hbn)
      have HRY_10 := Lib.hid (ListAt.below HRY_9.out hbn)
      clear HB9 HXX_9 HXY_9 HXU_9 HXV_9 HRL_9 HRC_9 HRX_9 HRY_9
      clear hbn
      have hxU := HXU_10.out
      have zU_0 := obj_cell hxU 0
      have hxV := HXV_10.out
      have zV_0 := obj_cell hxV 0
      simp at zU_0 zV_0
      clear hxU hxV
      have hrl := HCBA.out.le.2.1
      have hwr : IntKind.i64.wrap (-rA) = -rA := IntWalk.i64_in _ (by have := HCBA.out.le; omega)
      have hnx : x.length ≤ 1000000 := by have := HXN.out; omega
      go_wp2_with fail
      clear zU_0 zV_0
      refine (rgPostings_same x hnx _ _ w10 HRX_10.out HRY_10.out).mono ?_
      rintro en w11 ⟨rfl, hbn⟩
      have HB11 := Lib.hid (HB10.out.trans (hbn.mono HB10.out.size))
      have HXX_11 := Lib.hid (obj_below HXX_10.out hbn)
      have HXY_11 := Lib.hid (obj_below HXY_10.out hbn)
      have HXU_11 := Lib.hid (obj_below HXU_10.out hbn)
      have HXV_11 := Lib.hid (obj_below HXV_10.out hbn)
      have HRL_11 := Lib.hid (ListAt.below HRL_10.out hbn)
      have HRC_11 := Lib.hid (ListAt.below HRC_10.out hbn)
      have HRX_11 := Lib.hid (ListAt.below HRX_10.out hbn)
      have HRY_11 := Lib.hid (ListAt.below HRY_10.out hbn)
      clear HB10 HXX_10 HXY_10 HXU_10 HXV_10 HRL_10 HRC_10 HRX_10 HRY_10
      clear hbn
      have hxU := HXU_11.out
      have zU_0 := obj_cell hxU 0
      simp at zU_0
      clear hxU
      have HF1 := Lib.hid (rgOf_right HXOK.out 1 120 719 _ w11 HRX_11.out (by decide) (by decide))
      rw [HXC.out.1] at HF1
      go_wp2_with fail
      clear zU_0
      refine (HF1.out).mono ?_
      rintro en w12 ⟨rfl, hbn⟩
      have HB12 := Lib.hid (HB11.out.trans (hbn.mono HB11.out.size))
      have HXX_12 := Lib.hid (obj_below HXX_11.out hbn)
      have HXY_12 := Lib.hid (obj_below HXY_11.out hbn)
      have HXU_12 := Lib.hid (obj_below HXU_11.out hbn)
      have HXV_12 := Lib.hid (obj_below HXV_11.out hbn)
      have HRL_12 := Lib.hid (ListAt.below HRL_11.out hbn)
      have HRC_12 := Lib.hid (ListAt.below HRC_11.out hbn)
      have HRX_12 := Lib.hid (ListAt.below HRX_11.out hbn)
      have HRY_12 := Lib.hid (ListAt.below HRY_11.out hbn)
      clear HB11 HXX_11 HXY_11 HXU_11 HXV_11 HRL_11 HRC_11 HRX_11 HRY_11
      clear hbn
      have hxU := HXU_12.out
      have zU_0 := obj_cell hxU 0
      simp at zU_0
      clear hxU
      have HF2 := Lib.hid (rgOf_right HXOK.out 1 119 719 _ w12 HRX_12.out (by decide) (by decide))
      rw [HXC.out.2] at HF2
      go_wp2_with fail
      clear zU_0
      refine (HF2.out).mono ?_
      rintro en w13 ⟨rfl, hbn⟩
      have HB13 := Lib.hid (HB12.out.trans (hbn.mono HB12.out.size))
      have HXX_13 := Lib.hid (obj_below HXX_12.out hbn)
      have HXY_13 := Lib.hid (obj_below HXY_12.out hbn)
      have HXU_13 := Lib.hid (obj_below HXU_12.out hbn)
      have HXV_13 := Lib.hid (obj_below HXV_12.out hbn)
      have HRL_13 := Lib.hid (ListAt.below HRL_12.out hbn)
      have HRC_13 := Lib.hid (ListAt.below HRC_12.out hbn)
      have HRX_13 := Lib.hid (ListAt.below HRX_12.out hbn)
      have HRY_13 := Lib.hid (ListAt.below HRY_12.out hbn)
      clear HB12 HXX_12 HXY_12 HXU_12 HXV_12 HRL_12 HRC_12 HRX_12 HRY_12
      clear hbn
      have hxU := HXU_13.out
      have zU_0 := obj_cell hxU 0
      simp at zU_0
      clear hxU
      go_wp2_with fail
      clear zU_0
      refine (rgCheck_right HXOK.out _ w13 HRX_13.out).mono ?_
      rintro en w14 ⟨rfl, hbn⟩
      have HB14 := Lib.hid (HB13.out.trans (hbn.mono HB13.out.size))
      have HXX_14 := Lib.hid (obj_below HXX_13.out hbn)
      have HXY_14 := Lib.hid (obj_below HXY_13.out hbn)
      have HXU_14 := Lib.hid (obj_below HXU_13.out hbn)
      have HXV_14 := Lib.hid (obj_below HXV_13.out hbn)
      have HRL_14 := Lib.hid (ListAt.below HRL_13.out hbn)
      have HRC_14 := Lib.hid (ListAt.below HRC_13.out hbn)
      have HRX_14 := Lib.hid (ListAt.below HRX_13.out hbn)
      have HRY_14 := Lib.hid (ListAt.below HRY_13.out hbn)
      clear HB13 HXX_13 HXY_13 HXU_13 HXV_13 HRL_13 HRC_13 HRX_13 HRY_13
      clear hbn
      go_wp2_with fail
      refine (sane41_true w14 (HLAY.out _ HB14.out)).mono ?_
      rintro en w15 ⟨rfl, hbn⟩
      have HB15 := Lib.hid (HB14.out.trans (hbn.mono HB14.out.size))
      have HXX_15 := Lib.hid (obj_below HXX_14.out hbn)
      have HXY_15 := Lib.hid (obj_below HXY_14.out hbn)
      have HXU_15 := Lib.hid (obj_below HXU_14.out hbn)
      have HXV_15 := Lib.hid (obj_below HXV_14.out hbn)
      have HRL_15 := Lib.hid (ListAt.below HRL_14.out hbn)
      have HRC_15 := Lib.hid (ListAt.below HRC_14.out hbn)
      have HRX_15 := Lib.hid (ListAt.below HRX_14.out hbn)
      have HRY_15 := Lib.hid (ListAt.below HRY_14.out hbn)
      clear HB14 HXX_14 HXY_14 HXU_14 HXV_14 HRL_14 HRC_14 HRX_14 HRY_14
      clear hbn
      go_wp2
      go_ret
      exact ⟨rfl, HB15.out⟩

end Go.Proofs.YtknmgkjfopoinaaGreatDoor
