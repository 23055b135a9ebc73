/- Closing and reopening leave interest, unpaid and prepaid amounts as they were, and over both years together they change nothing of what they amount to: for every tape. -/
import Derived.Test.YtknmgkjfopoinaaGreatDoorMAuG
import Derived.Test.YtknmgkjfopoinaaGreatDoorMAuD
import Derived.Test.YtknmgkjfopoinaaGreatDoorMCs5
import Derived.Test.YtknmgkjfopoinaaGreatDoorMAaW
set_option linter.unusedSimpArgs false
set_option linter.unusedVariables false
set_option linter.unusedSimpArgs false
set_option linter.unusedVariables false
namespace Go.Proofs.YtknmgkjfopoinaaGreatDoor
open Go.RowKit Go.Lib Go.Proofs

set_option maxRecDepth 100000 in
set_option maxHeartbeats 16000000 in
theorem accturns_any (v : Value) (n : Nat) (w : World) (hi : IntsAt w v n w.heap.size) (hn : n ≤ 9223372036854775807) (hL : Lay w) :
    Calls Tryz.prog 4 #[v] w fun e w' => e = .returned (.bool true) ∧ Below w.heap.size w w' := by
  have HNEW := Lib.hid (sNew_any v n w hi hn)
  have HLAY := Lib.hid (fun W (hW : Below w.heap.size w W) => hL.below hW (Nat.le_refl _))
  clear hi hn hL
  go_enter Tryz.func4, Tryz.ntmps4
  go_wp2_with fail
  refine (HNEW.out).mono ?_
  rintro e w1 ⟨rfl, t1, b1⟩
  obtain ⟨tb, htb⟩ : ∃ tb, tb = w.heap.size := ⟨_, rfl⟩
  rw [← htb] at t1 ⊢
  have HLG := Lib.hid (sLedger_any tb 8 2 700 w1 t1 (by omega) (by omega) (by omega))
  have HTB := Lib.hid htb
  have HFIN : Hid (∀ W, SI w1 tb W → Below w.heap.size w W) := Lib.hid fun W hW => b1.grown hW.old b1.size (fun q e => by injection e with e; omega)
  have HW1 := Lib.hid b1
  clear t1 b1 HNEW htb
  go_wp2_with fail
  refine (HLG.out).mono ?_
  rintro e w2 ⟨l, lv, rfl, hin, hl10, hl, hsi⟩
  have HIN := Lib.hid hin
  have HOK := Lib.hid hin.ok
  have HFEW := Lib.hid (fun e f a => books_few hin (by omega) e f a)
  have HDAY := Lib.hid (books_days hin)
  have HDNE := Lib.hid (books_ne hin)
  have HLEN : Hid (l.length ≤ 10) := Lib.hid (by omega)
  have HS2 := Lib.hid hsi
  have HL2 := Lib.hid hl
  clear hin hl hsi hl10 HLG
  go_wp2_with fail
  refine (closing41_any tb w2 HS2.out.src).mono ?_
  rintro e w3 ⟨iA, uA, pA, cvA, clA, rfl, hcs, hown, hsi⟩
  have HS3 := Lib.hid (HS2.out.turn hsi.src hsi.old)
  have HL3 := Lib.hid (PstsAt.turn HL2.out HS2.out.src hsi.old)
  obtain ⟨acA, ccA, rfl, -, -⟩ := owns_gen hown
  have HOA_3 := Lib.hid hown
  have HCBA := Lib.hid (clsB_of hcs)
  have HCIA : Hid ((0 ≤ iA ∧ iA ≤ 1000) ∧ (0 ≤ uA ∧ uA ≤ 1000) ∧ (0 ≤ pA ∧ pA ≤ 1000)) := Lib.hid (by have h1 := hcs.i; have h2 := hcs.u; have h3 := hcs.p; omega)
  have HTA : Hid (tb < w2.heap.size + 1) := Lib.hid (by have := HS2.out.src.lt; omega)
  clear hcs hown hsi
  obtain ⟨oA, hoA⟩ : ∃ q, q = openC clA := ⟨_, rfl⟩
  obtain ⟨rA, hrA⟩ : ∃ q, q = provM 719 clA := ⟨_, rfl⟩
  rw [← hoA, ← hrA] at HCBA
  obtain ⟨ncA, hncA⟩ : ∃ q, q = clA.length := ⟨_, rfl⟩
  rw [← hncA]
  have HNCA := Lib.hid hncA
  have HEOA := Lib.hid hoA
  have HERA := Lib.hid hrA
  clear hoA hrA hncA
  obtain ⟨al, cpl, rfl, -, -⟩ := PstsAt.open HL3.out
  obtain ⟨nl, hnl⟩ : ∃ q, q = l.length := ⟨_, rfl⟩
  rw [← hnl]
  have HNL := Lib.hid hnl
  clear hnl
  have HB3 := Lib.hid (HFIN.out _ HS3.out)
  have HRL_3 : Hid (PstsAt w3 (.slice al nl cpl) l) := Lib.hid (by have h := HL3.out; rw [← HNL.out] at h; exact h)
  have HRC_3 : Hid (ListAt clmC 6 w3 (.slice acA ncA ccA) clA) := Lib.hid (by have h := ListAt.owns HOA_3.out; rw [← HNCA.out] at h; exact h)
  clear HL3 HL2 HOA_3 HFIN HS2 HS3 HW1
  obtain ⟨w4, hwn⟩ : ∃ W, W = ((w3.alloc (.cells #[.slice al nl cpl] 27)).alloc (.cells #[.int .i64 iA, .int .i64 uA, .int .i64 pA, .slice acA ncA ccA] 31)) := ⟨_, rfl⟩
  obtain ⟨bX, hbX⟩ : ∃ q, q = w3.heap.size := ⟨_, rfl⟩
  obtain ⟨bY, hbY⟩ : ∃ q, q = w3.heap.size + 1 := ⟨_, rfl⟩
  have hbn : Below w3.heap.size w3 w4 := by rw [hwn]; exact below2 _ _ _
  have HXX_4 : Hid (w4.heap[bX]? = some (.cells #[.slice al nl cpl] 27 (0, 0))) := Lib.hid (by rw [hwn, hbX]; exact alloc1_at _ _ _)
  have HXY_4 : Hid (w4.heap[bY]? = some (.cells #[.int .i64 iA, .int .i64 uA, .int .i64 pA, .slice acA ncA ccA] 31 (0, 0))) := Lib.hid (by rw [hwn, hbY]; exact alloc2_at _ _ _)
  have HB4 := Lib.hid (HB3.out.trans (hbn.mono HB3.out.size))
  have HRL_4 := Lib.hid (ListAt.below HRL_3.out hbn)
  have HRC_4 := Lib.hid (ListAt.below HRC_3.out hbn)
  clear HB3 HRL_3 HRC_3
  have HW4 := Lib.hid hwn
  have HPX := Lib.hid hbX
  have HPY := Lib.hid hbY
  clear hwn hbn hbX hbY
  go_upto_region 3 with fail
  rw [← HW4.out, ← HPY.out, ← HPX.out]
  have hxX := HXX_4.out
  have zX_0 := obj_cell hxX 0
  have hxY := HXY_4.out
  have zY_0 := obj_cell hxY 0
  have zY_1 := obj_cell hxY 1
  have zY_2 := obj_cell hxY 2
  have zY_3 := obj_cell hxY 3
  simp at zX_0 zY_0 zY_1 zY_2 zY_3
  clear hxX hxY
  go_wp2_with fail
  clear zX_0 zY_0 zY_1 zY_2 zY_3
  refine (lawClose HOK.out (by have := HLEN.out; omega) HDAY.out HCBA.out (e := 1) (by decide) HCIA.out.1 HCIA.out.2.1 HCIA.out.2.2 (HFEW.out _ _ _) (HFEW.out _ _ _) _ _ w4 (HLAY.out _ HB4.out) HRL_4.out HRC_4.out).mono ?_
  rintro en w5 ⟨xv, rfl, hrx, hbn⟩
  have HB5 := Lib.hid (HB4.out.trans (hbn.mono HB4.out.size))
  have HXX_5 := Lib.hid (obj_below HXX_4.out hbn)
  have HXY_5 := Lib.hid (obj_below HXY_4.out hbn)
  have HRL_5 := Lib.hid (ListAt.below HRL_4.out hbn)
  have HRC_5 := Lib.hid (ListAt.below HRC_4.out hbn)
  clear HB4 HXX_4 HXY_4 HRL_4 HRC_4
  clear hbn
  have HXOK := Lib.hid (lawClose_ok HOK.out (by have := HLEN.out; omega) HDAY.out HCBA.out.le (e := 1) (by decide) HCIA.out.1 HCIA.out.2.1 HCIA.out.2.2 (HFEW.out _ _ _) (HFEW.out _ _ _))
  have HXD := Lib.hid (cls_days (e := 1) (i := iA) (u := uA) (p := pA) (o := oA) (r := rA) HDAY.out)
  have HXN : Hid ((clsL l 1 iA uA pA oA rA).length ≤ 15) := Lib.hid (by have h1 := cls_len l 1 iA uA pA oA rA; have h2 := HLEN.out; omega)
  have HYOK := Lib.hid (lawTurn_ok HXOK.out (by have := HXN.out; omega) HXD.out (e := 1))
  have HBK := Lib.hid (fun t ht => turn_back HDNE.out iA uA pA oA rA (t := t) ht)
  obtain ⟨x, hx⟩ : ∃ x, x = clsL l 1 iA uA pA oA rA := ⟨_, rfl⟩
  rw [← hx] at hrx HXOK HXD HXN HYOK HBK
  clear hx
  obtain ⟨ax, cx, rfl, -, -⟩ := PstsAt.open hrx
  obtain ⟨nx, hnx⟩ : ∃ q, q = x.length := ⟨_, rfl⟩
  rw [← hnx]
  have HNX := Lib.hid hnx
  have HRX_5 : Hid (PstsAt w5 (.slice ax nx cx) x) := Lib.hid (by rw [hnx]; exact hrx)
  clear hrx hnx
  obtain ⟨w6, hwn⟩ : ∃ W, W = (w5.alloc (.cells #[.slice ax nx cx] 27)) := ⟨_, rfl⟩
  obtain ⟨bU, hbU⟩ : ∃ q, q = w5.heap.size := ⟨_, rfl⟩
  have hbn : Below w5.heap.size w5 w6 := by rw [hwn]; exact below_alloc _ _
  have HXU_6 : Hid (w6.heap[bU]? = some (.cells #[.slice ax nx cx] 27 (0, 0))) := Lib.hid (by rw [hwn, hbU]; exact heap_alloc_new _ _)
  have HB6 := Lib.hid (HB5.out.trans (hbn.mono HB5.out.size))
  have HXX_6 := Lib.hid (obj_below HXX_5.out hbn)
  have HXY_6 := Lib.hid (obj_below HXY_5.out hbn)
  have HRL_6 := Lib.hid (ListAt.below HRL_5.out hbn)
  have HRC_6 := Lib.hid (ListAt.below HRC_5.out hbn)
  have HRX_6 := Lib.hid (ListAt.below HRX_5.out hbn)
  clear HB5 HXX_5 HXY_5 HRL_5 HRC_5 HRX_5
  have HW6 := Lib.hid hwn
  have HPU := Lib.hid hbU
  clear hwn hbn hbU
  go_upto_region 4 with fail
  rw [← HW6.out, ← HPU.out]
  have hxU := HXU_6.out
  have zU_0 := obj_cell hxU 0
  simp at zU_0
  clear hxU
  go_wp2_with fail
  clear zU_0
  refine (aaReopen_right HXOK.out (ent := 1) (d := 719) (by decide) (by decide) (Int.le_trans (lastP_le (by decide) HXD.out) (by decide)) (by have := HXN.out; omega) (.slice ax nx cx) w6 HRX_6.out).mono ?_
  rintro en w7 ⟨yv, rfl, hry, hbn⟩
  have HB7 := Lib.hid (HB6.out.trans (hbn.mono HB6.out.size))
  have HXX_7 := Lib.hid (obj_below HXX_6.out hbn)
  have HXY_7 := Lib.hid (obj_below HXY_6.out hbn)
  have HXU_7 := Lib.hid (obj_below HXU_6.out hbn)
  have HRL_7 := Lib.hid (ListAt.below HRL_6.out hbn)
  have HRC_7 := Lib.hid (ListAt.below HRC_6.out hbn)
  have HRX_7 := Lib.hid (ListAt.below HRX_6.out hbn)
  clear HB6 HXX_6 HXY_6 HXU_6 HRL_6 HRC_6 HRX_6
  clear hbn
  obtain ⟨y, hy⟩ : ∃ y, y = turnM x 1 719 := ⟨_, rfl⟩
  rw [← hy] at hry HYOK HBK
  clear hy
  obtain ⟨ay, cy, rfl, -, -⟩ := PstsAt.open hry
  obtain ⟨ny, hny⟩ : ∃ q, q = y.length := ⟨_, rfl⟩
  rw [← hny]
  have HRY_7 : Hid (PstsAt w7 (.slice ay ny cy) y) := Lib.hid (by rw [hny]; exact hry)
  clear hry hny
  obtain ⟨w8, hwn⟩ : ∃ W, W = (w7.alloc (.cells #[.slice ay ny cy] 27)) := ⟨_, rfl⟩
  obtain ⟨bV, hbV⟩ : ∃ q, q = w7.heap.size := ⟨_, rfl⟩
  have hbn : Below w7.heap.size w7 w8 := by rw [hwn]; exact below_alloc _ _
  have HXV_8 : Hid (w8.heap[bV]? = some (.cells #[.slice ay ny cy] 27 (0, 0))) := Lib.hid (by rw [hwn, hbV]; exact heap_alloc_new _ _)
  have HB8 := Lib.hid (HB7.out.trans (hbn.mono HB7.out.size))
  have HXX_8 := Lib.hid (obj_below HXX_7.out hbn)
  have HXY_8 := Lib.hid (obj_below HXY_7.out hbn)
  have HXU_8 := Lib.hid (obj_below HXU_7.out hbn)
  have HRL_8 := Lib.hid (ListAt.below HRL_7.out hbn)
  have HRC_8 := Lib.hid (ListAt.below HRC_7.out hbn)
  have HRX_8 := Lib.hid (ListAt.below HRX_7.out hbn)
  have HRY_8 := Lib.hid (ListAt.below HRY_7.out hbn)
  clear HB7 HXX_7 HXY_7 HXU_7 HRL_7 HRC_7 HRX_7 HRY_7
  have HW8 := Lib.hid hwn
  have HPV := Lib.hid hbV
  clear hwn hbn hbV
  go_upto_region 5 with fail
  rw [← HW8.out, ← HPV.out]
  have hxV := HXV_8.out
  have zV_0 := obj_cell hxV 0
  simp at zV_0
  clear hxV
  go_wp2_with fail
  clear zV_0
  refine (rgCheck_right HYOK.out _ w8 HRY_8.out).mono ?_
  rintro en w9 ⟨rfl, hbn⟩
  have HB9 := Lib.hid (HB8.out.trans (hbn.mono HB8.out.size))
  have HXX_9 := Lib.hid (obj_below HXX_8.out hbn)
  have HXY_9 := Lib.hid (obj_below HXY_8.out hbn)
  have HXU_9 := Lib.hid (obj_below HXU_8.out hbn)
  have HXV_9 := Lib.hid (obj_below HXV_8.out hbn)
  have HRL_9 := Lib.hid (ListAt.below HRL_8.out hbn)
  have HRC_9 := Lib.hid (ListAt.below HRC_8.out hbn)
  have HRX_9 := Lib.hid (ListAt.below HRX_8.out hbn)
  have HRY_9 := Lib.hid (ListAt.below HRY_8.out hbn)
  clear HB8 HXX_8 HXY_8 HXU_8 HXV_8 HRL_8 HRC_8 HRX_8 HRY_8
  clear hbn
  go_wp2
  go_loopw [43] (fun iv wr => ∃ j : Nat, iv = .int .i64 j ∧ j ≤ 3 ∧ Hid (Below w9.heap.size w9 wr)) (fun iv _ => 3 - (RowKit.intOf iv).toNat)
  case atStart => exact ⟨0, rfl, by omega, Lib.hid (Below.refl _ _)⟩
  case round =>
    obtain ⟨j, rfl, hjn, HB⟩ := hrel
    by_cases hlt : j < 3
    · obtain ⟨a, ha⟩ : ∃ a : Int, a = ([220, 210, 130] : List Int).getD j 0 := ⟨_, rfl⟩
      have hmem : a ∈ ([220, 210, 130] : List Int) := by
        rw [ha]
        rcases (show j = 0 ∨ j = 1 ∨ j = 2 by omega) with rfl | rfl | rfl <;> simp
      have hix : (Instr.index 46 (.agg #[.int .i64 220, .int .i64 210, .int .i64 130]) (.int .i64 (j : Int))).run Tryz.prog wr = .ok (.int .i64 a) wr := by
        rw [ha]
        rcases (show j = 0 ∨ j = 1 ∨ j = 2 by omega) with rfl | rfl | rfl <;> kernel_rfl
      have hbd : 100 ≤ a ∧ a ≤ 599 := (by decide : ∀ x ∈ ([220, 210, 130] : List Int), 100 ≤ x ∧ x ≤ 599) a hmem
      have heq := HBK.out a ((by decide : ∀ x ∈ ([220, 210, 130] : List Int), x ∈ ([220, 210, 130, 520, 510] : List Int)) a hmem)
      obtain ⟨q, hq⟩ : ∃ q, q = ofM 1 (byDay 720) a l := ⟨_, rfl⟩
      rw [← hq] at heq
      have hj0 : (0 : Int) ≤ (j : Int) := by omega
      have hj1 : (j : Int) < 3 := by omega
      have hwj : IntKind.i64.wrap ((j : Int) + 1) = (j : Int) + 1 := IntWalk.i64_in _ (by omega)
      obtain ⟨J, hJ⟩ : ∃ J, J = fun W : World => Below wr.heap.size wr W := ⟨_, rfl⟩
      have HJO : Hid (∀ W, J W → Below wr.heap.size wr W) := Lib.hid fun W hW => by rw [hJ] at hW; exact hW
      have HJI : Hid (∀ W, Below wr.heap.size wr W → J W) := Lib.hid fun W hW => by rw [hJ]; exact hW
      have HJD : Hid (∀ W, J W → J W.drew) := Lib.hid fun W hW => HJI.out _ ((HJO.out W hW).drew)
      have HJ0 : Hid (J wr) := Lib.hid (HJI.out _ (Below.refl _ _))
      have HJB : Hid (∀ W, J W → Below w9.heap.size w9 W) := Lib.hid fun W hW => HB.out.trans ((HJO.out W hW).mono HB.out.size)
      have HMX : Hid (∀ W, J W → ∀ i, W.cell? ⟨bX, i, none⟩ = #[.slice al nl cpl][i]?) := Lib.hid fun W hW i => obj_cell (obj_below HXX_9.out (HJB.out W hW)) i
      have HMV : Hid (∀ W, J W → ∀ i, W.cell? ⟨bV, i, none⟩ = #[.slice ay ny cy][i]?) := Lib.hid fun W hW i => obj_cell (obj_below HXV_9.out (HJB.out W hW)) i
      have HOY : Hid (∀ W, J W → Calls Tryz.prog 13 #[.agg #[.slice ay ny cy], .int .i64 1, .int .i64 a, .int .i64 720] W fun e w' => e = .returned (.int .i64 q) ∧ J w') := Lib.hid fun W hW => by
        have h := rgOf_right HYOK.out 1 a 720 _ W (ListAt.below HRY_9.out (HJB.out W hW)) (by decide) hbd
        rw [heq] at h
        exact h.mono fun e w' g => ⟨g.1, HJI.out _ ((HJO.out W hW).trans (g.2.mono (HJO.out W hW).size))⟩
      have HOL : Hid (∀ W, J W → Calls Tryz.prog 13 #[.agg #[.slice al nl cpl], .int .i64 1, .int .i64 a, .int .i64 720] W fun e w' => e = .returned (.int .i64 q) ∧ J w') := Lib.hid fun W hW => by
        have h := rgOf_right HOK.out 1 a 720 _ W (ListAt.below HRL_9.out (HJB.out W hW)) (by decide) hbd
        rw [← hq] at h
        exact h.mono fun e w' g => ⟨g.1, HJI.out _ ((HJO.out W hW).trans (g.2.mono (HJO.out W hW).size))⟩
      have egO := enters_of Tryz.func13 (by kernel_rfl) rfl
      clear hJ ha hmem heq hq hbd
      go_upto_region 10 with fail
      go_cut [52] (fun dv wx => dv = .bool false ∧ Hid (J wx))
      case first =>
        refine wp_region_props [46, 47, 48, 49, 50, 51, 52] (slotS [46, 47, 48, 49, 50, 51, 52]) (readsS [46, 47, 48, 49, 50, 51, 52]) (RTs [46, 47, 48, 49, 50, 51, 52] [.agg #[.slice ay ny cy], .int .i64 a, .int .i64 q, .agg #[.slice al nl cpl], .int .i64 a, .int .i64 q, .bool false]) J (by kernel_rfl) (by kernel_rfl) (by kernel_rfl) (HJD.out _ HJ0.out) (fun j f q v W hq h => RTs.upd hq h) ?_ ?_
        case refine_1 =>
          intro iq hiq f W hIW hdep
          have hiq' : iq < 7 := hiq
          generalize ha1 : putsL _ [46, 47, 48, 49, 50, 51, 52] f = a1
          match iq, hiq', hdep with
          | 0, _, hdep =>
            have E8 : a1.tmps[8]?.getD undef = .pointer (some ⟨bV, 0, none⟩) := by rw [← ha1]; exact (putsL_out2 _ _ _ _ (by decide)).trans rfl
            have v0 : W.cell? ⟨bV, 0, none⟩ = some (.slice ay ny cy) := by simpa using HMV.out W hIW 0
            exact wpOp_val rfl rfl (v := .agg #[.slice ay ny cy]) (w' := W) (by simp [execOp, go_sem, E8, v0]) ⟨hIW, fun _ h => h, Or.inl ⟨_, by decide, rfl, updF_same _ _ _⟩⟩
          | 1, _, hdep =>
            have E11 : a1.tmps[11]?.getD undef = .int .i64 a := by rw [← ha1]; exact (putsL_out2 _ _ _ _ (by decide)).trans rfl
            exact wpOp_val rfl rfl (v := .int .i64 a) (w' := W) (by simp [execOp, go_sem, E11]) ⟨hIW, fun _ h => h, Or.inl ⟨_, by decide, rfl, updF_same _ _ _⟩⟩
          | 2, _, hdep =>
            have E46 : a1.tmps[46]?.getD undef = .agg #[.slice ay ny cy] := by rw [← ha1]; exact (putsL_in2 _ _ _ _ (by decide) (show 46 < 67 from by decide)).trans (hdep 0 (by kernel_rfl))
            have E47 : a1.tmps[47]?.getD undef = .int .i64 a := by rw [← ha1]; exact (putsL_in2 _ _ _ _ (by decide) (show 47 < 67 from by decide)).trans (hdep 1 (by kernel_rfl))
            refine wpOp_call rfl rfl (n := 13) (vs := #[.agg #[.slice ay ny cy], .int .i64 1, .int .i64 a, .int .i64 720]) (by have := egO #[.agg #[.slice ay ny cy], .int .i64 1, .int .i64 a, .int .i64 720] W; simp [execOp, E46, E47, resolve, invoke, go_sem] <;> exact this) ((HOY.out W hIW).mono fun e w' h => (⟨_, h.1, rfl, h.2⟩ : ∃ v, e = .returned v ∧ (v = .int .i64 q ∧ J w'))) ?_
            rintro v w' ⟨rfl, hI'⟩
            exact ⟨hI', fun _ h => h, Or.inl ⟨_, by decide, rfl, updF_same _ _ _⟩⟩
          | 3, _, hdep =>
            have E4 : a1.tmps[4]?.getD undef = .pointer (some ⟨bX, 0, none⟩) := by rw [← ha1]; exact (putsL_out2 _ _ _ _ (by decide)).trans rfl
            have v0 : W.cell? ⟨bX, 0, none⟩ = some (.slice al nl cpl) := by simpa using HMX.out W hIW 0
            exact wpOp_val rfl rfl (v := .agg #[.slice al nl cpl]) (w' := W) (by simp [execOp, go_sem, E4, v0]) ⟨hIW, fun _ h => h, Or.inl ⟨_, by decide, rfl, updF_same _ _ _⟩⟩
          | 4, _, hdep =>
            have E11 : a1.tmps[11]?.getD undef = .int .i64 a := by rw [← ha1]; exact (putsL_out2 _ _ _ _ (by decide)).trans rfl
            exact wpOp_val rfl rfl (v := .int .i64 a) (w' := W) (by simp [execOp, go_sem, E11]) ⟨hIW, fun _ h => h, Or.inl ⟨_, by decide, rfl, updF_same _ _ _⟩⟩
          | 5, _, hdep =>
            have E49 : a1.tmps[49]?.getD undef = .agg #[.slice al nl cpl] := by rw [← ha1]; exact (putsL_in2 _ _ _ _ (by decide) (show 49 < 67 from by decide)).trans (hdep 3 (by kernel_rfl))
            have E50 : a1.tmps[50]?.getD undef = .int .i64 a := by rw [← ha1]; exact (putsL_in2 _ _ _ _ (by decide) (show 50 < 67 from by decide)).trans (hdep 4 (by kernel_rfl))
            refine wpOp_call rfl rfl (n := 13) (vs := #[.agg #[.slice al nl cpl], .int .i64 1, .int .i64 a, .int .i64 720]) (by have := egO #[.agg #[.slice al nl cpl], .int .i64 1, .int .i64 a, .int .i64 720] W; simp [execOp, E49, E50, resolve, invoke, go_sem] <;> exact this) ((HOL.out W hIW).mono fun e w' h => (⟨_, h.1, rfl, h.2⟩ : ∃ v, e = .returned v ∧ (v = .int .i64 q ∧ J w'))) ?_
            rintro v w' ⟨rfl, hI'⟩
            exact ⟨hI', fun _ h => h, Or.inl ⟨_, by decide, rfl, updF_same _ _ _⟩⟩
          | 6, _, hdep =>
            have E48 : a1.tmps[48]?.getD undef = .int .i64 q := by rw [← ha1]; exact (putsL_in2 _ _ _ _ (by decide) (show 48 < 67 from by decide)).trans (hdep 2 (by kernel_rfl))
            have E51 : a1.tmps[51]?.getD undef = .int .i64 q := by rw [← ha1]; exact (putsL_in2 _ _ _ _ (by decide) (show 51 < 67 from by decide)).trans (hdep 5 (by kernel_rfl))
            exact wpOp_val rfl rfl (v := .bool false) (w' := W) (by simp [execOp, go_sem, E48, E51]) ⟨hIW, fun _ h => h, Or.inl ⟨_, by decide, rfl, updF_same _ _ _⟩⟩
          | iq + 7, h, _ => exact absurd h (by omega)
        case refine_2 =>
          intro f W hIW hR
          have h52 : f 52 = .bool false := hR 6 (show 6 < 7 from by decide)
          simp only [putsL, List.foldl_cons, List.foldl_nil, Act.put, List.setIfInBounds_toArray, List.set_cons_zero, List.set_cons_succ]
          go_wp2
          go_meet
          exact ⟨(by first | exact h52 | rfl), Lib.hid hIW⟩
      case rest =>
        obtain ⟨rfl, HJ⟩ := hcut
        have HBN := Lib.hid (HJB.out _ HJ.out)
        clear HJ HJO HJI HJD HJ0 HJB HMX HMV HOY HOL
        go_wp2
        go_roundw
        case rel => exact ⟨j + 1, by first | rfl | go_num, by omega, HBN⟩
        case measure => simp [RowKit.intOf]; omega
    · obtain rfl : j = 3 := by omega
      have hbn := HB.out
      obtain ⟨w10, hw10⟩ : ∃ W, W = wr := ⟨_, rfl⟩
      rw [← hw10] at hbn ⊢
      clear hw10 HB
      have HB10 := Lib.hid (HB9.out.trans (hbn.mono HB9.out.size))
      have HXX_10 := Lib.hid (obj_below HXX_9.out hbn)
      have HXY_10 := Lib.hid (obj_below HXY_9.out hbn)
      have HXU_10 := Lib.hid (obj_below HXU_9.out hbn)
      have HXV_10 := Lib.hid (obj_below HXV_9.out hbn)
      have HRL_10 := Lib.hid (ListAt.below HRL_9.out hbn)
      have HRC_10 := Lib.hid (ListAt.below HRC_9.out hbn)
      have HRX_10 := Lib.hid (ListAt.below HRX_9.out hbn)
      have HRY_10 := Lib.hid (ListAt.below HRY_9.out hbn)
      clear HB9 HXX_9 HXY_9 HXU_9 HXV_9 HRL_9 HRC_9 HRX_9 HRY_9
      clear hbn
      go_wp2
      go_loopw [55] (fun iv wr => ∃ j : Nat, iv = .int .i64 j ∧ j ≤ 2 ∧ Hid (Below w10.heap.size w10 wr)) (fun iv _ => 2 - (RowKit.intOf iv).toNat)
      case atStart => exact ⟨0, rfl, by omega, Lib.hid (Below.refl _ _)⟩
      case round =>
        obtain ⟨j, rfl, hjn, HB⟩ := hrel
        by_cases hlt : j < 2
        · obtain ⟨a, ha⟩ : ∃ a : Int, a = ([520, 510] : List Int).getD j 0 := ⟨_, rfl⟩
          have hmem : a ∈ ([520, 510] : List Int) := by
            rw [ha]
            rcases (show j = 0 ∨ j = 1 by omega) with rfl | rfl <;> simp
          have hix : (Instr.index 47 (.agg #[.int .i64 520, .int .i64 510]) (.int .i64 (j : Int))).run Tryz.prog wr = .ok (.int .i64 a) wr := by
            rw [ha]
            rcases (show j = 0 ∨ j = 1 by omega) with rfl | rfl <;> kernel_rfl
          have hbd : 100 ≤ a ∧ a ≤ 599 := (by decide : ∀ x ∈ ([520, 510] : List Int), 100 ≤ x ∧ x ≤ 599) a hmem
          have heq := HBK.out a ((by decide : ∀ x ∈ ([520, 510] : List Int), x ∈ ([220, 210, 130, 520, 510] : List Int)) a hmem)
          obtain ⟨q, hq⟩ : ∃ q, q = ofM 1 (byDay 720) a l := ⟨_, rfl⟩
          rw [← hq] at heq
          have hj0 : (0 : Int) ≤ (j : Int) := by omega
          have hj1 : (j : Int) < 2 := by omega
          have hwj : IntKind.i64.wrap ((j : Int) + 1) = (j : Int) + 1 := IntWalk.i64_in _ (by omega)
          obtain ⟨J, hJ⟩ : ∃ J, J = fun W : World => Below wr.heap.size wr W := ⟨_, rfl⟩
          have HJO : Hid (∀ W, J W → Below wr.heap.size wr W) := Lib.hid fun W hW => by rw [hJ] at hW; exact hW
          have HJI : Hid (∀ W, Below wr.heap.size wr W → J W) := Lib.hid fun W hW => by rw [hJ]; exact hW
          have HJD : Hid (∀ W, J W → J W.drew) := Lib.hid fun W hW => HJI.out _ ((HJO.out W hW).drew)
          have HJ0 : Hid (J wr) := Lib.hid (HJI.out _ (Below.refl _ _))
          have HJB : Hid (∀ W, J W → Below w10.heap.size w10 W) := Lib.hid fun W hW => HB.out.trans ((HJO.out W hW).mono HB.out.size)
          have HMX : Hid (∀ W, J W → ∀ i, W.cell? ⟨bX, i, none⟩ = #[.slice al nl cpl][i]?) := Lib.hid fun W hW i => obj_cell (obj_below HXX_10.out (HJB.out W hW)) i
          have HMV : Hid (∀ W, J W → ∀ i, W.cell? ⟨bV, i, none⟩ = #[.slice ay ny cy][i]?) := Lib.hid fun W hW i => obj_cell (obj_below HXV_10.out (HJB.out W hW)) i
          have HOY : Hid (∀ W, J W → Calls Tryz.prog 13 #[.agg #[.slice ay ny cy], .int .i64 1, .int .i64 a, .int .i64 720] W fun e w' => e = .returned (.int .i64 q) ∧ J w') := Lib.hid fun W hW => by
            have h := rgOf_right HYOK.out 1 a 720 _ W (ListAt.below HRY_10.out (HJB.out W hW)) (by decide) hbd
            rw [heq] at h
            exact h.mono fun e w' g => ⟨g.1, HJI.out _ ((HJO.out W hW).trans (g.2.mono (HJO.out W hW).size))⟩
          have HOL : Hid (∀ W, J W → Calls Tryz.prog 13 #[.agg #[.slice al nl cpl], .int .i64 1, .int .i64 a, .int .i64 720] W fun e w' => e = .returned (.int .i64 q) ∧ J w') := Lib.hid fun W hW => by
            have h := rgOf_right HOK.out 1 a 720 _ W (ListAt.below HRL_10.out (HJB.out W hW)) (by decide) hbd
            rw [← hq] at h
            exact h.mono fun e w' g => ⟨g.1, HJI.out _ ((HJO.out W hW).trans (g.2.mono (HJO.out W hW).size))⟩
          have egO := enters_of Tryz.func13 (by kernel_rfl) rfl
          clear hJ ha hmem heq hq hbd
          go_upto_region 16 with fail
          go_cut [64] (fun dv wx => dv = .bool false ∧ Hid (J wx))
          case first =>
            refine wp_region_props [58, 59, 60, 61, 62, 63, 64] (slotS [58, 59, 60, 61, 62, 63, 64]) (readsS [58, 59, 60, 61, 62, 63, 64]) (RTs [58, 59, 60, 61, 62, 63, 64] [.agg #[.slice ay ny cy], .int .i64 a, .int .i64 q, .agg #[.slice al nl cpl], .int .i64 a, .int .i64 q, .bool false]) J (by kernel_rfl) (by kernel_rfl) (by kernel_rfl) (HJD.out _ HJ0.out) (fun j f q v W hq h => RTs.upd hq h) ?_ ?_
            case refine_1 =>
              intro iq hiq f W hIW hdep
              have hiq' : iq < 7 := hiq
              generalize ha1 : putsL _ [58, 59, 60, 61, 62, 63, 64] f = a1
              match iq, hiq', hdep with
              | 0, _, hdep =>
                have E8 : a1.tmps[8]?.getD undef = .pointer (some ⟨bV, 0, none⟩) := by rw [← ha1]; exact (putsL_out2 _ _ _ _ (by decide)).trans rfl
                have v0 : W.cell? ⟨bV, 0, none⟩ = some (.slice ay ny cy) := by simpa using HMV.out W hIW 0
                exact wpOp_val rfl rfl (v := .agg #[.slice ay ny cy]) (w' := W) (by simp [execOp, go_sem, E8, v0]) ⟨hIW, fun _ h => h, Or.inl ⟨_, by decide, rfl, updF_same _ _ _⟩⟩
              | 1, _, hdep =>
                have E13 : a1.tmps[13]?.getD undef = .int .i64 a := by rw [← ha1]; exact (putsL_out2 _ _ _ _ (by decide)).trans rfl
                exact wpOp_val rfl rfl (v := .int .i64 a) (w' := W) (by simp [execOp, go_sem, E13]) ⟨hIW, fun _ h => h, Or.inl ⟨_, by decide, rfl, updF_same _ _ _⟩⟩
              | 2, _, hdep =>
                have E58 : a1.tmps[58]?.getD undef = .agg #[.slice ay ny cy] := by rw [← ha1]; exact (putsL_in2 _ _ _ _ (by decide) (show 58 < 67 from by decide)).trans (hdep 0 (by kernel_rfl))
                have E59 : a1.tmps[59]?.getD undef = .int .i64 a := by rw [← ha1]; exact (putsL_in2 _ _ _ _ (by decide) (show 59 < 67 from by decide)).trans (hdep 1 (by kernel_rfl))
                refine wpOp_call rfl rfl (n := 13) (vs := #[.agg #[.slice ay ny cy], .int .i64 1, .int .i64 a, .int .i64 720]) (by have := egO #[.agg #[.slice ay ny cy], .int .i64 1, .int .i64 a, .int .i64 720] W; simp [execOp, E58, E59, resolve, invoke, go_sem] <;> exact this) ((HOY.out W hIW).mono fun e w' h => (⟨_, h.1, rfl, h.2⟩ : ∃ v, e = .returned v ∧ (v = .int .i64 q ∧ J w'))) ?_
                rintro v w' ⟨rfl, hI'⟩
                exact ⟨hI', fun _ h => h, Or.inl ⟨_, by decide, rfl, updF_same _ _ _⟩⟩
              | 3, _, hdep =>
                have E4 : a1.tmps[4]?.getD undef = .pointer (some ⟨bX, 0, none⟩) := by rw [← ha1]; exact (putsL_out2 _ _ _ _ (by decide)).trans rfl
                have v0 : W.cell? ⟨bX, 0, none⟩ = some (.slice al nl cpl) := by simpa using HMX.out W hIW 0
                exact wpOp_val rfl rfl (v := .agg #[.slice al nl cpl]) (w' := W) (by simp [execOp, go_sem, E4, v0]) ⟨hIW, fun _ h => h, Or.inl ⟨_, by decide, rfl, updF_same _ _ _⟩⟩
              | 4, _, hdep =>
                have E13 : a1.tmps[13]?.getD undef = .int .i64 a := by rw [← ha1]; exact (putsL_out2 _ _ _ _ (by decide)).trans rfl
                exact wpOp_val rfl rfl (v := .int .i64 a) (w' := W) (by simp [execOp, go_sem, E13]) ⟨hIW, fun _ h => h, Or.inl ⟨_, by decide, rfl, updF_same _ _ _⟩⟩
              | 5, _, hdep =>
                have E61 : a1.tmps[61]?.getD undef = .agg #[.slice al nl cpl] := by rw [← ha1]; exact (putsL_in2 _ _ _ _ (by decide) (show 61 < 67 from by decide)).trans (hdep 3 (by kernel_rfl))
                have E62 : a1.tmps[62]?.getD undef = .int .i64 a := by rw [← ha1]; exact (putsL_in2 _ _ _ _ (by decide) (show 62 < 67 from by decide)).trans (hdep 4 (by kernel_rfl))
                refine wpOp_call rfl rfl (n := 13) (vs := #[.agg #[.slice al nl cpl], .int .i64 1, .int .i64 a, .int .i64 720]) (by have := egO #[.agg #[.slice al nl cpl], .int .i64 1, .int .i64 a, .int .i64 720] W; simp [execOp, E61, E62, resolve, invoke, go_sem] <;> exact this) ((HOL.out W hIW).mono fun e w' h => (⟨_, h.1, rfl, h.2⟩ : ∃ v, e = .returned v ∧ (v = .int .i64 q ∧ J w'))) ?_
                rintro v w' ⟨rfl, hI'⟩
                exact ⟨hI', fun _ h => h, Or.inl ⟨_, by decide, rfl, updF_same _ _ _⟩⟩
              | 6, _, hdep =>
                have E60 : a1.tmps[60]?.getD undef = .int .i64 q := by rw [← ha1]; exact (putsL_in2 _ _ _ _ (by decide) (show 60 < 67 from by decide)).trans (hdep 2 (by kernel_rfl))
                have E63 : a1.tmps[63]?.getD undef = .int .i64 q := by rw [← ha1]; exact (putsL_in2 _ _ _ _ (by decide) (show 63 < 67 from by decide)).trans (hdep 5 (by kernel_rfl))
                exact wpOp_val rfl rfl (v := .bool false) (w' := W) (by simp [execOp, go_sem, E60, E63]) ⟨hIW, fun _ h => h, Or.inl ⟨_, by decide, rfl, updF_same _ _ _⟩⟩
              | iq + 7, h, _ => exact absurd h (by omega)
            case refine_2 =>
              intro f W hIW hR
              have h64 : f 64 = .bool false := hR 6 (show 6 < 7 from by decide)
              simp only [putsL, List.foldl_cons, List.foldl_nil, Act.put, List.setIfInBounds_toArray, List.set_cons_zero, List.set_cons_succ]
              go_wp2
              go_meet
              exact ⟨(by first | exact h64 | rfl), Lib.hid hIW⟩
          case rest =>
            obtain ⟨rfl, HJ⟩ := hcut
            have HBN := Lib.hid (HJB.out _ HJ.out)
            clear HJ HJO HJI HJD HJ0 HJB HMX HMV HOY HOL
            go_wp2
            go_roundw
            case rel => exact ⟨j + 1, by first | rfl | go_num, by omega, HBN⟩
            case measure => simp [RowKit.intOf]; omega
        · obtain rfl : j = 2 := by omega
          have hbn := HB.out
          obtain ⟨w11, hw11⟩ : ∃ W, W = wr := ⟨_, rfl⟩
          rw [← hw11] at hbn ⊢
          clear hw11 HB
          have HB11 := Lib.hid (HB10.out.trans (hbn.mono HB10.out.size))
          have HXX_11 := Lib.hid (obj_below HXX_10.out hbn)
          have HXY_11 := Lib.hid (obj_below HXY_10.out hbn)
          have HXU_11 := Lib.hid (obj_below HXU_10.out hbn)
          have HXV_11 := Lib.hid (obj_below HXV_10.out hbn)
          have HRL_11 := Lib.hid (ListAt.below HRL_10.out hbn)
          have HRC_11 := Lib.hid (ListAt.below HRC_10.out hbn)
          have HRX_11 := Lib.hid (ListAt.below HRX_10.out hbn)
          have HRY_11 := Lib.hid (ListAt.below HRY_10.out hbn)
          clear HB10 HXX_10 HXY_10 HXU_10 HXV_10 HRL_10 HRC_10 HRX_10 HRY_10
          clear hbn
          go_wp2_with fail
          refine (sane41_true w11 (HLAY.out _ HB11.out)).mono ?_
          rintro en w12 ⟨rfl, hbn⟩
          have HB12 := Lib.hid (HB11.out.trans (hbn.mono HB11.out.size))
          have HXX_12 := Lib.hid (obj_below HXX_11.out hbn)
          have HXY_12 := Lib.hid (obj_below HXY_11.out hbn)
          have HXU_12 := Lib.hid (obj_below HXU_11.out hbn)
          have HXV_12 := Lib.hid (obj_below HXV_11.out hbn)
          have HRL_12 := Lib.hid (ListAt.below HRL_11.out hbn)
          have HRC_12 := Lib.hid (ListAt.below HRC_11.out hbn)
          have HRX_12 := Lib.hid (ListAt.below HRX_11.out hbn)
          have HRY_12 := Lib.hid (ListAt.below HRY_11.out hbn)
          clear HB11 HXX_11 HXY_11 HXU_11 HXV_11 HRL_11 HRC_11 HRX_11 HRY_11
          clear hbn
          go_wp2
          go_ret
          exact ⟨rfl, HB12.out⟩

end Go.Proofs.YtknmgkjfopoinaaGreatDoor
