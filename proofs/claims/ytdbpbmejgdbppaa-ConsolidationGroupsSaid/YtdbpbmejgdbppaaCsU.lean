/- A group in which nobody deals with the others has the sums of its entities; a group enlarged by one without partners has just its balances more: for every tape. -/
import Derived.Test.YtdbpbmejgdbppaaCsQ
import Derived.Test.YtdbpbmejgdbppaaCsH
import Derived.Test.YtdbpbmejgdbppaaCsJ
set_option linter.unusedSimpArgs false
set_option linter.unusedVariables false
namespace Go.Proofs.Ytdbpbmejgdbppaa
open Go.RowKit Go.Lib Go.Proofs Go.Maps

set_option maxRecDepth 100000 in
set_option maxHeartbeats 32000000 in
theorem csgroups_any (v : Value) (n : Nat) (w : World) (hi : IntsAt w v n w.heap.size) (hn : n ≤ 9223372036854775807) :
    Calls Try.prog 7 #[v] w fun e w' => e = .returned (.bool true) ∧ Below w.heap.size w w' := by
  have HNEW := Lib.hid (sNew_any v n w hi hn)
  have HSN := Lib.hid sane43_true
  clear hi hn
  go_enter Try.func7, Try.ntmps7
  go_wp2_with fail
  refine (HNEW.out).mono ?_
  rintro e w1 ⟨rfl, t1, b1⟩
  obtain ⟨tb, htb⟩ : ∃ tb, tb = w.heap.size := ⟨_, rfl⟩
  rw [← htb] at t1 ⊢
  have HLG := Lib.hid (agreed43_any tb 3 w1 t1 (by omega))
  have HFIN : Hid (∀ W, SI w1 tb W → Below w.heap.size w W) := Lib.hid fun W hW => b1.grown hW.old b1.size (fun q e => by injection e with e; omega)
  clear t1 b1 HNEW htb
  go_wp2_with fail
  refine (HLG.out).mono ?_
  rintro e w2 ⟨l0, lv, rfl, hag, hok, hday, hlen, hl, hsi⟩
  obtain ⟨a0, c0, rfl, hcap, -⟩ := PstsAt.open hl
  obtain ⟨n0, hn0⟩ : ∃ k, k = l0.length := ⟨_, rfl⟩
  rw [← hn0]
  rw [← hn0] at hl hcap hlen
  have HN0 := Lib.hid hn0
  have HAG0 := Lib.hid hag
  have HOK0 := Lib.hid hok
  have HDAY0 : Hid ((lastP l0).day ≤ 70) := Lib.hid (by omega)
  obtain ⟨bL, hbL⟩ : ∃ x, x = w2.heap.size := ⟨_, rfl⟩
  obtain ⟨w3, hw3⟩ : ∃ w3, w3 = w2.alloc (.cells #[.slice a0 n0 c0] 27) := ⟨_, rfl⟩
  have HI3 : Hid (LgI w1 tb bL (.slice a0 n0 c0) l0 w3) := Lib.hid (by
    rw [hw3, hbL]
    exact ⟨hsi.alloc _, heap_alloc_new _ _, ListAt.below hl (below_alloc _ _), hsi.src.lt, hsi.old.size⟩)
  have HW3 := Lib.hid hw3
  have HBL := Lib.hid hbL
  clear hw3 hl hsi hn0 hbL HLG hag hok hday hcap
  go_upto_region 3 with fail
  rw [← HW3.out, ← HBL.out]
  clear HW3
  go_wp2_with fail
  refine (n_in HI3.out.si 4 (by omega) (by omega)).mono ?_
  rintro e w4 ⟨k0, rfl, k00, k01, hi4, hg4⟩
  have HI4 := Lib.hid (HI3.out.turn hi4.src hg4)
  clear hi4 hg4 HI3
  go_wp2
  go_loopw [5] (fun kv wr => ∃ (l : List Pst) (k : Int) (aV : Option Addr) (nV cV : Nat), kv = .int .i64 k ∧ 0 ≤ k ∧ k ≤ 3 ∧ (nV : Int) ≤ 12 - k ∧ Hid (nV = l.length) ∧ Hid ((lastP l).day ≤ 70) ∧ Hid (AgrL l) ∧ Hid (LdgOk l) ∧ Hid (LgI w1 tb bL (.slice aV nV cV) l wr)) (fun kv _ => (RowKit.intOf kv).toNat)
  case atStart => exact ⟨l0, k0, a0, n0, c0, rfl, k00, by omega, by omega, HN0, HDAY0, HAG0, HOK0, HI4⟩
  case round =>
    clear HI4 HN0 HDAY0 HAG0 HOK0
    obtain ⟨l, k, aV, nV, cV, rfl, hk0, hk3, hnv, HNV, HLD, HAG, HOK, HI⟩ := hrel
    by_cases hk : 0 < k
    · obtain ⟨N1, hN1⟩ : ∃ q : Int, q = (nV : Int) + 1 := ⟨_, rfl⟩
      obtain ⟨n1, hn1⟩ : ∃ q : Nat, q = nV + 1 := ⟨_, rfl⟩
      have hwn1 : IntKind.i64.wrap ((nV : Int) + 1) = N1 := by rw [hN1]; exact IntWalk.i64_in _ (by omega)
      have hwk : IntKind.i64.wrap (k - 1) = k - 1 := IntWalk.i64_in _ (by omega)
      have hb5 := HI.out.box
      have s0 := obj_cell hb5 0
      simp at s0
      have HN1 := Lib.hid hN1
      have Hn1 := Lib.hid hn1
      clear hb5 hN1 hn1
      go_wp2_with fail
      refine (sPosting_one tb N1 70 wr HI.out.si.src (by rw [HN1.out]; omega) (by omega)).mono ?_
      rintro e w6 ⟨⟨p0, p1, p2, p3, p4, p5, p6, p7⟩, rfl, hpk, hq0, hq1, -, hq6, hq3, hq4, hsi⟩
      simp only at hq0 hq1 hq6 hq3 hq4
      simp only [pstC]
      have HD6 := Lib.hid (HI.out.turn hsi.src hsi.old)
      have HPK : Hid (PstOk (⟨p0, p1, 5, p3, p4, p5, p6, p7⟩ : Pst)) := Lib.hid ⟨hpk.num, hpk.day, by simp, hpk.deb, hpk.crd, hpk.ne, hpk.amt, hpk.par, by show p6 ≠ 5; omega, hpk.ref⟩
      have HQ0 := Lib.hid hq0
      have HQ1 := Lib.hid hq1
      have HQ6 := Lib.hid hq6
      have HQ3 := Lib.hid hq3
      have HQ4 := Lib.hid hq4
      clear hsi s0 HI hpk hq0 hq1 hq6 hq3 hq4
      obtain ⟨bZ, hbZ⟩ : ∃ q, q = w6.heap.size := ⟨_, rfl⟩
      obtain ⟨w7, hw7⟩ : ∃ W, W = w6.alloc (.cells #[.int .i64 p0, .int .i64 p1, .int .i64 p2, .int .i64 p3, .int .i64 p4, .int .i64 p5, .int .i64 p6, .int .i64 p7] 41) := ⟨_, rfl⟩
      have HZ7 : Hid (w7.heap[bZ]? = some (.cells #[.int .i64 p0, .int .i64 p1, .int .i64 p2, .int .i64 p3, .int .i64 p4, .int .i64 p5, .int .i64 p6, .int .i64 p7] 41 (0, 0))) := Lib.hid (by rw [hw7, hbZ]; exact heap_alloc_new _ _)
      have HD7 : Hid (LgI w1 tb bL (.slice aV nV cV) l w7) := Lib.hid (by rw [hw7]; exact HD6.out.below (below_alloc _ _))
      have HB7 : Hid (Below w6.heap.size w6 w7) := Lib.hid (by rw [hw7]; exact below_alloc _ _)
      have hzl : w6.heap.size ≤ bZ := by omega
      have HW7 := Lib.hid hw7
      have HBZ := Lib.hid hbZ
      obtain ⟨w8, hw8⟩ : ∃ W, W = w7.setCell ⟨bZ, 2, none⟩ (.int .i64 5) := ⟨_, rfl⟩
      have hz7 := HZ7.out
      have HZ8 : Hid (w8.heap[bZ]? = some (.cells #[.int .i64 p0, .int .i64 p1, .int .i64 5, .int .i64 p3, .int .i64 p4, .int .i64 p5, .int .i64 p6, .int .i64 p7] 41 (0, 0))) := Lib.hid (by rw [hw8]; have := obj_set hz7 2 (.int .i64 5); simpa using this)
      have HD8 : Hid (LgI w1 tb bL (.slice aV nV cV) l w8) := Lib.hid (HD6.out.below (by rw [hw8]; exact HB7.out.setCell hzl _))
      have HW8 := Lib.hid hw8
      have z0 := obj_cell hz7 0
      have z1 := obj_cell hz7 1
      have z2 := obj_cell hz7 2
      have z3 := obj_cell hz7 3
      have z4 := obj_cell hz7 4
      have z5 := obj_cell hz7 5
      have z6 := obj_cell hz7 6
      have z7 := obj_cell hz7 7
      simp at z0 z1 z2 z3 z4 z5 z6 z7
      have f0 := obj_free hz7 0
      have f1 := obj_free hz7 1
      have f2 := obj_free hz7 2
      have f3 := obj_free hz7 3
      have f4 := obj_free hz7 4
      have f5 := obj_free hz7 5
      have f6 := obj_free hz7 6
      have f7 := obj_free hz7 7
      clear hw7 hbZ HD6 hw8 hz7
      go_upto_region 7 with fail
      rw [← HW7.out, ← HBZ.out]
      go_upto_region 8 with fail
      rw [← HW8.out]
      clear z0 z1 z2 z3 z4 z5 z6 z7 f0 f1 f2 f3 f4 f5 f6 f7
      have HP3 : Hid (Calls Try.prog 18 #[.agg #[.slice aV nV cV], .agg #[.int .i64 p0, .int .i64 p1, .int .i64 5, .int .i64 p3, .int .i64 p4, .int .i64 p5, .int .i64 p6, .int .i64 p7]] w8 fun e w' => ∃ aX cX, e = .returned (.tuple #[.agg #[.slice aX n1 cX], .int .i64 0]) ∧ LgI w1 tb bL (.slice aX n1 cX) (l ++ [(⟨p0, p1, 5, p3, p4, p5, p6, p7⟩ : Pst)]) (w'.setCell ⟨bL, 0, none⟩ (.slice aX n1 cX)) ∧ w'.heap[bL]? = some (.cells #[.slice aV nV cV] 27 (0, 0)) ∧ Below w8.heap.size w8 w') := Lib.hid
        (agr_post n1 HD8.out HOK.out (by rw [← HNV.out]; omega) HPK.out (by rw [← HNV.out]; show p0 = _; rw [HQ0.out, HN1.out]) (by show _ ≤ p1; rw [HQ1.out]; exact HLD.out) (by rw [Hn1.out, HNV.out]))
      have hz8 := HZ8.out
      have hb8 := HD8.out.box
      have z0 := obj_cell hz8 0
      have z1 := obj_cell hz8 1
      have z2 := obj_cell hz8 2
      have z3 := obj_cell hz8 3
      have z4 := obj_cell hz8 4
      have z5 := obj_cell hz8 5
      have z6 := obj_cell hz8 6
      have z7 := obj_cell hz8 7
      simp at z0 z1 z2 z3 z4 z5 z6 z7
      have s0 := obj_cell hb8 0
      simp at s0
      clear hz8 hb8 HD7 HZ7
      go_wp2_with fail
      refine (HP3.out).mono ?_
      rintro e w9 ⟨aU, cU, rfl, hI9, hbx, hb9⟩
      have HI10 := Lib.hid hI9
      have s1 := obj_cell hbx 0
      have f1 := obj_free hbx 0
      simp at s1
      have HLE3 : Hid (n1 = (l ++ [(⟨p0, p1, 5, p3, p4, p5, p6, p7⟩ : Pst)]).length) := Lib.hid (by rw [List.length_append, List.length_singleton, ← HNV.out, Hn1.out])
      have hn1i : (n1 : Int) ≤ 12 - (k - 1) := by rw [Hn1.out]; omega
      have HAG3 : Hid (AgrL (l ++ [(⟨p0, p1, 5, p3, p4, p5, p6, p7⟩ : Pst)])) := Lib.hid (AgrL.plain HAG.out _ HQ6.out HQ3.out HQ4.out)
      have HOK3 : Hid (LdgOk (l ++ [(⟨p0, p1, 5, p3, p4, p5, p6, p7⟩ : Pst)])) := Lib.hid (HOK.out.snoc (by rw [← HNV.out]; omega) HPK.out (by rw [← HNV.out]; show p0 = _; rw [HQ0.out, HN1.out]) (by show _ ≤ p1; rw [HQ1.out]; exact HLD.out))
      have HLD3 : Hid ((lastP (l ++ [(⟨p0, p1, 5, p3, p4, p5, p6, p7⟩ : Pst)])).day ≤ 70) := Lib.hid (by rw [lastP_snoc]; show p1 ≤ 70; rw [HQ1.out]; exact Int.le_refl _)
      clear hI9 hbx hb9 s0 z0 z1 z2 z3 z4 z5 z6 z7
      go_wp2
      go_roundw
      case rel => exact ⟨l ++ [(⟨p0, p1, 5, p3, p4, p5, p6, p7⟩ : Pst)], k - 1, aU, n1, cU, by first | rfl | go_num, by omega, by omega, hn1i, HLE3, HLD3, HAG3, HOK3, HI10⟩
      case measure => simp [RowKit.intOf]; omega
    · have HB0 := Lib.hid (HFIN.out _ HI.out.si)
      have HX0 := Lib.hid HI.out.box
      have HL0 := Lib.hid HI.out.rows
      have hl12 : l.length ≤ 12 := by rw [← HNV.out]; omega
      have H12 := Lib.hid hl12
      obtain ⟨w10, hw10⟩ : ∃ W, W = wr := ⟨_, rfl⟩
      rw [← hw10] at HB0 HX0 HL0 ⊢
      have s0 := obj_cell HX0.out 0
      simp at s0
      clear hw10 hl12 HI HLD HFIN
      obtain ⟨el, hel⟩ : ∃ q, q = elimQ 70 l (eachQ [1, 2, 3] (refsM l)) := ⟨_, rfl⟩
      have HEL := Lib.hid hel
      go_upto_region 9 with fail
      obtain ⟨bgA, hbg⟩ : ∃ b, b = w10.heap.size := ⟨_, rfl⟩
      obtain ⟨wgA, hwg⟩ : ∃ W, W = w10.alloc (.cells #[.int .i64 1, .int .i64 2, .int .i64 3] 3) := ⟨_, rfl⟩
      have HBA1 : Hid (Below w.heap.size w wgA) := Lib.hid (by rw [hwg]; exact HB0.out.alloc HB0.out.size _)
      have HLA1 : Hid (PstsAt wgA (.slice aV nV cV) l) := Lib.hid (by rw [hwg]; exact HL0.out.below (below_alloc _ _))
      have HXA1 : Hid (wgA.heap[bL]? = some (.cells #[.slice aV nV cV] 27 (0, 0))) := Lib.hid (by rw [hwg]; exact obj_below HX0.out (below_alloc _ _))
      have HEA1 : Hid (Below w10.heap.size w10 wgA) := Lib.hid (by rw [hwg]; exact below_alloc _ _)
      have HWHA := Lib.hid (csWhole_right HOK.out (g := [1, 2, 3]) ⟨by decide, by decide, by decide, by decide⟩ 70 ⟨by decide, by decide⟩ (.slice aV nV cV) (.slice (some ⟨bgA, 0, none⟩) 3 3) wgA HLA1.out (by rw [hwg, hbg]; exact list_newC intF w10 ([1, 2, 3] : List Int) 3))
      unfold WhPost at HWHA
      rw [HAG.out.dif 70 (fun q hq => (mem_eachQ hq).1)] at HWHA
      obtain ⟨RA, hRA⟩ : ∃ R, R = balsM (wholeM 70 l [1, 2, 3]) := ⟨_, rfl⟩
      have HVA : Hid (∀ t, 100 ≤ t ∧ t ≤ 599 → valB t RA = wholeM 70 l [1, 2, 3] t) := Lib.hid fun t ht => by rw [hRA]; exact valB_bals _ ht
      have HSA : Hid (∀ t j, 100 ≤ t ∧ t ≤ 599 → -40000000000000000 ≤ valB t (RA.take j) ∧ valB t (RA.take j) ≤ 40000000000000000) := Lib.hid fun t j ht => by rw [hRA]; exact part_small HOK.out H12.out (by decide) ht j
      have hrAn : RA.length ≤ 500 := by rw [hRA]; exact bals_len _
      rw [← hRA, ← hel] at HWHA
      have HWGA := Lib.hid hwg
      have HBGA := Lib.hid hbg
      clear hwg hbg hRA hel
      go_wp2_with fail
      rw [← HWGA.out, ← HBGA.out]
      refine (HWHA.out).mono ?_
      rintro e wxA ⟨vb, vd, rfl, hownB, hownD, hbx⟩
      obtain ⟨adA, cdA, hvd, -, -⟩ := owns_gen hownD
      simp only [List.length_nil] at hvd
      subst hvd
      obtain ⟨abA, cbA, hvb, hcapA, hbs⟩ := (ListAt.owns hownB : ListAt balC 2 wxA vb RA).shape balF
      obtain ⟨nrA, hnr⟩ : ∃ k, k = RA.length := ⟨_, rfl⟩
      have HNA := Lib.hid hnr
      rw [← hnr] at hvb hrAn hcapA
      subst hvb
      have HSA0 := Lib.hid hbs
      obtain ⟨bWA, hbW⟩ : ∃ b, b = wxA.heap.size := ⟨_, rfl⟩
      obtain ⟨w11, hwN⟩ : ∃ W, W = wxA.alloc (.cells #[.slice abA nrA cbA, .int .i64 el, .slice adA 0 cdA] 47) := ⟨_, rfl⟩
      have hB2 := HBA1.out.trans (hbx.mono HBA1.out.size)
      have HBA : Hid (Below w.heap.size w w11) := Lib.hid (by rw [hwN]; exact hB2.alloc hB2.size _)
      have hE2 := HEA1.out.trans (hbx.mono HEA1.out.size)
      have HEA : Hid (Below w10.heap.size w10 w11) := Lib.hid (by rw [hwN]; exact hE2.alloc hE2.size _)
      have HQA : Hid (Below wxA.heap.size wxA w11) := Lib.hid (by rw [hwN]; exact below_alloc _ _)
      have HLA := Lib.hid (HL0.out.below HEA.out)
      have HXA := Lib.hid (obj_below HX0.out HEA.out)
      have HYA : Hid (w11.heap[bWA]? = some (.cells #[.slice abA nrA cbA, .int .i64 el, .slice adA 0 cdA] 47 (0, 0))) := Lib.hid (by rw [hwN, hbW]; exact heap_alloc_new _ _)
      have HWNA := Lib.hid hwN
      have HBWA := Lib.hid hbW
      clear hwN hbW hB2 hE2 hbx hownB hownD hbs hnr s0 HWHA HWGA HBGA HBA1 HLA1 HXA1 HEA1
      go_upto_region 10 with fail
      rw [← HWNA.out, ← HBWA.out]
      have s0 := obj_cell HXA.out 0
      simp at s0
      go_upto_region 10 with fail
      obtain ⟨bgB, hbg⟩ : ∃ b, b = w11.heap.size := ⟨_, rfl⟩
      obtain ⟨wgB, hwg⟩ : ∃ W, W = w11.alloc (.cells #[.int .i64 1, .int .i64 2, .int .i64 3, .int .i64 5] 3) := ⟨_, rfl⟩
      have HBB1 : Hid (Below w.heap.size w wgB) := Lib.hid (by rw [hwg]; exact HBA.out.alloc HBA.out.size _)
      have HLB1 : Hid (PstsAt wgB (.slice aV nV cV) l) := Lib.hid (by rw [hwg]; exact HLA.out.below (below_alloc _ _))
      have HXB1 : Hid (wgB.heap[bL]? = some (.cells #[.slice aV nV cV] 27 (0, 0))) := Lib.hid (by rw [hwg]; exact obj_below HXA.out (below_alloc _ _))
      have HEB1 : Hid (Below w11.heap.size w11 wgB) := Lib.hid (by rw [hwg]; exact below_alloc _ _)
      have HWHB := Lib.hid (csWhole_right HOK.out (g := [1, 2, 3, 5]) ⟨by decide, by decide, by decide, by decide⟩ 70 ⟨by decide, by decide⟩ (.slice aV nV cV) (.slice (some ⟨bgB, 0, none⟩) 4 4) wgB HLB1.out (by rw [hwg, hbg]; exact list_newC intF w11 ([1, 2, 3, 5] : List Int) 3))
      unfold WhPost at HWHB
      rw [HAG.out.elim_more 70, HAG.out.dif 70 (fun q hq => (mem_eachQ hq).1)] at HWHB
      obtain ⟨RB, hRB⟩ : ∃ R, R = balsM (wholeM 70 l [1, 2, 3, 5]) := ⟨_, rfl⟩
      have HVB : Hid (∀ t, 100 ≤ t ∧ t ≤ 599 → valB t RB = wholeM 70 l [1, 2, 3, 5] t) := Lib.hid fun t ht => by rw [hRB]; exact valB_bals _ ht
      have HSB : Hid (∀ t j, 100 ≤ t ∧ t ≤ 599 → -40000000000000000 ≤ valB t (RB.take j) ∧ valB t (RB.take j) ≤ 40000000000000000) := Lib.hid fun t j ht => by rw [hRB]; exact part_small HOK.out H12.out (by decide) ht j
      have hrBn : RB.length ≤ 500 := by rw [hRB]; exact bals_len _
      rw [← hRB, ← HEL.out] at HWHB
      have HWGB := Lib.hid hwg
      have HBGB := Lib.hid hbg
      clear hwg hbg hRB
      go_wp2_with fail
      rw [← HWGB.out, ← HBGB.out]
      refine (HWHB.out).mono ?_
      rintro e wxB ⟨vb, vd, rfl, hownB, hownD, hbx⟩
      obtain ⟨adB, cdB, hvd, -, -⟩ := owns_gen hownD
      simp only [List.length_nil] at hvd
      subst hvd
      obtain ⟨abB, cbB, hvb, hcapB, hbs⟩ := (ListAt.owns hownB : ListAt balC 2 wxB vb RB).shape balF
      obtain ⟨nrB, hnr⟩ : ∃ k, k = RB.length := ⟨_, rfl⟩
      have HNB := Lib.hid hnr
      rw [← hnr] at hvb hrBn hcapB
      subst hvb
      have HSB0 := Lib.hid hbs
      obtain ⟨bWB, hbW⟩ : ∃ b, b = wxB.heap.size := ⟨_, rfl⟩
      obtain ⟨w12, hwN⟩ : ∃ W, W = wxB.alloc (.cells #[.slice abB nrB cbB, .int .i64 el, .slice adB 0 cdB] 47) := ⟨_, rfl⟩
      have hB2 := HBB1.out.trans (hbx.mono HBB1.out.size)
      have HBB : Hid (Below w.heap.size w w12) := Lib.hid (by rw [hwN]; exact hB2.alloc hB2.size _)
      have hE2 := HEB1.out.trans (hbx.mono HEB1.out.size)
      have HEB : Hid (Below w11.heap.size w11 w12) := Lib.hid (by rw [hwN]; exact hE2.alloc hE2.size _)
      have HQB : Hid (Below wxB.heap.size wxB w12) := Lib.hid (by rw [hwN]; exact below_alloc _ _)
      have HLB := Lib.hid (HLA.out.below HEB.out)
      have HXB := Lib.hid (obj_below HXA.out HEB.out)
      have HYB : Hid (w12.heap[bWB]? = some (.cells #[.slice abB nrB cbB, .int .i64 el, .slice adB 0 cdB] 47 (0, 0))) := Lib.hid (by rw [hwN, hbW]; exact heap_alloc_new _ _)
      have HWNB := Lib.hid hwN
      have HBWB := Lib.hid hbW
      clear hwN hbW hB2 hE2 hbx hownB hownD hbs hnr s0 HWHB HWGB HBGB HBB1 HLB1 HXB1 HEB1
      go_upto_region 11 with fail
      rw [← HWNB.out, ← HBWB.out]
      have s0 := obj_cell HXB.out 0
      simp at s0
      go_upto_region 11 with fail
      obtain ⟨bgC, hbg⟩ : ∃ b, b = w12.heap.size := ⟨_, rfl⟩
      obtain ⟨wgC, hwg⟩ : ∃ W, W = w12.alloc (.cells #[.int .i64 5] 3) := ⟨_, rfl⟩
      have HBC1 : Hid (Below w.heap.size w wgC) := Lib.hid (by rw [hwg]; exact HBB.out.alloc HBB.out.size _)
      have HLC1 : Hid (PstsAt wgC (.slice aV nV cV) l) := Lib.hid (by rw [hwg]; exact HLB.out.below (below_alloc _ _))
      have HXC1 : Hid (wgC.heap[bL]? = some (.cells #[.slice aV nV cV] 27 (0, 0))) := Lib.hid (by rw [hwg]; exact obj_below HXB.out (below_alloc _ _))
      have HEC1 : Hid (Below w12.heap.size w12 wgC) := Lib.hid (by rw [hwg]; exact below_alloc _ _)
      have HWHC := Lib.hid (csWhole_right HOK.out (g := [5]) ⟨by decide, by decide, by decide, by decide⟩ 70 ⟨by decide, by decide⟩ (.slice aV nV cV) (.slice (some ⟨bgC, 0, none⟩) 1 1) wgC HLC1.out (by rw [hwg, hbg]; exact list_newC intF w12 ([5] : List Int) 3))
      unfold WhPost at HWHC
      rw [each_one 5 (refsM l), show difL 70 l [] = [] from rfl, show elimQ 70 l [] = 0 from rfl] at HWHC
      obtain ⟨RC, hRC⟩ : ∃ R, R = balsM (wholeM 70 l [5]) := ⟨_, rfl⟩
      have HVC : Hid (∀ t, 100 ≤ t ∧ t ≤ 599 → valB t RC = wholeM 70 l [5] t) := Lib.hid fun t ht => by rw [hRC]; exact valB_bals _ ht
      have HSC : Hid (∀ t j, 100 ≤ t ∧ t ≤ 599 → -40000000000000000 ≤ valB t (RC.take j) ∧ valB t (RC.take j) ≤ 40000000000000000) := Lib.hid fun t j ht => by rw [hRC]; exact part_small HOK.out H12.out (by decide) ht j
      have hrCn : RC.length ≤ 500 := by rw [hRC]; exact bals_len _
      rw [← hRC] at HWHC
      have HWGC := Lib.hid hwg
      have HBGC := Lib.hid hbg
      clear hwg hbg hRC
      go_wp2_with fail
      rw [← HWGC.out, ← HBGC.out]
      refine (HWHC.out).mono ?_
      rintro e wxC ⟨vb, vd, rfl, hownB, hownD, hbx⟩
      obtain ⟨adC, cdC, hvd, -, -⟩ := owns_gen hownD
      simp only [List.length_nil] at hvd
      subst hvd
      obtain ⟨abC, cbC, hvb, hcapC, hbs⟩ := (ListAt.owns hownB : ListAt balC 2 wxC vb RC).shape balF
      obtain ⟨nrC, hnr⟩ : ∃ k, k = RC.length := ⟨_, rfl⟩
      have HNC := Lib.hid hnr
      rw [← hnr] at hvb hrCn hcapC
      subst hvb
      have HSC0 := Lib.hid hbs
      obtain ⟨bWC, hbW⟩ : ∃ b, b = wxC.heap.size := ⟨_, rfl⟩
      obtain ⟨w13, hwN⟩ : ∃ W, W = wxC.alloc (.cells #[.slice abC nrC cbC, .int .i64 0, .slice adC 0 cdC] 47) := ⟨_, rfl⟩
      have hB2 := HBC1.out.trans (hbx.mono HBC1.out.size)
      have HBC : Hid (Below w.heap.size w w13) := Lib.hid (by rw [hwN]; exact hB2.alloc hB2.size _)
      have hE2 := HEC1.out.trans (hbx.mono HEC1.out.size)
      have HEC : Hid (Below w12.heap.size w12 w13) := Lib.hid (by rw [hwN]; exact hE2.alloc hE2.size _)
      have HQC : Hid (Below wxC.heap.size wxC w13) := Lib.hid (by rw [hwN]; exact below_alloc _ _)
      have HLC := Lib.hid (HLB.out.below HEC.out)
      have HXC := Lib.hid (obj_below HXB.out HEC.out)
      have HYC : Hid (w13.heap[bWC]? = some (.cells #[.slice abC nrC cbC, .int .i64 0, .slice adC 0 cdC] 47 (0, 0))) := Lib.hid (by rw [hwN, hbW]; exact heap_alloc_new _ _)
      have HWNC := Lib.hid hwN
      have HBWC := Lib.hid hbW
      clear hwN hbW hB2 hE2 hbx hownB hownD hbs hnr s0 HWHC HWGC HBGC HBC1 HLC1 HXC1 HEC1
      go_upto_region 12 with fail
      rw [← HWNC.out, ← HBWC.out]
      have s0 := obj_cell HXC.out 0
      simp at s0
      have HBF := HBC
      have HYCF := HYC
      have HYBF := Lib.hid (obj_below HYB.out HEC.out)
      have HYAF := Lib.hid (obj_below (obj_below HYA.out HEB.out) HEC.out)
      have HGA : Hid (Below wxA.heap.size wxA w13) := Lib.hid ((HQA.out.trans (HEB.out.mono HQA.out.size)).trans (HEC.out.mono ((HQA.out.trans (HEB.out.mono HQA.out.size)).size)))
      have HGB : Hid (Below wxB.heap.size wxB w13) := Lib.hid (HQB.out.trans (HEC.out.mono HQB.out.size))
      have HGC := HQC
      have HZERO : Hid (∀ t, 100 ≤ t ∧ t ≤ 599 → valB t RA + valB t RC - valB t RB = 0) := Lib.hid fun t ht => by rw [HVA.out t ht, HVB.out t ht, HVC.out t ht, HAG.out.whole_more 70 t]; omega
      clear s0 HVA HVB HVC HQA HQB HQC HEA HEB HEC HYA HYB HYC HBA HBB HBC HLA HLB HLC HXA HXB HXC HWNA HWNB HWNC HBWA HBWB HBWC HB0 HX0 HL0
      have y0 := obj_cell HYAF.out 0
      have y1 := obj_cell HYAF.out 1
      have y2 := obj_cell HYBF.out 1
      have y3 := obj_cell HYBF.out 2
      have y4 := obj_cell HYCF.out 1
      simp at y0 y1 y2 y3 y4
      go_wp2
      clear y0 y1 y2 y3 y4
      go_loopw [13] (fun av' wi => ∃ t : Int, av' = .int .i64 t ∧ 100 ≤ t ∧ t ≤ 600 ∧ Hid (Below w13.heap.size w13 wi)) (fun av' _ => (600 - RowKit.intOf av').toNat)
      case atStart => exact ⟨100, rfl, by omega, by omega, Lib.hid (Below.refl _ _)⟩
      case round =>
        obtain ⟨t, rfl, ht0, ht6, HB⟩ := hrel
        by_cases hlt : t < 600
        · have hwt : IntKind.i64.wrap (t + 1) = t + 1 := IntWalk.i64_in _ (by omega)
          have HZT := Lib.hid (HZERO.out t ⟨ht0, by omega⟩)
          have HRT := Lib.hid (fun j => HSA.out t j ⟨ht0, by omega⟩)
          have HRC := Lib.hid (fun j => HSC.out t j ⟨ht0, by omega⟩)
          have HRB := Lib.hid (fun j => HSB.out t j ⟨ht0, by omega⟩)
          have hy := obj_below HYAF.out HB.out
          have y0 := obj_cell hy 0
          simp at y0
          clear hy
          go_wp2
          clear y0
          go_loopw [14, 97] (fun sv iv wj => ∃ (s : Int) (j : Nat), sv = .int .i64 s ∧ iv = .int .i64 j ∧ j ≤ nrA ∧ Hid (s = valB t (RA.take j)) ∧ Hid (Below w13.heap.size w13 wj)) (fun _ iv _ => nrA - (RowKit.intOf iv).toNat)
          case atStart => exact ⟨0, 0, rfl, rfl, by omega, Lib.hid (by first | (simp [valB]; done) | (simp [valB])), HB⟩
          case round =>
            clear HB
            obtain ⟨sA, jA, rfl, rfl, hjnA, HSAJ, HB⟩ := hrel
            by_cases hltA : jA < nrA
            · have hjl : jA < RA.length := by rw [← HNA.out]; exact hltA
              obtain ⟨b1, o1, rfl, hb1, hcc⟩ := HSA0.out (by omega)
              have hB2 := HGA.out.trans (HB.out.mono HGA.out.size)
              have hcell := fun q (hq : q < 2) => (hB2.cell (p := ⟨b1, o1 + jA * 2 + q, none⟩) hb1).trans (hcc jA hjl q hq)
              have HTK := Lib.hid (valB_take (t := t) hjl)
              have hbd := HRT.out jA
              have hbd2 := HRT.out (jA + 1)
              have hi0 : (0 : Int) ≤ (jA : Int) := by omega
              have hi1 : (jA : Int) < (nrA : Int) := by omega
              have hwi : IntKind.i64.wrap ((jA : Int) + 1) = (jA : Int) + 1 := IntWalk.i64_in _ (by omega)
              rw [HTK.out] at hbd2
              generalize RA[jA] = x at *
              obtain ⟨x0, x1⟩ := x
              simp only at HTK hbd2
              have c0 : wr.cell? ⟨b1, o1 + jA * 2, none⟩ = some (.int .i64 x0) := hcell 0 (by omega)
              have c1 : wr.cell? ⟨b1, o1 + jA * 2 + 1, none⟩ = some (.int .i64 x1) := hcell 1 (by omega)
              obtain ⟨w18, hw18⟩ : ∃ W, W = wr.alloc (.cells #[.int .i64 x0, .int .i64 x1] 51) := ⟨_, rfl⟩
              obtain ⟨bX, hbX⟩ : ∃ q, q = wr.heap.size := ⟨_, rfl⟩
              have hx8 : w18.heap[bX]? = some (.cells #[.int .i64 x0, .int .i64 x1] 51 (0, 0)) := by rw [hw18, hbX]; exact heap_alloc_new _ _
              have y0 := obj_cell hx8 0
              have y1 := obj_cell hx8 1
              simp at y0 y1
              have HB8 : Hid (Below w13.heap.size w13 w18) := Lib.hid (by rw [hw18]; exact HB.out.alloc HB.out.size _)
              have HW8 := Lib.hid hw18
              have HBX := Lib.hid hbX
              clear hcell hcc hx8 hw18 hbX hB2
              go_upto_region 21 with fail
              rw [← HW8.out, ← HBX.out]
              clear c0 c1
              by_cases ht : x0 = t
              · rw [if_pos ht] at HTK hbd2
                have hws : IntKind.i64.wrap (sA + x1) = sA + x1 := IntWalk.i64_in _ (by rw [HSAJ.out]; omega)
                clear hbd hbd2
                go_wp2
                go_roundw
                case rel => exact ⟨sA + x1, jA + 1, rfl, by first | rfl | go_num, by omega, Lib.hid (by rw [HTK.out, HSAJ.out] <;> omega), HB8⟩
                case measure => simp [RowKit.intOf]; omega
              · rw [if_neg ht] at HTK
                clear hbd hbd2
                go_wp2
                go_roundw
                case rel => exact ⟨sA, jA + 1, rfl, by first | rfl | go_num, by omega, Lib.hid (by rw [HTK.out, HSAJ.out] <;> omega), HB8⟩
                case measure => simp [RowKit.intOf]; omega
            · obtain rfl : jA = nrA := by omega
              have hfullA : sA = valB t RA := by rw [HSAJ.out, List.take_of_length_le (by rw [← HNA.out]; exact Nat.le_refl _)]
              clear HSAJ
              have HAV := Lib.hid hfullA
              clear hfullA
              have hy := obj_below HYCF.out HB.out
              have y0 := obj_cell hy 0
              simp at y0
              clear hy
              go_wp2
              clear y0
              go_loopw [14, 113] (fun sv iv wj => ∃ (s : Int) (j : Nat), sv = .int .i64 s ∧ iv = .int .i64 j ∧ j ≤ nrC ∧ Hid (s = valB t RA + valB t (RC.take j)) ∧ Hid (Below w13.heap.size w13 wj)) (fun _ iv _ => nrC - (RowKit.intOf iv).toNat)
              case atStart => exact ⟨sA, 0, rfl, rfl, by omega, Lib.hid (by first | (simp [valB]; done) | (simp [valB]; exact HAV.out)), HB⟩
              case round =>
                clear HB
                obtain ⟨sC, jC, rfl, rfl, hjnC, HSCJ, HB⟩ := hrel
                by_cases hltC : jC < nrC
                · have hjl : jC < RC.length := by rw [← HNC.out]; exact hltC
                  obtain ⟨b1, o1, rfl, hb1, hcc⟩ := HSC0.out (by omega)
                  have hB2 := HGC.out.trans (HB.out.mono HGC.out.size)
                  have hcell := fun q (hq : q < 2) => (hB2.cell (p := ⟨b1, o1 + jC * 2 + q, none⟩) hb1).trans (hcc jC hjl q hq)
                  have HTK := Lib.hid (valB_take (t := t) hjl)
                  have hbd := HRC.out jC
                  have hbd2 := HRC.out (jC + 1)
                  have hfA := HRT.out RA.length
                  rw [List.take_length] at hfA
                  have hi0 : (0 : Int) ≤ (jC : Int) := by omega
                  have hi1 : (jC : Int) < (nrC : Int) := by omega
                  have hwi : IntKind.i64.wrap ((jC : Int) + 1) = (jC : Int) + 1 := IntWalk.i64_in _ (by omega)
                  rw [HTK.out] at hbd2
                  generalize RC[jC] = x at *
                  obtain ⟨x0, x1⟩ := x
                  simp only at HTK hbd2
                  have c0 : wr.cell? ⟨b1, o1 + jC * 2, none⟩ = some (.int .i64 x0) := hcell 0 (by omega)
                  have c1 : wr.cell? ⟨b1, o1 + jC * 2 + 1, none⟩ = some (.int .i64 x1) := hcell 1 (by omega)
                  obtain ⟨w18, hw18⟩ : ∃ W, W = wr.alloc (.cells #[.int .i64 x0, .int .i64 x1] 51) := ⟨_, rfl⟩
                  obtain ⟨bX, hbX⟩ : ∃ q, q = wr.heap.size := ⟨_, rfl⟩
                  have hx8 : w18.heap[bX]? = some (.cells #[.int .i64 x0, .int .i64 x1] 51 (0, 0)) := by rw [hw18, hbX]; exact heap_alloc_new _ _
                  have y0 := obj_cell hx8 0
                  have y1 := obj_cell hx8 1
                  simp at y0 y1
                  have HB8 : Hid (Below w13.heap.size w13 w18) := Lib.hid (by rw [hw18]; exact HB.out.alloc HB.out.size _)
                  have HW8 := Lib.hid hw18
                  have HBX := Lib.hid hbX
                  clear hcell hcc hx8 hw18 hbX hB2
                  go_upto_region 27 with fail
                  rw [← HW8.out, ← HBX.out]
                  clear c0 c1
                  by_cases ht : x0 = t
                  · rw [if_pos ht] at HTK hbd2
                    have hws : IntKind.i64.wrap (sC + x1) = sC + x1 := IntWalk.i64_in _ (by rw [HSCJ.out]; omega)
                    clear hbd hbd2 hfA
                    go_wp2
                    go_roundw
                    case rel => exact ⟨sC + x1, jC + 1, rfl, by first | rfl | go_num, by omega, Lib.hid (by rw [HTK.out, HSCJ.out] <;> omega), HB8⟩
                    case measure => simp [RowKit.intOf]; omega
                  · rw [if_neg ht] at HTK
                    clear hbd hbd2 hfA
                    go_wp2
                    go_roundw
                    case rel => exact ⟨sC, jC + 1, rfl, by first | rfl | go_num, by omega, Lib.hid (by rw [HTK.out, HSCJ.out] <;> omega), HB8⟩
                    case measure => simp [RowKit.intOf]; omega
                · obtain rfl : jC = nrC := by omega
                  have hfullC : sC = valB t RA + valB t RC := by rw [HSCJ.out, List.take_of_length_le (by rw [← HNC.out]; exact Nat.le_refl _)]
                  clear HSCJ
                  have HCV := Lib.hid hfullC
                  clear hfullC
                  have hy := obj_below HYBF.out HB.out
                  have y0 := obj_cell hy 0
                  simp at y0
                  clear hy
                  go_wp2
                  clear y0
                  go_loopw [14, 129] (fun sv iv wj => ∃ (s : Int) (j : Nat), sv = .int .i64 s ∧ iv = .int .i64 j ∧ j ≤ nrB ∧ Hid (s = valB t RA + valB t RC - valB t (RB.take j)) ∧ Hid (Below w13.heap.size w13 wj)) (fun _ iv _ => nrB - (RowKit.intOf iv).toNat)
                  case atStart => exact ⟨sC, 0, rfl, rfl, by omega, Lib.hid (by first | (simp [valB]; done) | (simp [valB]; exact HCV.out)), HB⟩
                  case round =>
                    clear HB
                    obtain ⟨sB, jB, rfl, rfl, hjnB, HSBJ, HB⟩ := hrel
                    by_cases hltB : jB < nrB
                    · have hjl : jB < RB.length := by rw [← HNB.out]; exact hltB
                      obtain ⟨b1, o1, rfl, hb1, hcc⟩ := HSB0.out (by omega)
                      have hB2 := HGB.out.trans (HB.out.mono HGB.out.size)
                      have hcell := fun q (hq : q < 2) => (hB2.cell (p := ⟨b1, o1 + jB * 2 + q, none⟩) hb1).trans (hcc jB hjl q hq)
                      have HTK := Lib.hid (valB_take (t := t) hjl)
                      have hbd := HRB.out jB
                      have hbd2 := HRB.out (jB + 1)
                      have hfA := HRT.out RA.length
                      rw [List.take_length] at hfA
                      have hfC := HRC.out RC.length
                      rw [List.take_length] at hfC
                      have hi0 : (0 : Int) ≤ (jB : Int) := by omega
                      have hi1 : (jB : Int) < (nrB : Int) := by omega
                      have hwi : IntKind.i64.wrap ((jB : Int) + 1) = (jB : Int) + 1 := IntWalk.i64_in _ (by omega)
                      rw [HTK.out] at hbd2
                      generalize RB[jB] = x at *
                      obtain ⟨x0, x1⟩ := x
                      simp only at HTK hbd2
                      have c0 : wr.cell? ⟨b1, o1 + jB * 2, none⟩ = some (.int .i64 x0) := hcell 0 (by omega)
                      have c1 : wr.cell? ⟨b1, o1 + jB * 2 + 1, none⟩ = some (.int .i64 x1) := hcell 1 (by omega)
                      obtain ⟨w18, hw18⟩ : ∃ W, W = wr.alloc (.cells #[.int .i64 x0, .int .i64 x1] 51) := ⟨_, rfl⟩
                      obtain ⟨bX, hbX⟩ : ∃ q, q = wr.heap.size := ⟨_, rfl⟩
                      have hx8 : w18.heap[bX]? = some (.cells #[.int .i64 x0, .int .i64 x1] 51 (0, 0)) := by rw [hw18, hbX]; exact heap_alloc_new _ _
                      have y0 := obj_cell hx8 0
                      have y1 := obj_cell hx8 1
                      simp at y0 y1
                      have HB8 : Hid (Below w13.heap.size w13 w18) := Lib.hid (by rw [hw18]; exact HB.out.alloc HB.out.size _)
                      have HW8 := Lib.hid hw18
                      have HBX := Lib.hid hbX
                      clear hcell hcc hx8 hw18 hbX hB2
                      go_upto_region 33 with fail
                      rw [← HW8.out, ← HBX.out]
                      clear c0 c1
                      by_cases ht : x0 = t
                      · rw [if_pos ht] at HTK hbd2
                        have hws : IntKind.i64.wrap (sB - x1) = sB - x1 := IntWalk.i64_in _ (by rw [HSBJ.out]; omega)
                        clear hbd hbd2 hfA hfC
                        go_wp2
                        go_roundw
                        case rel => exact ⟨sB - x1, jB + 1, rfl, by first | rfl | go_num, by omega, Lib.hid (by rw [HTK.out, HSBJ.out] <;> omega), HB8⟩
                        case measure => simp [RowKit.intOf]; omega
                      · rw [if_neg ht] at HTK
                        clear hbd hbd2 hfA hfC
                        go_wp2
                        go_roundw
                        case rel => exact ⟨sB, jB + 1, rfl, by first | rfl | go_num, by omega, Lib.hid (by rw [HTK.out, HSBJ.out] <;> omega), HB8⟩
                        case measure => simp [RowKit.intOf]; omega
                    · obtain rfl : jB = nrB := by omega
                      have hfullB : sB = valB t RA + valB t RC - valB t RB := by rw [HSBJ.out, List.take_of_length_le (by rw [← HNB.out]; exact Nat.le_refl _)]
                      clear HSBJ
                      have HBV := Lib.hid hfullB
                      clear hfullB
                      obtain rfl : sB = 0 := by rw [HBV.out]; exact HZT.out
                      go_wp2
                      go_roundw
                      case rel => exact ⟨t + 1, by first | rfl | go_num, by omega, by omega, HB⟩
                      case measure => simp [RowKit.intOf]; omega
        · have HE := Lib.hid (HBF.out.trans (HB.out.mono HBF.out.size))
          clear HB
          go_wp2_with fail
          refine (HSN.out _).mono ?_
          rintro e w19 ⟨rfl, hb19⟩
          have HF2 := Lib.hid (HE.out.trans (hb19.mono HE.out.size))
          clear hb19
          go_wp2
          go_ret
          exact ⟨rfl, HF2.out⟩

end Go.Proofs.Ytdbpbmejgdbppaa
