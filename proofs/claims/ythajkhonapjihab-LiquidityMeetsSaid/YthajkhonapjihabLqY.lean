/- liquidity.Apply, on the plans of positions. -/
import Derived.Test.YthajkhonapjihabLqH
import Derived.Test.YthajkhonapjihabClnPos
import Derived.Test.YthajkhonapjihabLqI
set_option linter.unusedSimpArgs false
set_option linter.unusedVariables false
namespace Go.Proofs.Ythajkhonapjihab
open Go.RowKit Go.Lib Go.Proofs

theorem bump_bound {p : Pl} (h : 0 ≤ p.raise ∧ p.raise ≤ 1000000000000 ∧ 0 ≤ p.place ∧ p.place ≤ 1000000000000) {B : Int} {l : List Pos} (hl : ∀ x ∈ l, -B ≤ x.amt ∧ x.amt ≤ B) : ∀ x ∈ l.map (bump p), -(B + 1000000000000) ≤ x.amt ∧ x.amt ≤ B + 1000000000000 := by
  intro x hx
  obtain ⟨y, hy, rfl⟩ := List.mem_map.1 hx
  have := hl y hy
  unfold bump
  split <;> (try simp only) <;> omega
theorem apply_bound : ∀ (ps : List Pl) (l : List Pos) (B : Int), (∀ p ∈ ps, 0 ≤ p.raise ∧ p.raise ≤ 1000000000000 ∧ 0 ≤ p.place ∧ p.place ≤ 1000000000000) → (∀ x ∈ l, -B ≤ x.amt ∧ x.amt ≤ B) → ∀ x ∈ applyM l ps, -(B + 1000000000000 * (ps.length : Int)) ≤ x.amt ∧ x.amt ≤ B + 1000000000000 * (ps.length : Int)
  | [], l, B, _, hl, x, hx => by have := hl x hx; simp only [List.length_nil]; omega
  | p :: ps, l, B, hp, hl, x, hx => by
    have := apply_bound ps (l.map (bump p)) (B + 1000000000000) (fun q hq => hp q (List.mem_cons_of_mem _ hq)) (bump_bound (hp p (List.mem_cons_self ..)) hl) x hx
    simp only [List.length_cons]
    omega
theorem apply_len (ps : List Pl) (l : List Pos) : (applyM l ps).length = l.length := by
  have := congrArg List.length (apply_days ps l)
  rwa [daysP_len, daysP_len] at this

theorem cells_set (l : List Pos) (i : Nat) (h : i < l.length) (x : Int) : (cellsL posC l).set (i * 2 + 1) (.int .i64 x) = cellsL posC (l.set i ⟨l[i].day, x⟩) := by
  induction l generalizing i with
  | nil => simp at h
  | cons a l ih =>
    cases i with
    | zero => rfl
    | succ i =>
      have := ih i (by simpa using h)
      rw [show (i + 1) * 2 + 1 = (i * 2 + 1) + 1 + 1 by omega]
      simp only [cellsL, List.flatMap_cons, posC, List.cons_append, List.nil_append, List.set_cons_succ, List.getElem_cons_succ] at this ⊢
      rw [this]

theorem daysL_ok {l : List Pos} (hp : PosIn l) {ps : List Pl} (hq : (daysL ps).Pairwise (· < ·)) (hsub : ∀ d ∈ daysL ps, d ∈ daysP l) : (∀ i, i < (daysL ps).length → 0 ≤ (daysL ps).getD i 0 ∧ (daysL ps).getD i 0 ≤ 36000) ∧ (∀ i, i + 1 < (daysL ps).length → (daysL ps).getD i 0 < (daysL ps).getD (i + 1) 0) := by
  refine ⟨fun i hi => ?_, fun i hi => ?_⟩
  · rw [List.getD_eq_getElem?_getD, List.getElem?_eq_getElem hi, Option.getD_some]
    obtain ⟨x, hx, he⟩ := List.mem_map.1 (hsub _ (List.getElem_mem hi))
    rw [← he]
    exact hp.day x hx
  · rw [List.getD_eq_getElem?_getD, List.getD_eq_getElem?_getD, List.getElem?_eq_getElem hi, List.getElem?_eq_getElem (show i < (daysL ps).length by omega), Option.getD_some, Option.getD_some]
    rw [List.pairwise_iff_getElem] at hq
    exact hq i (i + 1) (by omega) hi (by omega)

set_option maxRecDepth 100000 in
set_option maxHeartbeats 4000000 in
theorem lqApply_ok {l : List Pos} {ps : List Pl} (hp : PosIn l) (hpl : PlIn ps) (hq : (daysL ps).Pairwise (· < ·)) (hsub : ∀ d ∈ daysL ps, d ∈ daysP l) (hr : PosIn (applyM l ps)) (v u : Value) (w : World) (hv : ListAt posC 2 w v l) (hu : ListAt plC 3 w u ps) :
    Calls Try.prog 25 #[v, u] w fun e w' => ∃ r, e = .returned (.tuple #[r, .int .i64 0]) ∧ w'.ownsRow w.heap.size 56 2 r l.length (cellsL posC (applyM l ps)) ∧ Below w.heap.size w w' := by
  have HDP := Lib.hid (fun W (hW : Below w.heap.size w W) => lqdaysP_ok l hp.len v W (hv.below hW))
  have HDL := Lib.hid (fun W (hW : Below w.heap.size w W) => lqdaysL_ok ps hpl.len u W (hu.below hW))
  have HT := Lib.hid (fun W (hW : Below w.heap.size w W) => lqtotals_ok hp v W (hv.below hW))
  have HAM := Lib.hid (fun W (hW : Below w.heap.size w W) => lqamounts_ok hpl u W (hu.below hW))
  have HA1 := Lib.hid (fun z W (hz : RowG W z l.length 1 (cellsI (daysP l))) => lqascend_ok (daysP l) (posIn_days hp).1 (posIn_days hp).2 (by rw [daysP_len]; exact hp.len) z W l.length (daysP_len l).symm hz)
  have HA2 := Lib.hid (fun z W (hz : RowG W z ps.length 1 (cellsI (daysL ps))) => lqascend_ok (daysL ps) (daysL_ok hp hq hsub).1 (daysL_ok hp hq hsub).2 (by rw [daysL_len]; exact hpl.len) z W ps.length (daysL_len ps).symm hz)
  have hpp := daysP_pair hp
  have hl1 : (daysP l).length ≤ 1000000 := by rw [daysP_len]; have := hp.len; omega
  have hl2 : (daysL ps).length ≤ 1000000 := by rw [daysL_len]; have := hpl.len; omega
  have HCV := Lib.hid (fun z1 z2 W (h1 : NumsAt W z1 (daysP l)) (h2 : NumsAt W z2 (daysL ps)) => lqcovered_ok (daysP l) (daysL ps) hl1 hl2 (pair_le hpp) hsub z1 z2 W h1 h2)
  have HBS := Lib.hid (fun x z W (h1 : NumsAt W z (daysP l)) => bs_any (daysP l) x z W h1 hl1 (pair_le hpp))
  have HCL := Lib.hid (fun W (hW : Below w.heap.size w W) => clonePos_any posC posF l v W (hv.below hW) (by have := hp.len; omega))
  have HTT := Lib.hid (fun z W (hz : ListAt posC 2 W z (applyM l ps)) => lqtotals_ok hr z W hz)
  have HBD := Lib.hid (fun j => apply_bound (ps.take j) l 1000000000000000 (fun p h => hpl.bd p (List.mem_of_mem_take h)) (fun x h => by have := hp.amt x h; omega))
  have HSUB := Lib.hid hsub
  have HPP := Lib.hid hpp
  have HBP := Lib.hid hpl.bd
  obtain ⟨ao, cap, rfl, hcap, hc⟩ := hv.shape posF
  obtain ⟨bo, cap2, rfl, hcap2, hc2⟩ := hu.shape plF
  have hlen := hp.len
  have hlen2 := hpl.len
  unfold DaysPPost at HDP
  unfold DaysLPost at HDL
  obtain ⟨n, hn⟩ : ∃ n, n = l.length := ⟨_, rfl⟩
  obtain ⟨m, hm⟩ : ∃ m, m = ps.length := ⟨_, rfl⟩
  have HN := Lib.hid hn
  have HM := Lib.hid hm
  have HC2 := Lib.hid hc2
  rw [← hn] at HDP HT HA1 HCL hlen hcap ⊢
  rw [← hm] at HDL HAM HA2 hlen2 hcap2 ⊢
  clear hp hpl hq hsub hr hv hu hc hc2 hpp hl1 hl2 hn hm
  go_enter Try.func25, Try.ntmps25
  go_wp2_with fail
  with_reducible refine (HDP.out _ (Below.refl _ _)).mono ?_
  rintro e w1 ⟨z1, rfl, ho1, b1⟩
  have HB1 := Lib.hid b1
  have HZ1 := Lib.hid (RowG.owns ho1)
  clear ho1 b1
  go_wp2_with fail
  with_reducible refine (HDL.out _ HB1.out).mono ?_
  rintro e w2 ⟨z2, rfl, ho2, b2⟩
  have HB2 := Lib.hid (HB1.out.trans (b2.mono HB1.out.size))
  have HZ1b := Lib.hid (RowG.below HZ1.out b2)
  have HZ2 := Lib.hid (RowG.owns ho2)
  clear ho2 b2 HZ1 HB1
  go_wp2_with fail
  with_reducible refine (HT.out _ HB2.out).mono ?_
  rintro e w3 ⟨rfl, b3⟩
  have HB3 := Lib.hid (HB2.out.trans (b3.mono HB2.out.size))
  have HY1 := Lib.hid (RowG.below HZ1b.out b3)
  have HY2 := Lib.hid (RowG.below HZ2.out b3)
  clear b3 HZ1b HZ2 HB2
  go_wp2_with fail
  with_reducible refine (HAM.out _ HB3.out).mono ?_
  rintro e w4 ⟨rfl, b4⟩
  have HB4 := Lib.hid (HB3.out.trans (b4.mono HB3.out.size))
  have HX1 := Lib.hid (RowG.below HY1.out b4)
  have HX2 := Lib.hid (RowG.below HY2.out b4)
  clear b4 HY1 HY2 HB3
  go_wp2_with fail
  with_reducible refine (HA1.out _ _ HX1.out).mono ?_
  rintro e w5 ⟨rfl, b5⟩
  have HB5 := Lib.hid (HB4.out.trans (b5.mono HB4.out.size))
  have HW1 := Lib.hid (RowG.below HX1.out b5)
  have HW2 := Lib.hid (RowG.below HX2.out b5)
  clear b5 HX1 HX2 HB4
  go_wp2_with fail
  with_reducible refine (HA2.out _ _ HW2.out).mono ?_
  rintro e w6 ⟨rfl, b6⟩
  have HB6 := Lib.hid (HB5.out.trans (b6.mono HB5.out.size))
  have HV1 := Lib.hid (RowG.below HW1.out b6)
  have HV2 := Lib.hid (RowG.below HW2.out b6)
  clear b6 HW1 HW2 HB5
  go_wp2_with fail
  with_reducible refine (HCV.out _ _ _ (nums_list.2 (by unfold ListAt; rw [daysP_len, cellsL_int, ← HN.out]; exact HV1.out)) (nums_list.2 (by unfold ListAt; rw [daysL_len, cellsL_int, ← HM.out]; exact HV2.out))).mono ?_
  rintro e w7 ⟨rfl, b7⟩
  have HB7 := Lib.hid (HB6.out.trans (b7.mono HB6.out.size))
  have HU1 := Lib.hid (RowG.below HV1.out b7)
  clear b7 HV1 HV2 HB6
  go_wp2_with fail
  with_reducible refine (HCL.out _ HB7.out).mono ?_
  rintro e w8 ⟨nx, rfl, ho8, b8⟩
  have HN7 := Lib.hid (show NumsAt w7 z1 (daysP l) from nums_list.2 (by unfold ListAt; rw [daysP_len, cellsL_int, ← HN.out]; exact HU1.out))
  have HB8 := Lib.hid b8
  have HO8 := Lib.hid ho8
  have HS7 := Lib.hid (HB7.out.size)
  clear b8 ho8 HU1
  go_wp2
  go_loopw [45] (fun iv wr => ∃ (j : Nat), iv = .int .i64 (j : Int) ∧ j ≤ m ∧ wr.ownsRow w7.heap.size 56 2 nx n (cellsL posC (applyM l (ps.take j))) ∧ Hid (Below w7.heap.size w7 wr)) (fun iv _ => m - (RowKit.intOf iv).toNat)
  case atStart => exact ⟨0, rfl, by omega, HO8.out, HB8⟩
  case round =>
    clear HO8 HB8
    obtain ⟨j, rfl, hj, hown, HB⟩ := hrel
    by_cases hlt : j < m
    · have hlx : j < ps.length := by rw [← HM.out]; exact hlt
      obtain ⟨bk, of, rfl, hbk, hcc⟩ := HC2.out (by omega)
      have HWB := Lib.hid (HB7.out.trans (HB.out.mono HS7.out))
      have hcell := fun q (hq : q < 3) => (HWB.out.cell (p := ⟨bk, of + j * 3 + q, none⟩) hbk).trans (hcc j hlx q hq)
      have hpb := HBP.out ps[j] (List.getElem_mem hlx)
      have hmem : ps[j].day ∈ daysP l := HSUB.out _ (List.mem_map_of_mem (List.getElem_mem hlx))
      obtain ⟨k, hk, hkd⟩ := List.getElem_of_mem hmem
      have hcount : (daysP l).countP (fun x => decide (x < ps[j].day)) = k := by rw [← hkd]; exact count_at _ HPP.out k hk
      have HX := Lib.hid (fun W (hW : Below w7.heap.size w7 W) => HBS.out ps[j].day z1 W (HN7.out.below hW))
      rw [hcount] at HX
      generalize (daysP l).contains ps[j].day = fnd at HX
      obtain ⟨A, hA⟩ : ∃ A, A = applyM l (ps.take j) := ⟨_, rfl⟩
      have hAlen : A.length = n := by rw [hA, apply_len, HN.out]
      have hAd : daysP A = daysP l := by rw [hA, apply_days]
      have hkn : k < A.length := by rw [daysP_len] at hk; rw [hAlen, HN.out]; exact hk
      have hAk : A[k].day = ps[j].day := by
        rw [← hkd]
        have h1 : A[k].day = (daysP A)[k]'(by rw [daysP_len]; exact hkn) := by simp [daysP]
        rw [h1]
        simp only [hAd]
      have hnext : A.set k ⟨A[k].day, A[k].amt + (ps[j].raise - ps[j].place)⟩ = applyM l (ps.take (j + 1)) := by
        rw [List.take_succ_eq_append_getElem hlx, apply_snoc, ← hA]
        exact (bump_set (by rw [hAd]; exact HPP.out) ps[j] hkn hAk).symm
      have hbz := HBD.out j A[k] (by rw [← hA]; exact List.getElem_mem hkn)
      rw [List.length_take] at hbz
      have hz : -3000000000000000 ≤ A[k].amt ∧ A[k].amt ≤ 3000000000000000 := by omega
      have HSET : Hid ((cellsL posC A).set (k * 2 + 1) (.int .i64 (A[k].amt + (ps[j].raise - ps[j].place))) = cellsL posC (applyM l (ps.take (j + 1)))) := Lib.hid (by rw [cells_set A k hkn, hnext])
      rw [← hA] at hown
      have c0 : (cellsL posC A)[k * 2 + 1]? = some (.int .i64 A[k].amt) := cellsL_get posF A k 1 hkn (by omega)
      have hg0 := fun r hr => ownBlock_le hown r hr
      obtain ⟨g, cp, rfl, hgb, hcp⟩ := owns_shape hown (by omega)
      have hkn' : k < n := by omega
      have HO := Lib.hid hown
      have HCE := Lib.hid (show ∀ W, Below wr.heap.size wr W → W.cell? ⟨g, k * 2 + 1, none⟩ = some (.int .i64 A[k].amt) from fun W hW => ((ownsRow_below HO.out hW).cellAt (k * 2 + 1) (by omega)).trans c0)
      have HF := Lib.hid (show ∀ W, Below wr.heap.size wr W → W.frozen? ⟨g, k * 2 + 1, none⟩ = false from fun W hW => (ownsRow_below HO.out hW).frozenAt (k * 2 + 1))
      generalize A[k].amt = z at *
      generalize ps[j] = p at *
      obtain ⟨pd, pr, pp⟩ := p
      have d0 := hcell 0 (by omega)
      have d1 := hcell 1 (by omega)
      have d2 := hcell 2 (by omega)
      simp [plC] at d0 d1 d2
      simp only at hpb HSET HX
      obtain ⟨r0, r1, p0, p1⟩ := hpb
      obtain ⟨z0, z1'⟩ := hz
      have hj0 : (0 : Int) ≤ (j : Int) := by omega
      have hj1 : (j : Int) < (m : Int) := by omega
      have hk0 : (0 : Int) ≤ (k : Int) := by omega
      have hk1 : (k : Int) < (n : Int) := by omega
      have HGB := Lib.hid hgb
      clear hown hcell hcc hmem hcount hkd hA hAlen hAd hAk hnext hbz c0 hg0 hkn hk HBS HBD HPP HSUB HBP hgb
      go_wp2_with fail
      with_reducible refine (HX.out _ (HB.out.alloc HB.out.size _)).mono ?_
      rintro e w' ⟨rfl, hb⟩
      have hbx := obj_below (heap_alloc_new wr (.cells #[.int .i64 pd, .int .i64 pr, .int .i64 pp] 81)) hb
      have u0 := obj_cell hbx 0
      have u1 := obj_cell hbx 1
      have u2 := obj_cell hbx 2
      simp at u0 u1 u2
      have hW := (below_alloc wr (.cells #[.int .i64 pd, .int .i64 pr, .int .i64 pp] 81)).trans (hb.mono (by simp))
      have c1 := HCE.out _ hW
      have f1 := HF.out _ hW
      have HWX := Lib.hid hW
      clear hb hW hbx HX
      go_wp2
      go_region
      go_wp2
      have ho := (ownsRow_below HO.out HWX.out).stored (k * 2 + 1) (.int .i64 (z + (pr - pp)))
      have HST := Lib.hid ho
      clear ho
      go_roundw
      case rel =>
        refine ⟨j + 1, by first | rfl | go_num, by omega, ?_, Lib.hid ?_⟩
        · rw [← HSET.out]
          exact HST.out.1
        · have hB2 := HB.out.trans (HWX.out.mono HB.out.size)
          have hgr := HST.out.2
          exact hB2.trans ⟨hgr.os, hgr.tape, hgr.output, hgr.size, fun q hq => hgr.block q (Nat.lt_of_lt_of_le hq hB2.size) (fun e => by have := HGB.out; injection e; omega)⟩
      case measure => simp [RowKit.intOf]; omega
    · obtain rfl : j = m := by omega
      have htk : ps.take j = ps := List.take_of_length_le (by rw [← HM.out]; exact Nat.le_refl _)
      rw [htk] at hown
      have HO := Lib.hid hown
      have HLA := Lib.hid (show ListAt posC 2 wr nx (applyM l ps) by unfold ListAt; rw [apply_len, ← HN.out]; exact RowG.owns hown)
      clear hown htk HBS HBD HPP HSUB HBP
      go_wp2_with fail
      with_reducible refine (HTT.out _ _ HLA.out).mono ?_
      rintro e w9 ⟨rfl, b9⟩
      have HFIN := Lib.hid (And.intro (ownsRow_mono (ownsRow_below HO.out b9) HS7.out) (HB7.out.trans ((HB.out.trans (b9.mono HB.out.size)).mono HS7.out)))
      clear b9
      go_wp2
      go_ret2
      exact ⟨_, rfl, HFIN.out.1, HFIN.out.2⟩

end Go.Proofs.Ythajkhonapjihab
