/- Contracts of the account's own Flow, Total, At. -/
import Derived.Test.YtoelidndnajedaaAcY
import Derived.Test.YtoelidndnajedaaAcB
import Derived.Test.YtoelidndnajedaaAcG
import Derived.Test.YtoelidndnajedaaAcH
import Derived.Shelf.Abstract
set_option linter.unusedSimpArgs false
set_option linter.unusedVariables false
namespace Go.Proofs.Ytoelidndnajedaa
open Go.RowKit Go.Lib Go.Proofs

theorem untilM_amt {credit : Int} : ∀ {es : List Ent} {l m : List SubA} {last : Ent}, untilM credit 36000 es l last = .ok m → daysM es = true → ∀ e ∈ es, 1 ≤ e.amount ∧ e.amount ≤ 1000000000000
  | [], _, _, _, _, _, _, he => by cases he
  | x :: es, l, m, last, h, hd, e, he => by
    simp only [daysM, List.all_cons, Bool.and_eq_true] at hd
    have hy := (inB_true.1 hd.1).2
    unfold untilM at h
    rw [if_neg (by omega)] at h
    split at h
    · cases h
    · rename_i l' hl
      have hf := faultE_zero (addM_parts hl).1
      rcases List.mem_cons.1 he with rfl | he
      · exact hf.2.2.2.1
      · exact untilM_amt h hd.2 e he
theorem right_amt {a : Acc} (h : checkM a = 0) : ∀ e ∈ a.ents, 1 ≤ e.amount ∧ e.amount ≤ 1000000000000 := by
  obtain ⟨_, _, _, h4, h5⟩ := checkM_zero.1 h
  exact untilM_amt h5 h4
theorem inL_bound : ∀ {l : List Ent}, (∀ e ∈ l, 1 ≤ e.amount ∧ e.amount ≤ 1000000000000) → (0 ≤ inL l ∧ inL l ≤ 1000000000000 * l.length) ∧ (0 ≤ outL l ∧ outL l ≤ 1000000000000 * l.length)
  | [], _ => by simp [inL, outL]
  | e :: l, h => by
    have h1 := h e (by simp)
    have h2 := inL_bound (l := l) (fun x hx => h x (by simp [hx]))
    simp only [inL, outL, inE, outE, List.length_cons]
    constructor <;> split <;> omega
theorem inL_take {l : List Ent} (k : Nat) (hk : k < l.length) : inL (l.take (k + 1)) = inL (l.take k) + inE (entAt l k) ∧ outL (l.take (k + 1)) = outL (l.take k) + outE (entAt l k) := by
  rw [List.take_succ_eq_append_getElem hk, entAt_get hk, inL_snoc, outL_snoc]
  exact ⟨rfl, rfl⟩

theorem acFlowC_any (f t : Nat) (lo hi : Int) (x : Ent) (W : World) (hf : W.cell? ⟨f, 0, none⟩ = some (.int .i64 lo)) (ht : W.cell? ⟨t, 0, none⟩ = some (.int .i64 hi)) :
    Calls Try.prog 73 (#[.agg x.cells.toArray] ++ #[.pointer (some ⟨f, 0, none⟩), .pointer (some ⟨t, 0, none⟩)]) W fun e W' => e = .returned (.bool (decide (lo ≤ x.day) && decide (x.day ≤ hi))) ∧ Below W.heap.size W W' := by
  obtain ⟨x0, x1, x2, x3, x4, x5⟩ := x
  simp only [Ent.cells]
  have hfl : f < W.heap.size := by
    rcases Nat.lt_or_ge f W.heap.size with h | h
    · exact h
    · simp [World.cell?, Array.getElem?_eq_none h] at hf
  have htl : t < W.heap.size := by
    rcases Nat.lt_or_ge t W.heap.size with h | h
    · exact h
    · simp [World.cell?, Array.getElem?_eq_none h] at ht
  by_cases h1 : lo ≤ x1
  · by_cases h2 : x1 ≤ hi
    · rw [show (decide (lo ≤ x1) && decide (x1 ≤ hi)) = true by simp [h1, h2]]
      go_enter Try.func73, Try.ntmps73
      go_wp2
      go_ret
      exact ⟨rfl, below_alloc W _⟩
    · rw [show (decide (lo ≤ x1) && decide (x1 ≤ hi)) = false by simp [h1]; omega]
      go_enter Try.func73, Try.ntmps73
      go_wp2
      go_ret
      exact ⟨rfl, below_alloc W _⟩
  · rw [show (decide (lo ≤ x1) && decide (x1 ≤ hi)) = false by simp; omega]
    go_enter Try.func73, Try.ntmps73
    go_wp2
    go_ret
    exact ⟨rfl, below_alloc W _⟩

theorem acAtC_any (t : Nat) (hi : Int) (x : Ent) (W : World) (ht : W.cell? ⟨t, 0, none⟩ = some (.int .i64 hi)) :
    Calls Try.prog 75 (#[.agg x.cells.toArray] ++ #[.pointer (some ⟨t, 0, none⟩)]) W fun e W' => e = .returned (.bool (decide (x.day ≤ hi))) ∧ Below W.heap.size W W' := by
  obtain ⟨x0, x1, x2, x3, x4, x5⟩ := x
  simp only [Ent.cells]
  have htl : t < W.heap.size := by
    rcases Nat.lt_or_ge t W.heap.size with h | h
    · exact h
    · simp [World.cell?, Array.getElem?_eq_none h] at ht
  by_cases h2 : x1 ≤ hi
  · rw [show decide (x1 ≤ hi) = true from decide_eq_true h2]
    go_enter Try.func75, Try.ntmps75
    go_wp2
    go_ret
    exact ⟨rfl, below_alloc W _⟩
  · rw [show decide (x1 ≤ hi) = false from decide_eq_false h2]
    go_enter Try.func75, Try.ntmps75
    go_wp2
    go_ret
    exact ⟨rfl, below_alloc W _⟩

def flowM (a : Acc) (lo hi : Int) : Int × Int := if checkM a = 0 then (flowI lo hi a.ents, flowO lo hi a.ents) else (0, 0)

set_option maxRecDepth 100000 in
set_option maxHeartbeats 8000000 in
theorem acFlow_any (a : Acc) (su en : Value) (lo hi : Int) (w : World) (h : SubsAt w su a.subs) (he : EntsAt w en a.ents) (hlen : a.subs.length ≤ 1000000) (hlen2 : a.ents.length ≤ 1000000) :
    Calls Try.prog 37 #[.agg #[.int .i64 a.credit, su, en], .int .i64 lo, .int .i64 hi] w fun e w' => e = .returned (.tuple #[.int .i64 (flowM a lo hi).1, .int .i64 (flowM a lo hi).2]) ∧ Below w.heap.size w w' := by
  have HE := Lib.hid he
  have HCK := Lib.hid (fun W (hW : Below w.heap.size w W) => acCheck_any a su en W (h.below hW) (he.below hW) hlen hlen2)
  obtain ⟨r1, hr1⟩ : ∃ r, r = (flowM a lo hi).1 := ⟨_, rfl⟩
  obtain ⟨r2, hr2⟩ : ∃ r, r = (flowM a lo hi).2 := ⟨_, rfl⟩
  have HR1 := Lib.hid hr1
  have HR2 := Lib.hid hr2
  rw [← hr1, ← hr2]
  clear hr1 hr2 h he
  have HW0 : Hid (Below w.heap.size w (((w.alloc (.cells #[.int .i64 a.credit, su, en] 28)).alloc (.cells #[.int .i64 lo] 3)).alloc (.cells #[.int .i64 hi] 3))) := Lib.hid ((below2 w _ _).alloc (by simp; omega) _)
  have HX0 : Hid ((((w.alloc (.cells #[.int .i64 a.credit, su, en] 28)).alloc (.cells #[.int .i64 lo] 3)).alloc (.cells #[.int .i64 hi] 3)).heap[w.heap.size]? = some (.cells #[.int .i64 a.credit, su, en] 28 (0, 0))) := Lib.hid (obj_below (alloc1_at w _ _) (below_alloc _ _))
  have HY0 : Hid ((((w.alloc (.cells #[.int .i64 a.credit, su, en] 28)).alloc (.cells #[.int .i64 lo] 3)).alloc (.cells #[.int .i64 hi] 3)).heap[w.heap.size + 1]? = some (.cells #[.int .i64 lo] 3 (0, 0))) := Lib.hid (obj_below (alloc2_at w _ _) (below_alloc _ _))
  have HZ0 : Hid ((((w.alloc (.cells #[.int .i64 a.credit, su, en] 28)).alloc (.cells #[.int .i64 lo] 3)).alloc (.cells #[.int .i64 hi] 3)).heap[w.heap.size + 1 + 1]? = some (.cells #[.int .i64 hi] 3 (0, 0))) := Lib.hid (by
    have := heap_alloc_new ((w.alloc (.cells #[.int .i64 a.credit, su, en] 28)).alloc (.cells #[.int .i64 lo] 3)) (.cells #[.int .i64 hi] 3)
    rwa [World.size_alloc, World.size_alloc] at this)
  by_cases hc : checkM a = 0
  case neg =>
    obtain rfl : r1 = 0 := HR1.out.trans (by unfold flowM; rw [if_neg hc])
    obtain rfl : r2 = 0 := HR2.out.trans (by unfold flowM; rw [if_neg hc])
    generalize checkM a = c at *
    have hc1 : (c == 0) = false := by rw [beq_eq_false_iff_ne]; exact hc
    have hc2 : (c != 0) = true := by rw [bne, hc1]; rfl
    clear hc HR1 HR2
    go_enter Try.func37, Try.ntmps37
    go_wp2_with fail
    refine (HCK.out _ HW0.out).mono ?_
    rintro e w1 ⟨rfl, hb1⟩
    have HB1 := Lib.hid (HW0.out.trans (hb1.mono HW0.out.size))
    clear hb1
    go_wp2
    go_ret2
    exact ⟨rfl, HB1.out⟩
  have HAM := Lib.hid (right_amt hc)
  have HLEN := Lib.hid (checkM_zero.1 hc).2.1
  have HF1 : Hid (r1 = inL (a.ents.filter fun e => decide (lo ≤ e.day) && decide (e.day ≤ hi))) := Lib.hid (HR1.out.trans (by unfold flowM; rw [if_pos hc]; exact (flow_filter lo hi a.ents).1.symm))
  have HF2 : Hid (r2 = outL (a.ents.filter fun e => decide (lo ≤ e.day) && decide (e.day ≤ hi))) := Lib.hid (HR2.out.trans (by unfold flowM; rw [if_pos hc]; exact (flow_filter lo hi a.ents).2.symm))
  rw [hc] at HCK
  clear hc HR1 HR2
  have eg := enters_of Try.func73 (by kernel_rfl) rfl
  obtain ⟨fl, hfl⟩ : ∃ fl, fl = a.ents.filter fun e => decide (lo ≤ e.day) && decide (e.day ≤ hi) := ⟨_, rfl⟩
  have HFA : Hid (∀ e ∈ fl, 1 ≤ e.amount ∧ e.amount ≤ 1000000000000) := Lib.hid (fun e he => by rw [hfl] at he; exact HAM.out e (List.mem_filter.1 he).1)
  have HFL : Hid (fl.length ≤ 400) := Lib.hid (by rw [hfl]; exact Nat.le_trans (List.length_filter_le _ _) HLEN.out)
  have HCH : Hid (∀ W, W.heap[w.heap.size + 1]? = some (.cells #[.int .i64 lo] 3 (0, 0)) → W.heap[w.heap.size + 1 + 1]? = some (.cells #[.int .i64 hi] 3 (0, 0)) → Below w.heap.size w W → Calls Try.prog 72 #[.agg #[.int .i64 a.credit, su, en], .func (.func 73) #[] #[.pointer (some ⟨w.heap.size + 1, 0, none⟩), .pointer (some ⟨w.heap.size + 1 + 1, 0, none⟩)]] W fun e w' => ∃ v, e = .returned v ∧ w'.ownsRow W.heap.size 38 6 v fl.length (cellsN fl) ∧ Below W.heap.size W w') := Lib.hid fun W h1 h2 hW => by
    rw [hfl]
    exact acchosen_any 73 #[.pointer (some ⟨w.heap.size + 1, 0, none⟩), .pointer (some ⟨w.heap.size + 1 + 1, 0, none⟩)] eg (fun e => decide (lo ≤ e.day) && decide (e.day ≤ hi)) a.ents a.credit su en W (HE.out.below hW) hlen2 (fun x _ V hV => acFlowC_any _ _ lo hi x V (obj_cell (obj_below h1 hV) 0) (obj_cell (obj_below h2 hV) 0))
  rw [← hfl] at HF1 HF2
  clear hfl
  obtain ⟨n, hn⟩ : ∃ n, n = fl.length := ⟨_, rfl⟩
  have HN := Lib.hid hn
  rw [← hn] at HFL HCH
  have hfl4 : n ≤ 400 := HFL.out
  clear hn eg
  go_enter Try.func37, Try.ntmps37
  go_wp2_with fail
  refine (HCK.out _ HW0.out).mono ?_
  rintro e w1 ⟨rfl, hb1⟩
  have HB1 := Lib.hid (HW0.out.trans (hb1.mono HW0.out.size))
  have HY1 := Lib.hid (obj_below HY0.out hb1)
  have HZ1 := Lib.hid (obj_below HZ0.out hb1)
  have hx1 := obj_below HX0.out hb1
  have u0 := obj_cell hx1 0
  have u1 := obj_cell hx1 1
  have u2 := obj_cell hx1 2
  simp at u0 u1 u2
  clear hb1 hx1
  go_wp2_with fail
  refine (HCH.out _ HY1.out HZ1.out HB1.out).mono ?_
  rintro e w2 ⟨v, rfl, ho2, hb2⟩
  have HB2 := Lib.hid (HB1.out.trans (hb2.mono HB1.out.size))
  have HV2 : Hid (EntsAt w2 v fl) := Lib.hid (by unfold EntsAt; rw [← HN.out]; exact RowG.owns ho2)
  obtain ⟨ao, cap, hv, hcap, hcs⟩ := (ents_list.1 HV2.out).shape entF
  have HCS := Lib.hid hcs
  rw [← HN.out] at hv hcap
  subst hv
  clear ho2 hb2 u0 u1 u2 hcs HV2
  go_wp2
  go_loopw [6, 7, 17] (fun x y i wr => ∃ (k : Nat) (s t : Int), x = .int .i64 s ∧ y = .int .i64 t ∧ i = .int .i64 k ∧ k ≤ n ∧ Hid (s = inL (fl.take k)) ∧ Hid (t = outL (fl.take k)) ∧ (0 ≤ s ∧ s ≤ 1000000000000 * (k : Int)) ∧ (0 ≤ t ∧ t ≤ 1000000000000 * (k : Int)) ∧ Hid (Below w2.heap.size w2 wr)) (fun _ _ i _ => n - (RowKit.intOf i).toNat)
  case atStart => exact ⟨0, 0, 0, rfl, rfl, rfl, by omega, Lib.hid rfl, Lib.hid rfl, by simp, by simp, Lib.hid (Below.refl _ _)⟩
  case round =>
    obtain ⟨k, s, t, rfl, rfl, rfl, hkn, HS, HT, hs, ht, HB⟩ := hrel
    by_cases hlt : k < n
    · have hkl : k < fl.length := by rw [← HN.out]; exact hlt
      obtain ⟨b, o, rfl, hb, hcc⟩ := HCS.out (by omega)
      have hbk := fun j (hj : j < 6) => (HB.out.cell (p := ⟨b, o + k * 6 + j, none⟩) hb).trans (hcc k hkl j hj)
      rw [← entAt_get hkl] at hbk
      have HST := Lib.hid (inL_take k hkl)
      have hamt := HFA.out (entAt fl k) (by rw [entAt_get hkl]; exact List.getElem_mem hkl)
      have hkk : k ≤ 400 := by omega
      generalize entAt fl k = x at *
      obtain ⟨x0, x1, x2, x3, x4, x5⟩ := x
      have c0 := hbk 0 (by omega)
      have c1 := hbk 1 (by omega)
      have c2 := hbk 2 (by omega)
      have c3 := hbk 3 (by omega)
      have c4 := hbk 4 (by omega)
      have c5 := hbk 5 (by omega)
      simp [Ent.cells] at c0 c1 c2 c3 c4 c5
      simp only at hamt
      have HB3 := Lib.hid (HB.out.alloc (Below.size HB.out) (.cells #[.int .i64 x0, .int .i64 x1, .int .i64 x2, .int .i64 x3, .int .i64 x4, .int .i64 x5] 38))
      have hk0 : (0 : Int) ≤ (k : Int) := by omega
      have hk1 : (k : Int) < (n : Int) := by omega
      have hbw : b < wr.heap.size := Nat.lt_of_lt_of_le hb HB.out.size
      clear hbk hcc
      by_cases h2 : x2 = 0
      · have q2 : (x2 == 0) = true := by rw [beq_iff_eq]; exact h2
        have HI : Hid (s + x4 = inL (fl.take (k + 1))) := Lib.hid (by rw [HST.out.1, ← HS.out]; unfold inE; rw [if_pos h2])
        clear h2
        by_cases h3 : x3 = 0
        · have q3 : (x3 == 0) = true := by rw [beq_iff_eq]; exact h3
          have HO : Hid (t + x4 = outL (fl.take (k + 1))) := Lib.hid (by rw [HST.out.2, ← HT.out]; unfold outE; rw [if_pos h3])
          clear h3
          go_wp2
          go_roundw
          case rel => exact ⟨k + 1, s + x4, t + x4, rfl, rfl, by first | rfl | go_num, by omega, HI, HO, by omega, by omega, HB3⟩
          case measure => simp [RowKit.intOf]; omega
        · have q3 : (x3 == 0) = false := by rw [beq_eq_false_iff_ne]; exact h3
          have HO : Hid (t = outL (fl.take (k + 1))) := Lib.hid (by rw [HST.out.2, ← HT.out]; unfold outE; rw [if_neg h3]; omega)
          clear h3
          go_wp2
          go_roundw
          case rel => exact ⟨k + 1, s + x4, t, rfl, rfl, by first | rfl | go_num, by omega, HI, HO, by omega, by omega, HB3⟩
          case measure => simp [RowKit.intOf]; omega
      · have q2 : (x2 == 0) = false := by rw [beq_eq_false_iff_ne]; exact h2
        have HI : Hid (s = inL (fl.take (k + 1))) := Lib.hid (by rw [HST.out.1, ← HS.out]; unfold inE; rw [if_neg h2]; omega)
        clear h2
        by_cases h3 : x3 = 0
        · have q3 : (x3 == 0) = true := by rw [beq_iff_eq]; exact h3
          have HO : Hid (t + x4 = outL (fl.take (k + 1))) := Lib.hid (by rw [HST.out.2, ← HT.out]; unfold outE; rw [if_pos h3])
          clear h3
          go_wp2
          go_roundw
          case rel => exact ⟨k + 1, s, t + x4, rfl, rfl, by first | rfl | go_num, by omega, HI, HO, by omega, by omega, HB3⟩
          case measure => simp [RowKit.intOf]; omega
        · have q3 : (x3 == 0) = false := by rw [beq_eq_false_iff_ne]; exact h3
          have HO : Hid (t = outL (fl.take (k + 1))) := Lib.hid (by rw [HST.out.2, ← HT.out]; unfold outE; rw [if_neg h3]; omega)
          clear h3
          go_wp2
          go_roundw
          case rel => exact ⟨k + 1, s, t, rfl, rfl, by first | rfl | go_num, by omega, HI, HO, by omega, by omega, HB3⟩
          case measure => simp [RowKit.intOf]; omega
    · obtain rfl : k = n := by omega
      obtain rfl : s = r1 := by rw [HS.out, HF1.out, HN.out, List.take_length]
      obtain rfl : t = r2 := by rw [HT.out, HF2.out, HN.out, List.take_length]
      go_wp2
      go_ret2
      exact ⟨rfl, HB2.out.trans (HB.out.mono HB2.out.size)⟩

theorem sumM_take {l : List SubA} (k : Nat) (hk : k < l.length) : sumM (l.take (k + 1)) = sumM (l.take k) + (subAt l k).bal := by
  rw [List.take_succ_eq_append_getElem hk, subAt_get hk]
  unfold sumM
  rw [List.map_append, List.sum_append]
  simp

set_option maxRecDepth 100000 in
set_option maxHeartbeats 8000000 in
theorem acTotal_any (a : Acc) (su en : Value) (w : World) (h : SubsAt w su a.subs) (he : EntsAt w en a.ents) (hlen : a.subs.length ≤ 1000000) (hlen2 : a.ents.length ≤ 1000000) :
    Calls Try.prog 32 #[.agg #[.int .i64 a.credit, su, en]] w fun e w' => e = .returned (.int .i64 (totalM a)) ∧ Below w.heap.size w w' := by
  have HCK := Lib.hid (fun W (hW : Below w.heap.size w W) => acCheck_any a su en W (h.below hW) (he.below hW) hlen hlen2)
  obtain ⟨r, hr⟩ : ∃ r, r = totalM a := ⟨_, rfl⟩
  have HR := Lib.hid hr
  rw [← hr]
  have HW0 := Lib.hid (below_alloc w (.cells #[.int .i64 a.credit, su, en] 28))
  have HX0 := Lib.hid (heap_alloc_new w (.cells #[.int .i64 a.credit, su, en] 28))
  by_cases hc : checkM a = 0
  case neg =>
    obtain rfl : r = 0 := HR.out.trans (by unfold totalM; rw [if_neg hc])
    generalize checkM a = c at *
    have hc1 : (c == 0) = false := by rw [beq_eq_false_iff_ne]; exact hc
    have hc2 : (c != 0) = true := by rw [bne, hc1]; rfl
    clear hc HR hr h he
    go_enter Try.func32, Try.ntmps32
    go_wp2_with fail
    refine (HCK.out _ HW0.out).mono ?_
    rintro e w1 ⟨rfl, hb1⟩
    have HB1 := Lib.hid (HW0.out.trans (hb1.mono HW0.out.size))
    clear hb1
    go_wp2
    go_ret
    exact ⟨rfl, HB1.out⟩
  have hz := checkM_zero.1 hc
  have hpl := hz.2.2.1
  unfold plainM at hpl
  simp only [Bool.and_eq_true] at hpl
  have HBL := Lib.hid (bals_wide hpl.1 (right_bals hc))
  have HR2 : Hid (r = sumM a.subs) := Lib.hid (HR.out.trans (if_pos hc))
  have hl20 : a.subs.length ≤ 20 := hz.1
  rw [hc] at HCK
  obtain ⟨n, hn⟩ : ∃ n, n = a.subs.length := ⟨_, rfl⟩
  have HN := Lib.hid hn
  obtain ⟨ao, cap, rfl, hcap, hcs⟩ := h.shape
  have HCS := Lib.hid hcs
  rw [← hn] at hcap hl20 HCK HW0 HX0 ⊢
  clear hc HR hr h he hz hpl hn hcs hlen hlen2
  go_enter Try.func32, Try.ntmps32
  go_wp2_with fail
  refine (HCK.out _ HW0.out).mono ?_
  rintro e w1 ⟨rfl, hb1⟩
  have HB1 := Lib.hid (HW0.out.trans (hb1.mono HW0.out.size))
  have u1 := obj_cell (obj_below HX0.out hb1) 1
  simp at u1
  clear hb1
  go_wp2
  go_loopw [3, 12] (fun x i wr => ∃ (k : Nat) (s : Int), x = .int .i64 s ∧ i = .int .i64 k ∧ k ≤ n ∧ Hid (s = sumM (a.subs.take k)) ∧ (-1000000000000 * (k : Int) ≤ s ∧ s ≤ 1000000000000000 * (k : Int)) ∧ Hid (Below w.heap.size w wr)) (fun _ i _ => n - (RowKit.intOf i).toNat)
  case atStart => exact ⟨0, 0, rfl, rfl, by omega, Lib.hid rfl, by simp, HB1⟩
  case round =>
    obtain ⟨k, s, rfl, rfl, hkn, HS, hs, HB⟩ := hrel
    by_cases hlt : k < n
    · have hkl : k < a.subs.length := by rw [← HN.out]; exact hlt
      obtain ⟨b, o, rfl, hb, hcc⟩ := HCS.out (by omega)
      have c0 : wr.cell? ⟨b, o + k * 2, none⟩ = some (.int .i64 (subAt a.subs k).id) := (HB.out.cell (p := ⟨b, o + k * 2, none⟩) hb).trans (hcc k hkl).1
      have c1 : wr.cell? ⟨b, o + k * 2 + 1, none⟩ = some (.int .i64 (subAt a.subs k).bal) := (HB.out.cell (p := ⟨b, o + k * 2 + 1, none⟩) hb).trans (hcc k hkl).2
      have hbb := HBL.out _ (List.getElem_mem hkl)
      rw [← subAt_get hkl] at hbb
      have HI : Hid (s + (subAt a.subs k).bal = sumM (a.subs.take (k + 1))) := Lib.hid (by rw [sumM_take k hkl, ← HS.out])
      generalize (subAt a.subs k).id = x at *
      generalize (subAt a.subs k).bal = y at *
      have HB2 := Lib.hid (HB.out.alloc HB.out.size (.cells #[.int .i64 x, .int .i64 y] 75))
      have hk0 : (0 : Int) ≤ (k : Int) := by omega
      have hk1 : (k : Int) < (n : Int) := by omega
      clear hcc
      go_wp2
      go_roundw
      case rel => exact ⟨k + 1, s + y, rfl, by first | rfl | go_num, by omega, HI, by omega, HB2⟩
      case measure => simp [RowKit.intOf]; omega
    · obtain rfl : k = n := by omega
      obtain rfl : s = r := by rw [HS.out, HR2.out, HN.out, List.take_length]
      go_wp2
      go_ret
      exact ⟨rfl, HB.out⟩

theorem carryL_take {l : List SubA} {es : List Ent} (k : Nat) (hk : k < es.length) : carryL l (es.take (k + 1)) = addP (addP (carryL l (es.take k)) (entAt es k).frm (-(entAt es k).amount)) (entAt es k).to (entAt es k).amount := by
  rw [List.take_succ_eq_append_getElem hk, entAt_get hk, carryL_snoc]

/-- What At hands back. -/
def AtPost (w : World) (a : Acc) (day : Int) (e : Ending) (w' : World) : Prop :=
  if checkM a = 0 then ∃ v, e = .returned v ∧ w'.ownsRow w.heap.size 75 2 v a.subs.length (cellsU (carryL (emptyM a.subs) (a.ents.filter fun e => decide (e.day ≤ day)))) ∧ Below w.heap.size w w'
  else e = .returned (.slice none 0 0) ∧ Below w.heap.size w w'

/-- A world within At: the balances so far, the chosen entries. -/
structure TInv (w : World) (base : Nat) (v : Value) (n : Nat) (m : List SubA) (mid : World) (W : World) : Prop where
  row : W.ownsRow base 75 2 v n (cellsU m)
  old : Below w.heap.size w W
  keep : ∀ k, k < mid.heap.size → v.ownBlock ≠ some k → W.heap[k]? = mid.heap[k]?
  apart : v.ownBlock = none ∨ ∃ g, v.ownBlock = some g ∧ w.heap.size ≤ g ∧ g < mid.heap.size
  size : mid.heap.size ≤ W.heap.size
theorem TInv.later {w : World} {base : Nat} {v : Value} {n : Nat} {m : List SubA} {mid A B : World} (h : TInv w base v n m mid A) (hb : Below A.heap.size A B) : TInv w base v n m mid B :=
  ⟨ownsRow_below h.row hb, h.old.trans (hb.mono h.old.size), fun k hk hn => (hb.block k (Nat.lt_of_lt_of_le hk h.size)).trans (h.keep k hk hn), h.apart, Nat.le_trans h.size hb.size⟩
theorem TInv.step {w : World} {base : Nat} {v : Value} {n : Nat} {m m' : List SubA} {mid A B : World} (h : TInv w base v n m mid A) (ho : B.ownsRow base 75 2 v n (cellsU m')) (hg : A.grownBy B v.ownBlock) : TInv w base v n m' mid B :=
  ⟨ho, h.old.grown hg h.old.size (fun k hk => by
      rcases h.apart with q | ⟨g, q, q1, q2⟩
      · rw [q] at hk; cases hk
      · rw [q] at hk; injection hk with hk; omega), fun k hk hn => (hg.block k (Nat.lt_of_lt_of_le hk h.size) (fun e => hn e.symm)).trans (h.keep k hk hn), h.apart, Nat.le_trans h.size hg.size⟩
theorem TInv.cell {w : World} {base : Nat} {v : Value} {n : Nat} {m : List SubA} {mid W : World} (h : TInv w base v n m mid W) {b j : Nat} (hb : b < mid.heap.size) (hn : v.ownBlock ≠ some b) : W.cell? ⟨b, j, none⟩ = mid.cell? ⟨b, j, none⟩ := by
  unfold World.cell?
  simp only
  rw [h.keep b hb hn]

set_option maxRecDepth 100000 in
set_option maxHeartbeats 8000000 in
theorem acAt_any (a : Acc) (su en : Value) (day : Int) (w : World) (h : SubsAt w su a.subs) (he : EntsAt w en a.ents) (hlen : a.subs.length ≤ 1000000) (hlen2 : a.ents.length ≤ 1000000) :
    Calls Try.prog 40 #[.agg #[.int .i64 a.credit, su, en], .int .i64 day] w (AtPost w a day) := by
  have HE := Lib.hid he
  have HCK := Lib.hid (fun W (hW : Below w.heap.size w W) => acCheck_any a su en W (h.below hW) (he.below hW) hlen hlen2)
  have HIDS := Lib.hid (fun W (hW : Below w.heap.size w W) => acids_any a.credit su en a.subs W (h.below hW) hlen)
  have HEMP := Lib.hid (fun (v : Value) (W : World) (hW : NumsAt W v (idsL a.subs)) => acempty_any v (idsL a.subs) W hW (by rw [idsL_len]; omega))
  have hz : zerosV (idsL a.subs) = emptyM a.subs := zerosV_ids a.subs
  rw [hz, idsL_len] at HEMP
  have HW0 := Lib.hid (below2 w (.cells #[.int .i64 a.credit, su, en] 28) (.cells #[.int .i64 day] 3))
  have HX0 := Lib.hid (alloc1_at w (.cells #[.int .i64 a.credit, su, en] 28) (.cells #[.int .i64 day] 3))
  have HY0 := Lib.hid (alloc2_at w (.cells #[.int .i64 a.credit, su, en] 28) (.cells #[.int .i64 day] 3))
  clear h he hz
  unfold AtPost
  by_cases hc : checkM a = 0
  case neg =>
    simp only [if_neg hc]
    generalize checkM a = c at *
    have hc1 : (c == 0) = false := by rw [beq_eq_false_iff_ne]; exact hc
    have hc2 : (c != 0) = true := by rw [bne, hc1]; rfl
    clear hc
    go_enter Try.func40, Try.ntmps40
    go_wp2_with fail
    refine (HCK.out _ HW0.out).mono ?_
    rintro e w1 ⟨rfl, hb1⟩
    have HB1 := Lib.hid (HW0.out.trans (hb1.mono HW0.out.size))
    clear hb1
    go_wp2
    go_ret
    exact ⟨rfl, HB1.out⟩
  simp only [if_pos hc]
  have HAM := Lib.hid (right_amt hc)
  have HLEN := Lib.hid (checkM_zero.1 hc).2.1
  have HL20 := Lib.hid (checkM_zero.1 hc).1
  rw [hc] at HCK
  clear hc
  have eg := enters_of Try.func75 (by kernel_rfl) rfl
  obtain ⟨fl, hfl⟩ : ∃ fl, fl = a.ents.filter fun e => decide (e.day ≤ day) := ⟨_, rfl⟩
  have HFA : Hid (∀ e ∈ fl, 1 ≤ e.amount ∧ e.amount ≤ 1000000000000) := Lib.hid (fun e he => by rw [hfl] at he; exact HAM.out e (List.mem_filter.1 he).1)
  have HFL : Hid (fl.length ≤ 400) := Lib.hid (by rw [hfl]; exact Nat.le_trans (List.length_filter_le _ _) HLEN.out)
  have HCH : Hid (∀ W, W.heap[w.heap.size + 1]? = some (.cells #[.int .i64 day] 3 (0, 0)) → Below w.heap.size w W → Calls Try.prog 72 #[.agg #[.int .i64 a.credit, su, en], .func (.func 75) #[] #[.pointer (some ⟨w.heap.size + 1, 0, none⟩)]] W fun e w' => ∃ v, e = .returned v ∧ w'.ownsRow W.heap.size 38 6 v fl.length (cellsN fl) ∧ Below W.heap.size W w') := Lib.hid fun W h1 hW => by
    rw [hfl]
    exact acchosen_any 75 #[.pointer (some ⟨w.heap.size + 1, 0, none⟩)] eg (fun e => decide (e.day ≤ day)) a.ents a.credit su en W (HE.out.below hW) hlen2 (fun x _ V hV => acAtC_any _ day x V (obj_cell (obj_below h1 hV) 0))
  rw [← hfl]
  clear hfl
  obtain ⟨n, hn⟩ : ∃ n, n = fl.length := ⟨_, rfl⟩
  have HN := Lib.hid hn
  rw [← hn] at HFL HCH
  have hfl4 : n ≤ 400 := HFL.out
  have HEL := Lib.hid (emptyM_len a.subs)
  obtain ⟨q, hq⟩ : ∃ q, q = a.subs.length := ⟨_, rfl⟩
  have HQ := Lib.hid hq
  rw [← hq] at HIDS HEMP ⊢
  clear hn eg hq
  go_enter Try.func40, Try.ntmps40
  go_wp2_with fail
  refine (HCK.out _ HW0.out).mono ?_
  rintro e w1 ⟨rfl, hb1⟩
  have HB1 := Lib.hid (HW0.out.trans (hb1.mono HW0.out.size))
  have HX1 := Lib.hid (obj_below HX0.out hb1)
  have HY1 := Lib.hid (obj_below HY0.out hb1)
  have u0 := obj_cell HX1.out 0
  have u1 := obj_cell HX1.out 1
  have u2 := obj_cell HX1.out 2
  simp at u0 u1 u2
  clear hb1
  go_wp2_with fail
  refine (HIDS.out _ HB1.out).mono ?_
  rintro e w2 ⟨v2, rfl, ho2, hb2⟩
  have HB2 := Lib.hid (HB1.out.trans (hb2.mono HB1.out.size))
  have HX2 := Lib.hid (obj_below HX1.out hb2)
  have HY2 := Lib.hid (obj_below HY1.out hb2)
  have HN2 : Hid (NumsAt w2 v2 (idsL a.subs)) := Lib.hid (NumsAt.owns (by rw [idsL_len, ← HQ.out]; exact ho2))
  clear ho2 hb2 u0 u1 u2
  go_wp2_with fail
  refine (HEMP.out _ _ HN2.out).mono ?_
  rintro e w3 ⟨v, rfl, ho3, hb3⟩
  have HB3 := Lib.hid (HB2.out.trans (hb3.mono HB2.out.size))
  have HX3 := Lib.hid (obj_below HX2.out hb3)
  have HY3 := Lib.hid (obj_below HY2.out hb3)
  have HO3 := Lib.hid ho3
  have HLT3 : Hid (w.heap.size ≤ w2.heap.size) := Lib.hid HB2.out.size
  have u0 := obj_cell HX3.out 0
  have u1 := obj_cell HX3.out 1
  have u2 := obj_cell HX3.out 2
  simp at u0 u1 u2
  clear ho3 hb3
  go_wp2_with fail
  refine (HCH.out _ HY3.out HB3.out).mono ?_
  rintro e w4 ⟨v4, rfl, ho4, hb4⟩
  have HV4 : Hid (EntsAt w4 v4 fl) := Lib.hid (by unfold EntsAt; rw [← HN.out]; exact RowG.owns ho4)
  have HAP : Hid (v.ownBlock = none ∨ ∃ g, v.ownBlock = some g ∧ w.heap.size ≤ g ∧ g < w3.heap.size) := Lib.hid (by
    cases hs : v.ownBlock with
    | none => exact Or.inl rfl
    | some g => have := HO3.out.lt g hs; exact Or.inr ⟨g, rfl, Nat.le_trans HLT3.out this.1, this.2⟩)
  have HI0 : Hid (TInv w w2.heap.size v q (emptyM a.subs) w4 w4) := Lib.hid ⟨ownsRow_below HO3.out hb4, HB3.out.trans (hb4.mono HB3.out.size), fun _ _ _ => rfl, by rcases HAP.out with h | ⟨g, h1, h2, h3⟩; exact Or.inl h; exact Or.inr ⟨g, h1, h2, Nat.lt_of_lt_of_le h3 hb4.size⟩, Nat.le_refl _⟩
  have HEB : Hid (∀ b o, v4 = .slice (some ⟨b, o, none⟩) n b → True) := Lib.hid (fun _ _ _ => trivial)
  obtain ⟨ao, cap, hv, hcap, hcs⟩ := (ents_list.1 HV4.out).shape entF
  have HCS := Lib.hid hcs
  rw [← HN.out] at hv hcap
  subst hv
  have HFAR : Hid (∀ b o, ao = some ⟨b, o, none⟩ → v.ownBlock ≠ some b) := Lib.hid (fun b o hao hv => by
    have h1 := ho4.lt b (by rw [hao]; rfl)
    rcases HAP.out with h | ⟨g, h2, h3, h4⟩
    · rw [h] at hv; cases hv
    · rw [h2] at hv; injection hv with hv; omega)
  clear ho4 hb4 u0 u1 u2 hcs HV4 HEB
  go_wp2
  generalize w2.heap.size = base at *
  go_loopw [18] (fun i wr => ∃ (k : Nat) (m : List SubA), i = .int .i64 k ∧ k ≤ n ∧ Hid (m = carryL (emptyM a.subs) (fl.take k)) ∧ Hid (TInv w base v q m w4 wr) ∧ Hid (m.length = q) ∧ Hid (∀ s ∈ m, -(2000000000000 * (k : Int)) ≤ s.bal ∧ s.bal ≤ 2000000000000 * (k : Int))) (fun i _ => n - (RowKit.intOf i).toNat)
  case atStart => exact ⟨0, emptyM a.subs, rfl, by omega, Lib.hid rfl, HI0, Lib.hid (HEL.out.trans HQ.out.symm), Lib.hid (fun s hs => by
    unfold emptyM at hs
    obtain ⟨t, _, rfl⟩ := List.mem_map.1 hs
    simp)⟩
  case round =>
    obtain ⟨k, m, rfl, hkn, HM, HI, HML, HBD⟩ := hrel
    by_cases hlt : k < n
    · have hkl : k < fl.length := by rw [← HN.out]; exact hlt
      obtain ⟨b, o, rfl, hb, hcc⟩ := HCS.out (by omega)
      have hbk := fun j (hj : j < 6) => (HI.out.cell (j := o + k * 6 + j) hb (HFAR.out b o rfl)).trans (hcc k hkl j hj)
      rw [← entAt_get hkl] at hbk
      have HST := Lib.hid (carryL_take (l := emptyM a.subs) k hkl)
      have hamt := HFA.out (entAt fl k) (by rw [entAt_get hkl]; exact List.getElem_mem hkl)
      have hkk : k ≤ 400 := by omega
      generalize entAt fl k = x at *
      have HI2 := Lib.hid (HI.out.later (below_alloc wr (.cells x.cells.toArray 38)))
      have HXB := Lib.hid (heap_alloc_new wr (.cells x.cells.toArray 38))
      obtain ⟨x0, x1, x2, x3, x4, x5⟩ := x
      simp only at hamt HST
      simp only [Ent.cells] at HI2 HXB
      have hb1 := addP_bal HBD.out x2 (-x4) (by omega)
      have hb2 := addP_bal hb1 x3 x4 (by omega)
      have HM2 : Hid (addP (addP m x2 (-x4)) x3 x4 = carryL (emptyM a.subs) (fl.take (k + 1))) := Lib.hid (by rw [HST.out, ← HM.out])
      have HML1 : Hid ((addP m x2 (-x4)).length = q) := Lib.hid (by rw [addP_len]; exact HML.out)
      have HML2 : Hid ((addP (addP m x2 (-x4)) x3 x4).length = q) := Lib.hid (by rw [addP_len, addP_len]; exact HML.out)
      have HBD2 : Hid (∀ s ∈ addP (addP m x2 (-x4)) x3 x4, -(2000000000000 * ((k + 1 : Nat) : Int)) ≤ s.bal ∧ s.bal ≤ 2000000000000 * ((k + 1 : Nat) : Int)) := Lib.hid (fun s hs => by have := hb2 s hs; omega)
      have HA1 : Hid (∀ W, W.ownsRow base 75 2 v q (cellsU m) → Calls Try.prog 76 #[v, .int .i64 x2, .int .i64 (-x4)] W fun e w' => e = .returned (.tuple #[]) ∧ w'.ownsRow base 75 2 v q (cellsU (addP m x2 (-x4))) ∧ W.grownBy w' v.ownBlock) := Lib.hid fun W hW => by
        have := acadd_any base v m x2 (-x4) W (by rw [HML.out]; exact hW) (by rw [HML.out, HQ.out]; exact hlen) (by omega) (by omega) (fun s hs => by have := HBD.out s hs; omega)
        rwa [HML.out] at this
      have HA2 : Hid (∀ W, W.ownsRow base 75 2 v q (cellsU (addP m x2 (-x4))) → Calls Try.prog 76 #[v, .int .i64 x3, .int .i64 x4] W fun e w' => e = .returned (.tuple #[]) ∧ w'.ownsRow base 75 2 v q (cellsU (addP (addP m x2 (-x4)) x3 x4)) ∧ W.grownBy w' v.ownBlock) := Lib.hid fun W hW => by
        have := acadd_any base v (addP m x2 (-x4)) x3 x4 W (by rw [HML1.out]; exact hW) (by rw [HML1.out, HQ.out]; exact hlen) (by omega) (by omega) (fun s hs => by have := hb1 s hs; omega)
        rwa [HML1.out] at this
      have c0 := hbk 0 (by omega)
      have c1 := hbk 1 (by omega)
      have c2 := hbk 2 (by omega)
      have c3 := hbk 3 (by omega)
      have c4 := hbk 4 (by omega)
      have c5 := hbk 5 (by omega)
      simp [Ent.cells] at c0 c1 c2 c3 c4 c5
      have hk0 : (0 : Int) ≤ (k : Int) := by omega
      have hk1 : (k : Int) < (n : Int) := by omega
      have hbw : b < wr.heap.size := Nat.lt_of_lt_of_le hb HI.out.size
      clear hbk hcc hb1 hb2
      go_wp2_with fail
      refine (HA1.out _ HI2.out.row).mono ?_
      rintro e w6 ⟨rfl, ho6, hg6⟩
      have HI6 := Lib.hid (HI2.out.step ho6 hg6)
      have hx6 : w6.heap[wr.heap.size]? = some (.cells #[.int .i64 x0, .int .i64 x1, .int .i64 x2, .int .i64 x3, .int .i64 x4, .int .i64 x5] 38 (0, 0)) := (hg6.block _ (obj_lt HXB.out) (by
        rcases HI.out.apart with h | ⟨g, h2, h3, h4⟩
        · rw [h]; simp
        · rw [h2]; have := HI.out.size; simp; omega)).trans HXB.out
      have z3 := obj_cell hx6 3
      have z4 := obj_cell hx6 4
      simp at z3 z4
      clear ho6 hg6 hx6
      go_wp2_with fail
      refine (HA2.out _ HI6.out.row).mono ?_
      rintro e w7 ⟨rfl, ho7, hg7⟩
      have HI7 := Lib.hid (HI6.out.step ho7 hg7)
      clear ho7 hg7
      go_wp2
      go_roundw
      case rel => exact ⟨k + 1, _, by first | rfl | go_num, by omega, HM2, HI7, HML2, HBD2⟩
      case measure => simp [RowKit.intOf]; omega
    · obtain rfl : k = n := by omega
      have HM3 : Hid (m = carryL (emptyM a.subs) fl) := Lib.hid (by rw [HM.out, HN.out, List.take_length])
      go_wp2
      go_ret
      refine ⟨_, rfl, ?_, HI.out.old⟩
      rw [← HM3.out]
      exact ownsRow_mono HI.out.row HLT3.out

end Go.Proofs.Ytoelidndnajedaa
