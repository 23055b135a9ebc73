/- The account's reference: Balance, Total. -/
import Derived.Test.YtoelidndnajedaaAcZ
set_option linter.unusedSimpArgs false
set_option linter.unusedVariables false
namespace Go.Proofs.Ytoelidndnajedaa
open Go.RowKit Go.Lib Go.Proofs

set_option maxRecDepth 100000 in
set_option maxHeartbeats 4000000 in
theorem raBalance_any (a : Acc) (su en : Value) (id : Int) (w : World) (h : SubsAt w su a.subs) (he : EntsAt w en a.ents) (hlen : a.subs.length ≤ 1000000) (hlen2 : a.ents.length ≤ 1000000) :
    Calls Try.prog 19 #[.agg #[.int .i64 a.credit, su, en], .int .i64 id] w fun e w' => e = .returned (.tuple #[.int .i64 (balanceM a id).1, .bool (balanceM a id).2]) ∧ Below w.heap.size w w' := by
  have HCK := Lib.hid (fun W (hW : Below w.heap.size w W) => raCheck_any a su en W (h.below hW) (he.below hW) hlen hlen2)
  have HPL := Lib.hid (fun W (hW : Below w.heap.size w W) => raat_any su a.subs id W (h.below hW) hlen)
  have HB0 := Lib.hid (below_alloc w (.cells #[.int .i64 a.credit, su, en] 28))
  have HX0 := Lib.hid (heap_alloc_new w (.cells #[.int .i64 a.credit, su, en] 28))
  obtain ⟨r1, hr1⟩ : ∃ r, r = (balanceM a id).1 := ⟨_, rfl⟩
  obtain ⟨r2, hr2⟩ : ∃ r, r = (balanceM a id).2 := ⟨_, rfl⟩
  have HR1 := Lib.hid hr1
  have HR2 := Lib.hid hr2
  rw [← hr1, ← hr2]
  have HS := Lib.hid h
  clear hr1 hr2 h he
  by_cases hc : checkM a = 0
  case neg =>
    obtain rfl : r1 = 0 := HR1.out.trans (by unfold balanceM; rw [if_neg hc])
    obtain rfl : r2 = false := HR2.out.trans (by unfold balanceM; rw [if_neg hc])
    generalize checkM a = c at *
    have hc1 : (c == 0) = false := by rw [beq_eq_false_iff_ne]; exact hc
    have hc2 : (c != 0) = true := by rw [bne, hc1]; rfl
    clear hc
    go_enter Try.func19, Try.ntmps19
    go_wp2_with fail
    refine (HCK.out _ HB0.out).mono ?_
    rintro e w1 ⟨rfl, hb1⟩
    have HB1 := Lib.hid (HB0.out.trans (hb1.mono HB0.out.size))
    clear hb1
    go_wp2
    go_ret2
    exact ⟨rfl, HB1.out⟩
  rw [hc] at HCK
  go_enter Try.func19, Try.ntmps19
  go_wp2_with fail
  refine (HCK.out _ HB0.out).mono ?_
  rintro e w1 ⟨rfl, hb1⟩
  have HX1 := Lib.hid (obj_below HX0.out hb1)
  have HB1 := Lib.hid (HB0.out.trans (hb1.mono HB0.out.size))
  have u0 := obj_cell HX1.out 0
  have u1 := obj_cell HX1.out 1
  have u2 := obj_cell HX1.out 2
  simp at u0 u1 u2
  clear hb1
  go_wp2_with fail
  refine (HPL.out _ HB1.out).mono ?_
  rintro e w2 ⟨rfl, hb2⟩
  have HB2 := Lib.hid (HB1.out.trans (hb2.mono HB1.out.size))
  have v1 := obj_cell (obj_below HX1.out hb2) 1
  simp at v1
  clear hb2 u0 u1 u2
  cases hat : atS a.subs id with
  | none =>
    obtain rfl : r1 = 0 := HR1.out.trans (by unfold balanceM; rw [if_pos hc, hat])
    obtain rfl : r2 = false := HR2.out.trans (by unfold balanceM; rw [if_pos hc, hat])
    rw [show atI a.subs id = -1 by unfold atI; rw [hat]]
    go_wp2
    go_ret2
    exact ⟨rfl, HB2.out⟩
  | some i =>
    have hi := (atS_some hat).1
    have h1 : r1 = (subAt a.subs i).bal := HR1.out.trans (by unfold balanceM; rw [if_pos hc, hat])
    obtain rfl : r2 = true := HR2.out.trans (by unfold balanceM; rw [if_pos hc, hat])
    rw [show atI a.subs id = (i : Int) by unfold atI; rw [hat]]
    rcases HS.out.open with ⟨h0, -⟩ | ⟨hpos, b, o, cap, rfl, hcap, hb, hcc⟩
    · rw [h0] at hi; simp at hi
    have c1 : w2.cell? ⟨b, o + i * 2 + 1, none⟩ = some (.int .i64 r1) := (HB2.out.cell (p := ⟨b, o + i * 2 + 1, none⟩) hb).trans ((hcc i hi).2.trans (by rw [h1]))
    generalize a.subs.length = n at *
    have hi0 : (0 : Int) ≤ (i : Int) := by omega
    have hi1 : (i : Int) < (n : Int) := by omega
    clear hcc h1 HR1 HR2 hat hc
    go_wp2
    go_ret2
    exact ⟨rfl, HB2.out⟩

set_option maxRecDepth 100000 in
set_option maxHeartbeats 8000000 in
theorem raTotal_any (a : Acc) (su en : Value) (w : World) (h : SubsAt w su a.subs) (he : EntsAt w en a.ents) (hlen : a.subs.length ≤ 1000000) (hlen2 : a.ents.length ≤ 1000000) :
    Calls Try.prog 12 #[.agg #[.int .i64 a.credit, su, en]] w fun e w' => e = .returned (.int .i64 (totalM a)) ∧ Below w.heap.size w w' := by
  have HCK := Lib.hid (fun W (hW : Below w.heap.size w W) => raCheck_any a su en W (h.below hW) (he.below hW) hlen hlen2)
  obtain ⟨r, hr⟩ : ∃ r, r = totalM a := ⟨_, rfl⟩
  have HR := Lib.hid hr
  rw [← hr]
  have HW0 := Lib.hid (below_alloc w (.cells #[.int .i64 a.credit, su, en] 28))
  have HX0 := Lib.hid (heap_alloc_new w (.cells #[.int .i64 a.credit, su, en] 28))
  by_cases hc : checkM a = 0
  case neg =>
    obtain rfl : r = 0 := HR.out.trans (by unfold totalM; rw [if_neg hc])
    generalize checkM a = c at *
    have hc1 : (c == 0) = false := by rw [beq_eq_false_iff_ne]; exact hc
    have hc2 : (c != 0) = true := by rw [bne, hc1]; rfl
    clear hc HR hr h he
    go_enter Try.func12, Try.ntmps12
    go_wp2_with fail
    refine (HCK.out _ HW0.out).mono ?_
    rintro e w1 ⟨rfl, hb1⟩
    have HB1 := Lib.hid (HW0.out.trans (hb1.mono HW0.out.size))
    clear hb1
    go_wp2
    go_ret
    exact ⟨rfl, HB1.out⟩
  have hz := checkM_zero.1 hc
  have hpl := hz.2.2.1
  unfold plainM at hpl
  simp only [Bool.and_eq_true] at hpl
  have HBL := Lib.hid (bals_wide hpl.1 (right_bals hc))
  have HR2 : Hid (r = sumM a.subs) := Lib.hid (HR.out.trans (if_pos hc))
  have hl20 : a.subs.length ≤ 20 := hz.1
  rw [hc] at HCK
  obtain ⟨n, hn⟩ : ∃ n, n = a.subs.length := ⟨_, rfl⟩
  have HN := Lib.hid hn
  obtain ⟨ao, cap, rfl, hcap, hcs⟩ := h.shape
  have HCS := Lib.hid hcs
  rw [← hn] at hcap hl20 HCK HW0 HX0 ⊢
  clear hc HR hr h he hz hpl hn hcs hlen hlen2
  go_enter Try.func12, Try.ntmps12
  go_wp2_with fail
  refine (HCK.out _ HW0.out).mono ?_
  rintro e w1 ⟨rfl, hb1⟩
  have HB1 := Lib.hid (HW0.out.trans (hb1.mono HW0.out.size))
  have u1 := obj_cell (obj_below HX0.out hb1) 1
  simp at u1
  clear hb1
  go_wp2
  go_loopw [3, 12] (fun x i wr => ∃ (k : Nat) (s : Int), x = .int .i64 s ∧ i = .int .i64 k ∧ k ≤ n ∧ Hid (s = sumM (a.subs.take k)) ∧ (-1000000000000 * (k : Int) ≤ s ∧ s ≤ 1000000000000000 * (k : Int)) ∧ Hid (Below w.heap.size w wr)) (fun _ i _ => n - (RowKit.intOf i).toNat)
  case atStart => exact ⟨0, 0, rfl, rfl, by omega, Lib.hid rfl, by simp, HB1⟩
  case round =>
    obtain ⟨k, s, rfl, rfl, hkn, HS, hs, HB⟩ := hrel
    by_cases hlt : k < n
    · have hkl : k < a.subs.length := by rw [← HN.out]; exact hlt
      obtain ⟨b, o, rfl, hb, hcc⟩ := HCS.out (by omega)
      have c0 : wr.cell? ⟨b, o + k * 2, none⟩ = some (.int .i64 (subAt a.subs k).id) := (HB.out.cell (p := ⟨b, o + k * 2, none⟩) hb).trans (hcc k hkl).1
      have c1 : wr.cell? ⟨b, o + k * 2 + 1, none⟩ = some (.int .i64 (subAt a.subs k).bal) := (HB.out.cell (p := ⟨b, o + k * 2 + 1, none⟩) hb).trans (hcc k hkl).2
      have hbb := HBL.out _ (List.getElem_mem hkl)
      rw [← subAt_get hkl] at hbb
      have HI : Hid (s + (subAt a.subs k).bal = sumM (a.subs.take (k + 1))) := Lib.hid (by rw [sumM_take k hkl, ← HS.out])
      generalize (subAt a.subs k).id = x at *
      generalize (subAt a.subs k).bal = y at *
      have HB2 := Lib.hid (HB.out.alloc HB.out.size (.cells #[.int .i64 x, .int .i64 y] 75))
      have hk0 : (0 : Int) ≤ (k : Int) := by omega
      have hk1 : (k : Int) < (n : Int) := by omega
      clear hcc
      go_wp2
      go_roundw
      case rel => exact ⟨k + 1, s + y, rfl, by first | rfl | go_num, by omega, HI, by omega, HB2⟩
      case measure => simp [RowKit.intOf]; omega
    · obtain rfl : k = n := by omega
      obtain rfl : s = r := by rw [HS.out, HR2.out, HN.out, List.take_length]
      go_wp2
      go_ret
      exact ⟨rfl, HB.out⟩

end Go.Proofs.Ytoelidndnajedaa
