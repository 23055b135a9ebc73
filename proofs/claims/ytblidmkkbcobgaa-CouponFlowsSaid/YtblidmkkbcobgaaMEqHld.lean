/- slices.Equal at a struct of 3 ints. -/
import Derived.Test.YtblidmkkbcobgaaMG1
import Derived.Deep.QuietTactic
import Derived.Laws.StructEq
set_option linter.unusedSimpArgs false
set_option linter.unusedVariables false
set_option linter.unusedSimpArgs false
set_option linter.unusedVariables false
namespace Go.Proofs.Ytblidmkkbcobgaa
open Go.RowKit Go.Lib Go.Proofs

theorem neqSHld (x0 x1 x2 : Int) (W : World) : (binOp .neq 53 (.agg #[.int .i64 x0, .int .i64 x1, .int .i64 x2]) (.agg #[.int .i64 x0, .int .i64 x1, .int .i64 x2])).run Try.prog W = .ok (.bool false) W := by
  rw [run_neq_struct]
  simp [go_sem]
theorem neqDHld (x0 x1 x2 y0 y1 y2 : Int) (hne : ¬ (x0 = y0 ∧ x1 = y1 ∧ x2 = y2)) (W : World) : (binOp .neq 53 (.agg #[.int .i64 x0, .int .i64 x1, .int .i64 x2]) (.agg #[.int .i64 y0, .int .i64 y1, .int .i64 y2])).run Try.prog W = .ok (.bool true) W := by
  rw [run_neq_struct]
  by_cases h0 : x0 = y0
  case neg =>
    have e : (x0 == y0) = false := beq_eq_false_iff_ne.2 h0
    simp [go_sem, e]
  by_cases h1 : x1 = y1
  case neg =>
    have e : (x1 == y1) = false := beq_eq_false_iff_ne.2 h1
    simp [go_sem, e]
  have e : (x2 == y2) = false := beq_eq_false_iff_ne.2 (fun h => hne ⟨h0, h1, h⟩)
  subst h0
  subst h1
  simp [go_sem, e]

set_option maxRecDepth 100000 in
set_option maxHeartbeats 4000000 in
theorem eqHld_any (v v2 : Value) (l m : List Hld) (w : World) (h : ListAt hldC 3 w v l) (h2 : ListAt hldC 3 w v2 m) (hlen : l.length ≤ 1000000) (hlen2 : m.length ≤ 1000000) :
    Calls Try.prog 126 #[v, v2] w fun e w' => e = .returned (.bool (decide (l = m))) ∧ Below w.heap.size w w' := by
  obtain ⟨r, hr⟩ : ∃ r, r = decide (l = m) := ⟨_, rfl⟩
  have HR := Lib.hid hr
  rw [← hr]
  clear hr
  obtain ⟨ao, cap, rfl, hcap, hcells⟩ := h.shape hldF
  obtain ⟨ao2, cap2, rfl, hcap2, hcells2⟩ := h2.shape hldF
  have HC := Lib.hid hcells
  have HC2 := Lib.hid hcells2
  clear hcells hcells2 h h2
  by_cases hn : l.length = m.length
  case neg =>
    obtain rfl : r = false := HR.out.trans (decide_eq_false fun e => hn (by rw [e]))
    obtain ⟨n1, hn1⟩ : ∃ n1, n1 = l.length := ⟨_, rfl⟩
    obtain ⟨n2, hn2⟩ : ∃ n2, n2 = m.length := ⟨_, rfl⟩
    have hne : ((n1 : Int) == (n2 : Int)) = false := by rw [beq_eq_false_iff_ne, hn1, hn2]; omega
    have hne2 : ((n1 : Int) != (n2 : Int)) = true := by rw [bne, hne]; rfl
    rw [← hn1, ← hn2]
    rw [← hn1] at hcap hlen
    rw [← hn2] at hcap2 hlen2
    clear hn hn1 hn2
    go_enter Try.func126, Try.ntmps126
    go_wp2
    go_ret
    exact ⟨rfl, Below.refl _ _⟩
  obtain ⟨n, hnn⟩ : ∃ n, n = l.length := ⟨_, rfl⟩
  have HN := Lib.hid hnn
  have HM : Hid (n = m.length) := Lib.hid (hnn.trans hn)
  rw [← hnn] at hcap hlen
  rw [← hn, ← hnn] at hcap2
  rw [← hn, ← hnn]
  clear hn hnn hlen2
  go_enter Try.func126, Try.ntmps126
  go_wp2
  go_loopw [13] (fun i wr => ∃ k : Nat, i = .int .i64 k ∧ k ≤ n ∧ Hid (l.take k = m.take k) ∧ Hid (Below w.heap.size w wr)) (fun i _ => n - (RowKit.intOf i).toNat)
  case atStart => exact ⟨0, rfl, by omega, Lib.hid (by simp), Lib.hid (Below.refl _ _)⟩
  case round =>
    obtain ⟨k, rfl, hkn, HF, HB⟩ := hrel
    by_cases hlt : k < n
    · have hkl : k < l.length := by rw [← HN.out]; exact hlt
      have hkm : k < m.length := by rw [← HM.out]; exact hlt
      obtain ⟨b, o, rfl, hb, hc⟩ := HC.out (by omega)
      obtain ⟨b2, o2, rfl, hb2, hc2⟩ := HC2.out (by omega)
      have hcell := fun j (hj : j < 3) => (HB.out.cell (p := ⟨b, o + k * 3 + j, none⟩) hb).trans (hc k hkl j hj)
      have dcell := fun j (hj : j < 3) => (HB.out.cell (p := ⟨b2, o2 + k * 3 + j, none⟩) hb2).trans (hc2 k hkm j hj)
      have hk0 : (0 : Int) ≤ (k : Int) := by omega
      have hk1 : (k : Int) < (n : Int) := by omega
      have HDF : Hid (l[k] ≠ m[k] → r = false) := Lib.hid fun hd => by
        rw [HR.out]
        refine decide_eq_false fun e => hd ?_
        subst e; rfl
      have HEQ : Hid (l[k] = m[k] → l.take (k + 1) = m.take (k + 1)) := Lib.hid fun hd => by
        rw [List.take_succ_eq_append_getElem hkl, List.take_succ_eq_append_getElem hkm, HF.out, hd]
      generalize l[k] = x at *
      generalize m[k] = y at *
      obtain ⟨x0, x1, x2⟩ := x
      obtain ⟨y0, y1, y2⟩ := y
      have c0 := hcell 0 (by omega)
      have d0 := dcell 0 (by omega)
      have c1 := hcell 1 (by omega)
      have d1 := dcell 1 (by omega)
      have c2 := hcell 2 (by omega)
      have d2 := dcell 2 (by omega)
      simp [hldC] at c0 d0 c1 d1 c2 d2
      clear hc hc2 HC HC2 hcell dcell
      by_cases heq : x0 = y0 ∧ x1 = y1 ∧ x2 = y2
      · obtain ⟨rfl, rfl, rfl⟩ := heq
        have HF2 := Lib.hid (HEQ.out rfl)
        have hne := fun W => neqSHld x0 x1 x2 W
        go_wp2
        go_quiet (fail)
        go_wp2
        go_roundw
        case rel => exact ⟨k + 1, by first | rfl | go_num, by omega, HF2, Lib.hid (below_drewN HB.out _)⟩
        case measure => simp [RowKit.intOf]; omega
      · have hne := fun W => neqDHld x0 x1 x2 y0 y1 y2 heq W
        obtain rfl : r = false := HDF.out (fun e => heq (by injection e with e0 e1 e2; exact ⟨e0, e1, e2⟩))
        clear heq
        go_wp2
        go_quiet (fail)
        go_wp2
        go_ret
        exact ⟨rfl, below_drewN HB.out _⟩
    · obtain rfl : k = n := by omega
      obtain rfl : r = true := HR.out.trans (decide_eq_true (by
        have h := HF.out
        rw [HN.out, List.take_length, ← HN.out, HM.out, List.take_length] at h
        exact h))
      go_wp2
      go_ret
      exact ⟨rfl, HB.out⟩

end Go.Proofs.Ytblidmkkbcobgaa

