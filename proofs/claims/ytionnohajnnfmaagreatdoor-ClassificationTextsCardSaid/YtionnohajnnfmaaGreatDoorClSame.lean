/- The contract of the reference's Same: two lists of headings are the same; for lists of up to 10^6 headings. -/
import Derived.Test.YtionnohajnnfmaaGreatDoorClTree
import Derived.Laws.StructEq
import Derived.Deep.QuietTactic
import Derived.BigQuiet
namespace Go.Proofs.YtionnohajnnfmaaGreatDoor
open Go.RowKit Go.Lib Go.Proofs

theorem head_neq (w : World) (a b c d : ByteArray) (h : (a, b) ≠ (c, d)) : (binOp .neq 37 (.agg #[.string a, .string b]) (.agg #[.string c, .string d])).run Tryz.prog w = .ok (.bool true) w := by
  rw [run_neq_struct]
  by_cases h1 : a = c
  · subst h1
    have h2 : b ≠ d := fun e => h (by rw [e])
    have := strEq_false h2
    simp [go_sem, this]
  · have := strEq_false h1
    simp [go_sem, this]
theorem head_same (w : World) (a b : ByteArray) : (binOp .neq 37 (.agg #[.string a, .string b]) (.agg #[.string a, .string b])).run Tryz.prog w = .ok (.bool false) w := by
  rw [run_neq_struct]
  simp [go_sem]

set_option maxRecDepth 100000 in
set_option maxHeartbeats 4000000 in
theorem same_any (a b : List Head) (x y : Value) (w : World) (hx : RowG w x a.length 2 (cellsH a)) (hy : RowG w y b.length 2 (cellsH b)) (ha : a.length ≤ 1000000) (hb : b.length ≤ 1000000) :
    Calls Tryz.prog 12 #[x, y] w fun e w' => e = .returned (.bool (decide (a = b))) ∧ Below w.heap.size w w' := by
  obtain ⟨_, ao, cap, rfl, hcap, hc⟩ := hx
  obtain ⟨_, ao', cap', rfl, hcap', hc'⟩ := hy
  obtain ⟨r, hr⟩ : ∃ r, decide (a = b) = r := ⟨_, rfl⟩
  rw [hr]
  have HR := Lib.hid hr
  obtain ⟨n, hn⟩ : ∃ n, n = a.length := ⟨_, rfl⟩
  obtain ⟨m, hm⟩ : ∃ m, m = b.length := ⟨_, rfl⟩
  have HC := Lib.hid hc
  have HC' := Lib.hid hc'
  rw [← hn] at HC hcap ha ⊢
  rw [← hm] at HC' hcap' hb ⊢
  have HN := Lib.hid hn
  have HM := Lib.hid hm
  clear hn hm hc hc' hr
  by_cases hnm : n = m
  · subst hnm
    have hle : a.length = b.length := by rw [← HN.out, HM.out]
    have HLE := Lib.hid hle
    clear hle
    have hnn : ((n : Int) != (n : Int)) = false := by simp
    go_enter Tryz.func12, Tryz.ntmps12
    go_wp2
    go_loopw [13] (fun i wr => ∃ (k q : Nat), i = .int .i64 k ∧ k ≤ n ∧ wr = w.drewN q ∧ Hid (a.take k = b.take k)) (fun i _ => n - (RowKit.intOf i).toNat)
    case atStart => exact ⟨0, 0, rfl, by omega, rfl, Lib.hid rfl⟩
    case round =>
      obtain ⟨k, q, rfl, hkn, rfl, HT⟩ := hrel
      by_cases hlt : k < n
      · rcases HC.out with h | ⟨b1, o1, rfl, hb1, c1⟩
        · omega
        rcases HC'.out with h | ⟨b2, o2, rfl, hb2, c2⟩
        · omega
        have hka : k < a.length := by rw [← HN.out]; exact hlt
        have hkb : k < b.length := by rw [← HM.out]; exact hlt
        obtain ⟨ga1, ga2⟩ := cellsH_get a k hka
        obtain ⟨gb1, gb2⟩ := cellsH_get b k hkb
        have d1 : w.cell? ⟨b1, o1 + k * 2, none⟩ = some (.string a[k].1) := by rw [c1 (k * 2) (by omega), ga1]
        have d2 : w.cell? ⟨b1, o1 + k * 2 + 1, none⟩ = some (.string a[k].2) := by rw [Nat.add_assoc, c1 (k * 2 + 1) (by omega), ga2]
        have d3 : w.cell? ⟨b2, o2 + k * 2, none⟩ = some (.string b[k].1) := by rw [c2 (k * 2) (by omega), gb1]
        have d4 : w.cell? ⟨b2, o2 + k * 2 + 1, none⟩ = some (.string b[k].2) := by rw [Nat.add_assoc, c2 (k * 2 + 1) (by omega), gb2]
        clear ga1 ga2 gb1 gb2
        have hk0 : (0 : Int) ≤ (k : Int) := by omega
        have hk1 : (k : Int) < (n : Int) := by omega
        by_cases he : a[k] = b[k]
        · have hst : a.take (k + 1) = b.take (k + 1) := by rw [List.take_succ_eq_append_getElem hka, List.take_succ_eq_append_getElem hkb, HT.out, he]
          have HST := Lib.hid hst
          rw [← he] at d3 d4
          generalize a[k].1 = u1 at *
          generalize a[k].2 = u2 at *
          have he2 := fun W => head_same W u1 u2
          clear he hst c1 c2
          go_wp2
          go_quiet (fail)
          go_wp2
          go_roundw
          case rel => exact ⟨k + 1, _, by go_num, by omega, rfl, HST⟩
          case measure => simp [RowKit.intOf]; omega
        · have hr0 : r = false := by
            rw [← HR.out]
            refine decide_eq_false fun e => he ?_
            subst e; rfl
          subst hr0
          have he2 := fun W => head_neq W a[k].1 a[k].2 b[k].1 b[k].2 (fun e => he e)
          generalize a[k].1 = u1 at *
          generalize a[k].2 = u2 at *
          generalize b[k].1 = v1 at *
          generalize b[k].2 = v2 at *
          clear he c1 c2
          go_wp2
          go_quiet (fail)
          go_wp2
          go_ret
          exact ⟨rfl, below_drewN (below_drewN (Below.refl _ _) _) _⟩
      · obtain rfl : k = n := by omega
        have hr1 : r = true := by
          have := HT.out
          rw [HN.out, List.take_length, ← HN.out, HM.out, List.take_length] at this
          rw [← HR.out]
          exact decide_eq_true this
        subst hr1
        have hge : (k : Int) ≤ (k : Int) := Int.le_refl _
        go_wp2
        go_ret
        exact ⟨rfl, below_drewN (Below.refl _ _) _⟩
  · have hr0 : r = false := by
      rw [← HR.out]
      refine decide_eq_false fun e => hnm ?_
      rw [HN.out, HM.out, e]
    subst hr0
    have hne : ((n : Int) != (m : Int)) = true := by rw [bne_iff_ne]; omega
    go_enter Tryz.func12, Tryz.ntmps12
    go_wp2
    go_ret
    exact ⟨rfl, Below.refl _ _⟩


end Go.Proofs.YtionnohajnnfmaaGreatDoor
