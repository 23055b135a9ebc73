/- Contracts of package ledger's closures on days, and of Of. -/
import Derived.Test.YtoelidndnajedabMLgO
set_option linter.unusedSimpArgs false
set_option linter.unusedVariables false
set_option linter.unusedSimpArgs false
set_option linter.unusedVariables false
namespace Go.Proofs.Ytoelidndnajedab
open Go.RowKit Go.Lib Go.Proofs Go.Maps

set_option maxHeartbeats 400000 in
theorem lgBalancesC_any (d day : Int) (b : Nat) (w : World) (h : w.cell? ⟨b, 0, none⟩ = some (.int .i64 day)) :
    Calls Try.prog 27 #[.int .i64 d, .pointer (some ⟨b, 0, none⟩)] w fun e w' => e = .returned (.bool (decide (d ≤ day))) ∧ Below w.heap.size w w' := by
  by_cases hd : d ≤ day
  · rw [decide_eq_true hd]
    go_enter Try.func27, Try.ntmps27
    go_wp2
    go_ret
    exact ⟨rfl, Below.refl _ _⟩
  · rw [decide_eq_false hd]
    go_enter Try.func27, Try.ntmps27
    go_wp2
    go_ret
    exact ⟨rfl, Below.refl _ _⟩
set_option maxHeartbeats 400000 in
theorem lgOfC_any (d day : Int) (b : Nat) (w : World) (h : w.cell? ⟨b, 0, none⟩ = some (.int .i64 day)) :
    Calls Try.prog 30 #[.int .i64 d, .pointer (some ⟨b, 0, none⟩)] w fun e w' => e = .returned (.bool (decide (d ≤ day))) ∧ Below w.heap.size w w' := by
  by_cases hd : d ≤ day
  · rw [decide_eq_true hd]
    go_enter Try.func30, Try.ntmps30
    go_wp2
    go_ret
    exact ⟨rfl, Below.refl _ _⟩
  · rw [decide_eq_false hd]
    go_enter Try.func30, Try.ntmps30
    go_wp2
    go_ret
    exact ⟨rfl, Below.refl _ _⟩
set_option maxHeartbeats 400000 in
theorem lgStatementC3_any (d day : Int) (b : Nat) (w : World) (h : w.cell? ⟨b, 0, none⟩ = some (.int .i64 day)) :
    Calls Try.prog 40 #[.int .i64 d, .pointer (some ⟨b, 0, none⟩)] w fun e w' => e = .returned (.bool (decide (d ≤ day))) ∧ Below w.heap.size w w' := by
  by_cases hd : d ≤ day
  · rw [decide_eq_true hd]
    go_enter Try.func40, Try.ntmps40
    go_wp2
    go_ret
    exact ⟨rfl, Below.refl _ _⟩
  · rw [decide_eq_false hd]
    go_enter Try.func40, Try.ntmps40
    go_wp2
    go_ret
    exact ⟨rfl, Below.refl _ _⟩
set_option maxHeartbeats 400000 in
theorem lgStatementC1_any (d day : Int) (b : Nat) (w : World) (h : w.cell? ⟨b, 0, none⟩ = some (.int .i64 day)) :
    Calls Try.prog 38 #[.int .i64 d, .pointer (some ⟨b, 0, none⟩)] w fun e w' => e = .returned (.bool (decide (d < day))) ∧ Below w.heap.size w w' := by
  by_cases hd : d < day
  · rw [decide_eq_true hd]
    go_enter Try.func38, Try.ntmps38
    go_wp2
    go_ret
    exact ⟨rfl, Below.refl _ _⟩
  · rw [decide_eq_false hd]
    go_enter Try.func38, Try.ntmps38
    go_wp2
    go_ret
    exact ⟨rfl, Below.refl _ _⟩
set_option maxHeartbeats 400000 in
theorem lgStatementC2_any (d lo hi : Int) (b c : Nat) (w : World) (h : w.cell? ⟨b, 0, none⟩ = some (.int .i64 lo)) (h2 : w.cell? ⟨c, 0, none⟩ = some (.int .i64 hi)) :
    Calls Try.prog 39 #[.int .i64 d, .pointer (some ⟨b, 0, none⟩), .pointer (some ⟨c, 0, none⟩)] w fun e w' => e = .returned (.bool (decide (lo ≤ d) && decide (d ≤ hi))) ∧ Below w.heap.size w w' := by
  by_cases hd : lo ≤ d
  · rw [decide_eq_true hd]
    by_cases hd2 : d ≤ hi
    · rw [decide_eq_true hd2]
      go_enter Try.func39, Try.ntmps39
      go_wp2
      go_ret
      exact ⟨rfl, Below.refl _ _⟩
    · rw [decide_eq_false hd2]
      go_enter Try.func39, Try.ntmps39
      go_wp2
      go_ret
      exact ⟨rfl, Below.refl _ _⟩
  · rw [decide_eq_false hd]
    go_enter Try.func39, Try.ntmps39
    go_wp2
    go_ret
    exact ⟨rfl, Below.refl _ _⟩

abbrev byDay (day : Int) : Int → Bool := fun d => decide (d ≤ day)
abbrev ereDay (day : Int) : Int → Bool := fun d => decide (d < day)
abbrev amidDay (lo hi : Int) : Int → Bool := fun d => decide (lo ≤ d) && decide (d ≤ hi)

set_option maxRecDepth 100000 in
set_option maxHeartbeats 4000000 in
theorem lgOf_right {l : List Pst} (h : LdgOk l) (ee acct day : Int) (v : Value) (w : World) (hl : PstsAt w v l) (ha : -1000000 ≤ acct) (ha2 : acct ≤ 1000000) :
    Calls Try.prog 11 #[.agg #[v], .int .i64 ee, .int .i64 acct, .int .i64 day] w fun e w' => e = .returned (.int .i64 (ofM ee (byDay day) acct l)) ∧ Below w.heap.size w w' := by
  have HCK := Lib.hid (fun W (hW : Below w.heap.size w W) => lgCheck_right h v W (hl.below hW))
  obtain ⟨w0, hw0⟩ : ∃ w0, w0 = (w.alloc (.cells #[v] 28)).alloc (.cells #[.int .i64 day] 3) := ⟨_, rfl⟩
  have HB0 : Hid (Below w.heap.size w w0) := Lib.hid (by rw [hw0]; exact (below_alloc w _).trans ((below_alloc _ _).mono (by simp)))
  have HX0 : Hid (w0.heap[w.heap.size]? = some (.cells #[v] 28 (0, 0))) := Lib.hid (by rw [hw0]; exact obj_below (heap_alloc_new w _) (below_alloc _ _))
  have HD0 : Hid (w0.heap[w.heap.size + 1]? = some (.cells #[.int .i64 day] 3 (0, 0))) := Lib.hid (by rw [hw0]; have := heap_alloc_new (w.alloc (.cells #[v] 28)) (.cells #[.int .i64 day] 3); simpa using this)
  have HBA := Lib.hid (fun W (hW : Below w.heap.size w W) (hd : Below w0.heap.size w0 W) => lgbalances_right h ee 30 #[.pointer (some ⟨w.heap.size + 1, 0, none⟩)] (enters_of Try.func30 (by kernel_rfl) rfl) (byDay day) v W (hl.below hW) fun d W2 hW2 => by
    have hd2 : Below w0.heap.size w0 W2 := hd.trans (hW2.mono hd.size)
    have := lgOfC_any d day (w.heap.size + 1) W2 (obj_cell (obj_below HD0.out hd2) 0)
    simpa using this)
  clear h hl
  have hwE : (w.alloc (.cells #[v] 28)).alloc (.cells #[.int .i64 day] 3) = w0 := hw0.symm
  have hx := HX0.out
  have u0 := obj_cell hx 0
  simp at u0
  obtain ⟨g, hg⟩ : ∃ g, g = fun x => ofM ee (byDay day) x l := ⟨_, rfl⟩
  have HG : Hid (ofM ee (byDay day) acct l = g acct) := Lib.hid (by rw [hg])
  have HGG := Lib.hid hg
  rw [HG.out]
  clear hg hw0 hx
  go_enter Try.func11, Try.ntmps11
  go_wp2_with fail
  refine (HCK.out _ HB0.out).mono ?_
  rintro e w1 ⟨rfl, hb1⟩
  have hb1' := hb1
  have HB1 := Lib.hid (HB0.out.trans (hb1.mono HB0.out.size))
  have HD1 := Lib.hid hb1
  have hx1 := obj_below HX0.out hb1
  have u1 := obj_cell hx1 0
  simp at u1
  clear hb1 hb1' hx1 u0 HCK
  go_wp2_with fail
  refine (HBA.out _ HB1.out HD1.out).mono ?_
  rintro e w2 ⟨b, rfl, hbb, hm, hb2⟩
  rw [← HGG.out] at hm
  have HM := Lib.hid hm
  have HB2 := Lib.hid (HB1.out.trans (hb2.mono HB1.out.size))
  clear hm hb2 u1 HBA
  go_wp2_with (at_lookup; refine wpList_look_Z rfl _ _ rfl _ _ _ _ rfl HM.out acct rfl (by omega) (by omega) ?_)
  go_ret
  exact ⟨rfl, HB2.out⟩

end Go.Proofs.Ytoelidndnajedab
