/- Texts of one claim, merged: AaV, AaX. -/
import Derived.Test.YtknmgkjfopoinaaGreatDoorMAaU
import Derived.Test.YtknmgkjfopoinaaGreatDoorMG1
import Derived.Test.YtknmgkjfopoinaaGreatDoorMPut8
import Derived.Test.YtknmgkjfopoinaaGreatDoorMSfInt
/- accrual's change, amounts, Check, lastDay of right things. -/
set_option linter.unusedSimpArgs false
set_option linter.unusedVariables false
set_option linter.unusedSimpArgs false
set_option linter.unusedVariables false
namespace Go.Proofs.YtknmgkjfopoinaaGreatDoor
open Go.RowKit Go.Lib Go.Proofs

set_option maxRecDepth 100000 in
set_option maxHeartbeats 4000000 in
theorem aachange_any (a b m : Int) (hm : -1000000000000000000 ≤ m ∧ m ≤ 1000000000000000000) (w : World) : Calls Tryz.prog 47 #[.int .i64 a, .int .i64 b, .int .i64 m] w fun e w' => e = .returned (.agg (pstC (chgP a b m)).toArray) ∧ Below w.heap.size w w' := by
  obtain ⟨w0, hw0⟩ : ∃ W, W = w.alloc (.cells #[.int .i64 0, .int .i64 0, .int .i64 0, .int .i64 0, .int .i64 0, .int .i64 0, .int .i64 0, .int .i64 0] 57) := ⟨_, rfl⟩
  have HB0 : Hid (Below w.heap.size w w0) := Lib.hid (by rw [hw0]; exact below_alloc _ _)
  have HX0 : Hid (w0.heap[w.heap.size]? = some (.cells #[.int .i64 0, .int .i64 0, .int .i64 0, .int .i64 0, .int .i64 0, .int .i64 0, .int .i64 0, .int .i64 0] 57 (0, 0))) := Lib.hid (by rw [hw0]; exact heap_alloc_new _ _)
  have HW0 := Lib.hid hw0
  have hx0 := HX0.out
  have c0 := obj_cell hx0 0
  have c1 := obj_cell hx0 1
  have c2 := obj_cell hx0 2
  have c3 := obj_cell hx0 3
  have c4 := obj_cell hx0 4
  have c5 := obj_cell hx0 5
  have c6 := obj_cell hx0 6
  have c7 := obj_cell hx0 7
  simp at c0 c1 c2 c3 c4 c5 c6 c7
  have f0 := obj_free hx0 0
  have f1 := obj_free hx0 1
  have f2 := obj_free hx0 2
  have f3 := obj_free hx0 3
  have f4 := obj_free hx0 4
  have f5 := obj_free hx0 5
  have f6 := obj_free hx0 6
  have f7 := obj_free hx0 7
  clear hw0 hx0
  by_cases h : m < 0
  · have hneg : IntKind.i64.wrap (-m) = -m := IntWalk.i64_in _ (by omega)
    have HE : Hid (pstC (chgP a b m) = [.int .i64 0, .int .i64 0, .int .i64 0, .int .i64 b, .int .i64 a, .int .i64 (-m), .int .i64 0, .int .i64 0]) := Lib.hid (by unfold chgP; rw [if_pos h]; rfl)
    go_enter Tryz.func47, Tryz.ntmps47
    go_upto_region 1 with fail
    rw [← HW0.out]
    go_wp2
    refine ret8 HX0.out rfl _ _ _ _ _ _ _ _ (v := .agg #[.int .i64 0, .int .i64 0, .int .i64 0, .int .i64 b, .int .i64 a, .int .i64 (-m), .int .i64 0, .int .i64 0]) (fun F hF => ?_) rfl ⟨by rw [HE.out], put8_below HB0.out (Nat.le_refl _) _ _ _ _ _ _ _ _⟩
    have q0 := obj_cell hF 0
    have q1 := obj_cell hF 1
    have q2 := obj_cell hF 2
    have q3 := obj_cell hF 3
    have q4 := obj_cell hF 4
    have q5 := obj_cell hF 5
    have q6 := obj_cell hF 6
    have q7 := obj_cell hF 7
    simp at q0 q1 q2 q3 q4 q5 q6 q7
    simp [results, Tryz.results47, go_sem, q0, q1, q2, q3, q4, q5, q6, q7]
  · have HE : Hid (pstC (chgP a b m) = [.int .i64 0, .int .i64 0, .int .i64 0, .int .i64 a, .int .i64 b, .int .i64 m, .int .i64 0, .int .i64 0]) := Lib.hid (by unfold chgP; rw [if_neg h]; rfl)
    go_enter Tryz.func47, Tryz.ntmps47
    go_upto_region 1 with fail
    rw [← HW0.out]
    go_wp2
    refine ret8 HX0.out rfl _ _ _ _ _ _ _ _ (v := .agg #[.int .i64 0, .int .i64 0, .int .i64 0, .int .i64 a, .int .i64 b, .int .i64 m, .int .i64 0, .int .i64 0]) (fun F hF => ?_) rfl ⟨by rw [HE.out], put8_below HB0.out (Nat.le_refl _) _ _ _ _ _ _ _ _⟩
    have q0 := obj_cell hF 0
    have q1 := obj_cell hF 1
    have q2 := obj_cell hF 2
    have q3 := obj_cell hF 3
    have q4 := obj_cell hF 4
    have q5 := obj_cell hF 5
    have q6 := obj_cell hF 6
    have q7 := obj_cell hF 7
    simp at q0 q1 q2 q3 q4 q5 q6 q7
    simp [results, Tryz.results47, go_sem, q0, q1, q2, q3, q4, q5, q6, q7]

end Go.Proofs.YtknmgkjfopoinaaGreatDoor

/- accrual's amounts, Check of a right closing, lastDay of any ledger. -/
set_option linter.unusedSimpArgs false
set_option linter.unusedVariables false
namespace Go.Proofs.YtknmgkjfopoinaaGreatDoor
open Go.RowKit Go.Lib Go.Proofs

theorem aaamountsC_no {x : Int} (w : World) (h0 : 0 ≤ x) (h1 : x ≤ 1000000000000) : Calls Tryz.prog 71 #[.int .i64 x] w fun e w' => e = .returned (.bool false) ∧ w = w' := by
  go_enter Tryz.func71, Tryz.ntmps71
  go_wp2_with fail
  refine (Valid_yes _ h0 h1).mono ?_
  rintro e w' ⟨rfl, rfl⟩
  go_wp2
  go_ret
  exact ⟨rfl, rfl⟩
theorem aaamounts_yes (l : List Int) (h : ∀ x ∈ l, 0 ≤ x ∧ x ≤ 1000000000000) (hlen : l.length ≤ 1000000) (v : Value) (w : World) (hl : ListAt intC 1 w v l) : Calls Tryz.prog 49 #[v] w fun e w' => e = .returned (.bool true) ∧ Below w.heap.size w w' := by
  have HC := Lib.hid (intContains_any 71 #[] (enters_of Tryz.func71 (by kernel_rfl) rfl) (fun _ => false) l v w hl hlen (fun x hx W hW => by
    have := (aaamountsC_no W (h x hx).1 (h x hx).2).mono (R' := fun e W' => e = .returned (.bool false) ∧ Below W.heap.size W W') fun e w' hh => ⟨hh.1, hh.2 ▸ Below.refl _ _⟩
    simpa using this))
  have hany : (l.any fun _ => false) = false := by rw [List.any_eq_false]; simp
  rw [hany] at HC
  clear hl h hany
  go_enter Tryz.func49, Tryz.ntmps49
  go_wp2_with fail
  refine (HC.out).mono ?_
  rintro e w1 ⟨rfl, hb1⟩
  have HB1 := Lib.hid hb1
  clear hb1
  go_wp2
  go_ret
  exact ⟨rfl, HB1.out⟩
theorem list_newI (w : World) (l : List Int) (T : TypeId) : ListAt intC 1 (w.alloc (.cells (cellsL intC l).toArray T)) (.slice (some ⟨w.heap.size, 0, none⟩) l.length l.length) l := by
  refine ⟨cellsL_len intF l, _, _, rfl, Nat.le_refl _, Or.inr ⟨w.heap.size, 0, rfl, by simp, fun j hj => ?_⟩⟩
  rw [Nat.zero_add, obj_cell (heap_alloc_new w (.cells (cellsL intC l).toArray T)) j]
  simp

set_option maxRecDepth 100000 in
set_option maxHeartbeats 4000000 in
theorem aaCheck_yes {i u p : Int} {l : List Clm} (hi : 0 ≤ i ∧ i ≤ 1000000000000) (hu : 0 ≤ u ∧ u ≤ 1000000000000) (hp : 0 ≤ p ∧ p ≤ 1000000000000) (hok : ∀ c ∈ l, ClmG c) (hlen : l.length ≤ 60) (v : Value) (w : World) (hL : Lay w) (hl : ListAt clmC 6 w v l) :
    Calls Tryz.prog 44 #[.agg #[.int .i64 i, .int .i64 u, .int .i64 p, v]] w fun e w' => e = .returned (.int .i64 0) ∧ Below w.heap.size w w' := by
  obtain ⟨av, cv, rfl, -, -⟩ := hl.shape clmF
  obtain ⟨n, hn⟩ : ∃ n, n = l.length := ⟨_, rfl⟩
  have HCK := Lib.hid (fun W (hW : Below w.heap.size w W) => aacheck_gen hok hlen (.slice av l.length cv) W (hL.below hW (Nat.le_refl _)) (hl.below hW))
  rw [← hn] at HCK ⊢
  obtain ⟨w0, hw0⟩ : ∃ W, W = w.alloc (.cells #[.int .i64 i, .int .i64 u, .int .i64 p, .slice av n cv] 31) := ⟨_, rfl⟩
  have HB0 : Hid (Below w.heap.size w w0) := Lib.hid (by rw [hw0]; exact below_alloc _ _)
  have HX0 : Hid (w0.heap[w.heap.size]? = some (.cells #[.int .i64 i, .int .i64 u, .int .i64 p, .slice av n cv] 31 (0, 0))) := Lib.hid (by rw [hw0]; exact heap_alloc_new _ _)
  have HW0 := Lib.hid hw0
  have hx0 := HX0.out
  have c3 := obj_cell hx0 3
  simp at c3
  clear hl hok hw0 hx0 hL hn hlen
  go_enter Tryz.func44, Tryz.ntmps44
  go_upto_region 1 with fail
  rw [← HW0.out]
  go_wp2_with fail
  refine (HCK.out _ HB0.out).mono ?_
  rintro e w1 ⟨rfl, hb1⟩
  have HB1 := Lib.hid (HB0.out.trans (hb1.mono HB0.out.size))
  have hx1 := obj_below HX0.out hb1
  have d0 := obj_cell hx1 0
  have d1 := obj_cell hx1 1
  have d2 := obj_cell hx1 2
  simp at d0 d1 d2
  obtain ⟨g, hg⟩ : ∃ z, z = w1.heap.size := ⟨_, rfl⟩
  obtain ⟨w2, hw2⟩ : ∃ W, W = w1.alloc (.cells #[.int .i64 i, .int .i64 u, .int .i64 p] 3) := ⟨_, rfl⟩
  have HB2 : Hid (Below w.heap.size w w2) := Lib.hid (by rw [hw2]; exact HB1.out.alloc HB1.out.size _)
  have HL2 : Hid (ListAt intC 1 w2 (.slice (some ⟨g, 0, none⟩) 3 3) [i, u, p]) := Lib.hid (by rw [hw2, hg]; exact list_newI w1 [i, u, p] 3)
  have HAM := Lib.hid (aaamounts_yes [i, u, p] (fun x hx => by simp only [List.mem_cons, List.mem_nil_iff, or_false] at hx; rcases hx with rfl | rfl | rfl <;> assumption) (by simp) _ w2 HL2.out)
  have HW2 := Lib.hid hw2
  have HG := Lib.hid hg
  clear hb1 hx1 hg hw2 c3 HCK
  go_wp2_with fail
  rw [← HW2.out, ← HG.out]
  refine (HAM.out).mono ?_
  rintro e w3 ⟨rfl, hb3⟩
  have HB3 := Lib.hid (HB2.out.trans (hb3.mono HB2.out.size))
  clear hb3 d0 d1 d2
  go_wp2
  go_ret
  exact ⟨rfl, HB3.out⟩

set_option maxRecDepth 100000 in
set_option maxHeartbeats 4000000 in
theorem aalastDay_any (l : List Pst) (v : Value) (w : World) (hl : PstsAt w v l) (hlen : l.length ≤ 1000000) : Calls Tryz.prog 36 #[.agg #[v]] w fun e w' => e = .returned (.int .i64 (lastP l).day) ∧ Below w.heap.size w w' := by
  obtain ⟨av, cv, rfl, hcap, hcs⟩ := hl.shape pstF
  obtain ⟨n, hn⟩ : ∃ n, n = l.length := ⟨_, rfl⟩
  obtain ⟨q, hq⟩ : ∃ q, q = (lastP l).day := ⟨_, rfl⟩
  have HC : Hid (∀ m, n = m + 1 → ∃ b o, av = some ⟨b, o, none⟩ ∧ b < w.heap.size ∧ w.cell? ⟨b, o + m * 8 + 1, none⟩ = some (.int .i64 q)) := Lib.hid fun m hm => by
    obtain ⟨b, o, h1, h2, h3⟩ := hcs (by omega)
    refine ⟨b, o, h1, h2, ?_⟩
    have h4 := h3 m (by omega) 1 (by omega)
    rw [h4, hq, lastP_at (by rw [← hn]; exact hm), pstAt_get (by omega)]
    rfl
  have HQ0 : Hid (n = 0 → q = 0) := Lib.hid fun h => by
    have : l = [] := List.length_eq_zero_iff.1 (by omega)
    rw [hq, this]; rfl
  rw [← hn] at hcap hlen ⊢
  rw [← hq]
  obtain ⟨w0, hw0⟩ : ∃ W, W = w.alloc (.cells #[.slice av n cv] 27) := ⟨_, rfl⟩
  have HB0 : Hid (Below w.heap.size w w0) := Lib.hid (by rw [hw0]; exact below_alloc _ _)
  have HX0 : Hid (w0.heap[w.heap.size]? = some (.cells #[.slice av n cv] 27 (0, 0))) := Lib.hid (by rw [hw0]; exact heap_alloc_new _ _)
  have HW0 := Lib.hid hw0
  have hx0 := HX0.out
  have c0 := obj_cell hx0 0
  simp at c0
  clear hl hcs hn hq hw0 hx0
  go_enter Tryz.func36, Tryz.ntmps36
  go_upto_region 1 with fail
  rw [← HW0.out]
  cases n with
  | zero =>
    obtain rfl := HQ0.out rfl
    go_wp2
    go_ret
    exact ⟨rfl, HB0.out⟩
  | succ m =>
    obtain ⟨b, o, rfl, hb, hcell⟩ := HC.out m rfl
    have d1 := (HB0.out.cell (p := ⟨b, o + m * 8 + 1, none⟩) hb).trans hcell
    have hwm : IntKind.i64.wrap (((m + 1 : Nat) : Int) - 1) = (m : Int) := by rw [show ((m + 1 : Nat) : Int) - 1 = (m : Int) by omega]; exact IntWalk.i64_in _ (by omega)
    have hz : ((((m + 1 : Nat) : Int)) == 0) = false := by rw [beq_eq_false_iff_ne]; omega
    clear hcell hb
    go_wp2
    go_ret
    exact ⟨rfl, HB0.out⟩

end Go.Proofs.YtknmgkjfopoinaaGreatDoor
