/- The reference's Differences of a list and the same list: true. -/
import Derived.Test.YtdbpbmejgdbppaaCsX
import Derived.Laws.StructEq
set_option linter.unusedSimpArgs false
set_option linter.unusedVariables false
namespace Go.Proofs.Ytdbpbmejgdbppaa
open Go.RowKit Go.Lib Go.Proofs

theorem dif_neq_same (a b c d e : Int) (W : World) : (binOp .neq 35 (.agg #[.int .i64 a, .int .i64 b, .int .i64 c, .int .i64 d, .int .i64 e]) (.agg #[.int .i64 a, .int .i64 b, .int .i64 c, .int .i64 d, .int .i64 e])).run Try.prog W = .ok (.bool false) W := by
  rw [run_neq_struct]
  simp [go_sem]

set_option maxRecDepth 100000 in
set_option maxHeartbeats 4000000 in
theorem cgDifferences_same (l : List Dif) (v1 v2 : Value) (w : World) (hlen : l.length ≤ 1000000) (h1 : ListAt difC 5 w v1 l) (h2 : ListAt difC 5 w v2 l) :
    Calls Try.prog 19 #[v1, v2] w fun e w' => e = .returned (.bool true) ∧ Below w.heap.size w w' := by
  obtain ⟨a1, c1, rfl, hc1, hs1⟩ := h1.shape difF
  obtain ⟨a2, c2, rfl, hc2, hs2⟩ := h2.shape difF
  have HC1 := Lib.hid hs1
  have HC2 := Lib.hid hs2
  obtain ⟨n, hn⟩ : ∃ n, n = l.length := ⟨_, rfl⟩
  have HN := Lib.hid hn
  rw [← hn] at hlen hc1 hc2 ⊢
  clear h1 h2 hs1 hs2 hn
  go_enter Try.func19, Try.ntmps19
  go_wp2
  go_loopw [13] (fun i wr => ∃ k : Nat, i = .int .i64 k ∧ k ≤ n ∧ Hid (Below w.heap.size w wr)) (fun i _ => n - (RowKit.intOf i).toNat)
  case atStart => exact ⟨0, rfl, by omega, Lib.hid (Below.refl _ _)⟩
  case round =>
    obtain ⟨k, rfl, hkn, HB⟩ := hrel
    by_cases hlt : k < n
    · have hkl : k < l.length := by rw [← HN.out]; exact hlt
      obtain ⟨b1, o1, rfl, hb1, hcc1⟩ := HC1.out (by omega)
      obtain ⟨b2, o2, rfl, hb2, hcc2⟩ := HC2.out (by omega)
      have hcell := fun j (hj : j < 5) => (HB.out.cell (p := ⟨b1, o1 + k * 5 + j, none⟩) hb1).trans (hcc1 k hkl j hj)
      have dcell := fun j (hj : j < 5) => (HB.out.cell (p := ⟨b2, o2 + k * 5 + j, none⟩) hb2).trans (hcc2 k hkl j hj)
      have hk0 : (0 : Int) ≤ (k : Int) := by omega
      have hk1 : (k : Int) < (n : Int) := by omega
      generalize l[k] = x at *
      obtain ⟨x0, x1, x2, x3, x4⟩ := x
      have c0 : wr.cell? ⟨b1, o1 + k * 5, none⟩ = some (.int .i64 x0) := hcell 0 (by omega)
      have d0 : wr.cell? ⟨b2, o2 + k * 5, none⟩ = some (.int .i64 x0) := dcell 0 (by omega)
      have c1 : wr.cell? ⟨b1, o1 + k * 5 + 1, none⟩ = some (.int .i64 x1) := hcell 1 (by omega)
      have d1 : wr.cell? ⟨b2, o2 + k * 5 + 1, none⟩ = some (.int .i64 x1) := dcell 1 (by omega)
      have c2 : wr.cell? ⟨b1, o1 + k * 5 + 2, none⟩ = some (.int .i64 x2) := hcell 2 (by omega)
      have d2 : wr.cell? ⟨b2, o2 + k * 5 + 2, none⟩ = some (.int .i64 x2) := dcell 2 (by omega)
      have c3 : wr.cell? ⟨b1, o1 + k * 5 + 3, none⟩ = some (.int .i64 x3) := hcell 3 (by omega)
      have d3 : wr.cell? ⟨b2, o2 + k * 5 + 3, none⟩ = some (.int .i64 x3) := dcell 3 (by omega)
      have c4 : wr.cell? ⟨b1, o1 + k * 5 + 4, none⟩ = some (.int .i64 x4) := hcell 4 (by omega)
      have d4 : wr.cell? ⟨b2, o2 + k * 5 + 4, none⟩ = some (.int .i64 x4) := dcell 4 (by omega)
      have hne := fun W => dif_neq_same x0 x1 x2 x3 x4 W
      clear hcell dcell hcc1 hcc2
      go_wp2
      go_quiet (fail)
      go_wp2
      go_roundw
      case rel => exact ⟨k + 1, by first | rfl | go_num, by omega, Lib.hid (below_drewN HB.out _)⟩
      case measure => simp [RowKit.intOf]; omega
    · obtain rfl : k = n := by omega
      go_wp2
      go_ret
      exact ⟨rfl, HB.out⟩

end Go.Proofs.Ytdbpbmejgdbppaa
