/- The reference's comparison of a list of postings with itself. -/
import Derived.Test.YtknmgkjfopoinaaGreatDoorMLgS
import Derived.Laws.StructEq
import Derived.BigQuiet
set_option linter.unusedSimpArgs false
set_option linter.unusedVariables false
set_option linter.unusedSimpArgs false
set_option linter.unusedVariables false
namespace Go.Proofs.YtknmgkjfopoinaaGreatDoor
open Go.RowKit Go.Lib Go.Proofs

theorem pst_neq_same (y0 y1 y2 y3 y4 y5 y6 y7 : Int) (W : World) : (binOp .neq 57 (.agg #[.int .i64 y0, .int .i64 y1, .int .i64 y2, .int .i64 y3, .int .i64 y4, .int .i64 y5, .int .i64 y6, .int .i64 y7]) (.agg #[.int .i64 y0, .int .i64 y1, .int .i64 y2, .int .i64 y3, .int .i64 y4, .int .i64 y5, .int .i64 y6, .int .i64 y7])).run Tryz.prog W = .ok (.bool false) W := by
  rw [run_neq_struct]
  simp [go_sem]

set_option maxHeartbeats 4000000 in
theorem rgPostings_same (ps : List Pst) (hlen : ps.length ≤ 1000000) (u v : Value) (w : World) (hu : ListAt pstC 8 w u ps) (hv : ListAt pstC 8 w v ps) :
    Calls Tryz.prog 12 #[u, v] w fun e w' => e = .returned (.bool true) ∧ Below w.heap.size w w' := by
  obtain ⟨ao, cap, rfl, hcap, hc⟩ := hu.shape pstF
  obtain ⟨ao2, cap2, rfl, hcap2, hc2⟩ := hv.shape pstF
  obtain ⟨n, hn⟩ : ∃ n, n = ps.length := ⟨_, rfl⟩
  have HN := Lib.hid hn
  have HC := Lib.hid hc
  have HC2 := Lib.hid hc2
  rw [← hn] at hlen hcap hcap2 ⊢
  clear hn hu hv hc hc2
  go_enter Tryz.func12, Tryz.ntmps12
  go_wp2
  go_loopw [13] (fun i wr => ∃ k : Nat, i = .int .i64 k ∧ k ≤ n ∧ Hid (Below w.heap.size w wr)) (fun i _ => n - (RowKit.intOf i).toNat)
  case atStart => exact ⟨0, rfl, by omega, Lib.hid (Below.refl _ _)⟩
  case round =>
    obtain ⟨k, rfl, hkn, HB⟩ := hrel
    by_cases hlt : k < n
    · have hlx : k < ps.length := by rw [← HN.out]; exact hlt
      obtain ⟨b, o, rfl, hb, hcc⟩ := HC.out (by omega)
      obtain ⟨b2, o2, rfl, hb2, hcc2⟩ := HC2.out (by omega)
      have hcell := fun j (hj : j < 8) => (HB.out.cell (p := ⟨b, o + k * 8 + j, none⟩) hb).trans (hcc k hlx j hj)
      have hcell2 := fun j (hj : j < 8) => (HB.out.cell (p := ⟨b2, o2 + k * 8 + j, none⟩) hb2).trans (hcc2 k hlx j hj)
      generalize ps[k] = x at *
      obtain ⟨y0, y1, y2, y3, y4, y5, y6, y7⟩ := x
      have c0 : wr.cell? ⟨b, o + k * 8, none⟩ = some (.int .i64 y0) := hcell 0 (by omega)
      have e0 : wr.cell? ⟨b2, o2 + k * 8, none⟩ = some (.int .i64 y0) := hcell2 0 (by omega)
      have c1 : wr.cell? ⟨b, o + k * 8 + 1, none⟩ = some (.int .i64 y1) := hcell 1 (by omega)
      have e1 : wr.cell? ⟨b2, o2 + k * 8 + 1, none⟩ = some (.int .i64 y1) := hcell2 1 (by omega)
      have c2 : wr.cell? ⟨b, o + k * 8 + 2, none⟩ = some (.int .i64 y2) := hcell 2 (by omega)
      have e2 : wr.cell? ⟨b2, o2 + k * 8 + 2, none⟩ = some (.int .i64 y2) := hcell2 2 (by omega)
      have c3 : wr.cell? ⟨b, o + k * 8 + 3, none⟩ = some (.int .i64 y3) := hcell 3 (by omega)
      have e3 : wr.cell? ⟨b2, o2 + k * 8 + 3, none⟩ = some (.int .i64 y3) := hcell2 3 (by omega)
      have c4 : wr.cell? ⟨b, o + k * 8 + 4, none⟩ = some (.int .i64 y4) := hcell 4 (by omega)
      have e4 : wr.cell? ⟨b2, o2 + k * 8 + 4, none⟩ = some (.int .i64 y4) := hcell2 4 (by omega)
      have c5 : wr.cell? ⟨b, o + k * 8 + 5, none⟩ = some (.int .i64 y5) := hcell 5 (by omega)
      have e5 : wr.cell? ⟨b2, o2 + k * 8 + 5, none⟩ = some (.int .i64 y5) := hcell2 5 (by omega)
      have c6 : wr.cell? ⟨b, o + k * 8 + 6, none⟩ = some (.int .i64 y6) := hcell 6 (by omega)
      have e6 : wr.cell? ⟨b2, o2 + k * 8 + 6, none⟩ = some (.int .i64 y6) := hcell2 6 (by omega)
      have c7 : wr.cell? ⟨b, o + k * 8 + 7, none⟩ = some (.int .i64 y7) := hcell 7 (by omega)
      have e7 : wr.cell? ⟨b2, o2 + k * 8 + 7, none⟩ = some (.int .i64 y7) := hcell2 7 (by omega)
      have hk0 : (0 : Int) ≤ (k : Int) := by omega
      have hk1 : (k : Int) < (n : Int) := by omega
      have hne := pst_neq_same y0 y1 y2 y3 y4 y5 y6 y7
      have HB2 : Hid (∀ q, Below w.heap.size w (wr.drewN q)) := Lib.hid fun q => below_drewN HB.out q
      clear hcell hcell2 hcc hcc2 HC HC2
      go_wp2
      go_quiet (fail)
      go_wp2
      go_roundw
      case rel => exact ⟨k + 1, by first | rfl | go_num, by omega, Lib.hid (HB2.out _)⟩
      case measure => simp [RowKit.intOf]; omega
    · obtain rfl : k = n := by omega
      clear HC HC2
      go_wp2
      go_ret
      exact ⟨rfl, HB.out⟩

end Go.Proofs.YtknmgkjfopoinaaGreatDoor
