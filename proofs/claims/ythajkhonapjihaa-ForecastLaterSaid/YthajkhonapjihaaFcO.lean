/- The statements' test of order. -/
import Derived.Test.YthajkhonapjihaaCat
set_option linter.unusedSimpArgs false
set_option linter.unusedVariables false
namespace Go.Proofs.Ythajkhonapjihaa
open Go.RowKit Go.Lib Go.Proofs

set_option maxHeartbeats 8000000 in
theorem ordered29_yes (l : List Flw) (hs : l.Pairwise flowLe) (hlen : l.length ≤ 1000) (v : Value) (w : World) (hv : ListAt flowC 4 w v l) :
    Calls Try.prog 16 #[v] w fun e w' => e = .returned (.bool true) ∧ Below w.heap.size w w' := by
  obtain ⟨ao, cap, rfl, hcap, hc⟩ := hv.shape flowF
  obtain ⟨n, hn⟩ : ∃ n, n = l.length := ⟨_, rfl⟩
  have HN := Lib.hid hn
  have HC := Lib.hid hc
  have HS := Lib.hid hs
  rw [← hn] at hlen hcap ⊢
  clear hn hc hs hv
  go_enter Try.func16, Try.ntmps16
  go_wp2
  go_loopw [8] (fun iv wr => ∃ (k : Nat), iv = .int .i64 (k : Int) ∧ k ≤ n ∧ Hid (Below w.heap.size w wr)) (fun iv _ => n - (RowKit.intOf iv).toNat)
  case atStart => exact ⟨0, rfl, by omega, Lib.hid (by first | exact Below.refl _ _ | exact below_alloc w _)⟩
  case round =>
    obtain ⟨k, rfl, hk, HB⟩ := hrel
    by_cases hlt : k < n
    · have hlx : k < l.length := by rw [← HN.out]; exact hlt
      obtain ⟨b, o, rfl, hb, hcc⟩ := HC.out (by omega)
      have hcell := fun q (hq : q < 4) => (HB.out.cell (p := ⟨b, o + k * 4 + q, none⟩) hb).trans (hcc k hlx q hq)
      have hk0 : (0 : Int) ≤ (k : Int) := by omega
      have hk1 : (k : Int) < (n : Int) := by omega
      by_cases hz : k = 0
      · subst hz
        generalize l[0] = x at *
        obtain ⟨xd, xa, xk, xr⟩ := x
        have c0 := hcell 0 (by omega)
        have c1 := hcell 1 (by omega)
        have c2 := hcell 2 (by omega)
        have c3 := hcell 3 (by omega)
        simp [flowC] at c0 c1 c2 c3
        clear hcell hcc HC
        go_wp2
        go_roundw
        case rel => exact ⟨1, rfl, by omega, Lib.hid (HB.out.alloc HB.out.size _)⟩
        case measure => simp [RowKit.intOf]; omega
      · obtain ⟨j, rfl⟩ : ∃ j, k = j + 1 := ⟨k - 1, by omega⟩
        have hlj : j < l.length := by omega
        have hle := List.pairwise_iff_getElem.1 HS.out j (j + 1) hlj hlx (by omega)
        have hcellj := fun q (hq : q < 4) => (HB.out.cell (p := ⟨b, o + j * 4 + q, none⟩) hb).trans (hcc j hlj q hq)
        generalize l[j + 1] = x at *
        generalize l[j] = y at *
        obtain ⟨xd, xa, xk, xr⟩ := x
        obtain ⟨yd, ya, yk, yr⟩ := y
        have c0 := hcell 0 (by omega)
        have c1 := hcell 1 (by omega)
        have c2 := hcell 2 (by omega)
        have c3 := hcell 3 (by omega)
        have d0 := hcellj 0 (by omega)
        have d1 := hcellj 1 (by omega)
        have d2 := hcellj 2 (by omega)
        have d3 := hcellj 3 (by omega)
        simp [flowC] at c0 c1 c2 c3 d0 d1 d2 d3
        unfold flowLe at hle
        simp only at hle
        have hwp : IntKind.i64.wrap (j : Int) = (j : Int) := by rw [IntKind.wrap_i64]; omega
        have e0 : ((j : Int) + 1).toNat = j + 1 := by omega
        have p0 : (0 : Int) ≤ (j : Int) + 1 := by omega
        have p1 : (j : Int) < (n : Int) := by omega
        have p2 : (j : Int) + 1 < (n : Int) := by omega
        have hbw : b < wr.heap.size := Nat.lt_of_lt_of_le hb HB.out.size
        have hbn : ¬ b = wr.heap.size := by omega
        clear hcell hcellj hcc HC
        rcases hle with h | ⟨rfl, h | ⟨rfl, h⟩⟩
        · have h1 : ¬ xd < yd := by omega
          have h2 : ¬ yd = xd := by omega
          have HB2 := Lib.hid (HB.out.alloc HB.out.size (.cells #[.int .i64 xd, .int .i64 xa, .int .i64 xk, .int .i64 xr] 38))
          have HB3 := Lib.hid (HB2.out.alloc HB2.out.size (.cells #[.int .i64 yd, .int .i64 ya, .int .i64 yk, .int .i64 yr] 38))
          go_wp2
          go_roundw
          case rel => exact ⟨j + 1 + 1, by first | rfl | go_num, by omega, HB3⟩
          case measure => simp [RowKit.intOf]; omega
        · have h1 : ¬ xk < yk := by omega
          have h2 : ¬ yk = xk := by omega
          have HB2 := Lib.hid (HB.out.alloc HB.out.size (.cells #[.int .i64 yd, .int .i64 xa, .int .i64 xk, .int .i64 xr] 38))
          have HB3 := Lib.hid (HB2.out.alloc HB2.out.size (.cells #[.int .i64 yd, .int .i64 ya, .int .i64 yk, .int .i64 yr] 38))
          go_wp2
          go_roundw
          case rel => exact ⟨j + 1 + 1, by first | rfl | go_num, by omega, HB3⟩
          case measure => simp [RowKit.intOf]; omega
        · have h1 : ¬ xr < yr := by omega
          have HB2 := Lib.hid (HB.out.alloc HB.out.size (.cells #[.int .i64 yd, .int .i64 xa, .int .i64 yk, .int .i64 xr] 38))
          have HB3 := Lib.hid (HB2.out.alloc HB2.out.size (.cells #[.int .i64 yd, .int .i64 ya, .int .i64 yk, .int .i64 yr] 38))
          go_wp2
          go_roundw
          case rel => exact ⟨j + 1 + 1, by first | rfl | go_num, by omega, HB3⟩
          case measure => simp [RowKit.intOf]; omega
    · obtain rfl : k = n := by omega
      clear HC
      go_wp2
      go_ret
      exact ⟨rfl, HB.out⟩

end Go.Proofs.Ythajkhonapjihaa
