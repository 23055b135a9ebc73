/- SortStableFunc on a row of fewer than 20 flows. -/
import Derived.Test.YtebgfbcojhmdlaaDoorTaI
set_option linter.unusedSimpArgs false
set_option linter.unusedVariables false
namespace Go.Proofs.YtebgfbcojhmdlaaDoor
open Go.RowKit Go.Lib Go.Proofs


set_option maxHeartbeats 4000000 in
theorem stableFlow_any (l : List Flw) (hlen : l.length < 20) (v : Value) (base : Nat) (w : World) (hown : w.ownsRow base 50 4 v l.length (cellsL flowC l)) (hbase : base ≤ w.heap.size) :
    Calls Tryd.prog 41 #[v, .int .i64 l.length, .func (.func 35) #[] #[]] w (SrtPost l v base w) := by
  have HI := Lib.hid (insFlow_any l (by omega) v base w hown hbase)
  obtain ⟨ao, cap, rfl, _⟩ := owns_gen hown
  unfold SrtPost at *
  obtain ⟨n, hn⟩ : ∃ n, n = l.length := ⟨_, rfl⟩
  rw [← hn] at hlen HI ⊢
  have h20 : (n : Int) < 20 := by omega
  clear hn hown hbase
  go_enter Tryd.func41, Tryd.ntmps41
  go_wp2
  go_loopw [7, 8] (fun av bv wr => av = .int .i64 0 ∧ bv = .int .i64 20 ∧ wr = w) (fun _ _ _ => 0)
  case atStart => exact ⟨rfl, rfl, rfl⟩
  case round =>
    obtain ⟨rfl, rfl, rfl⟩ := hrel
    go_wp2_with fail
    with_reducible refine Calls.mono (HI.out) ?_
    rintro e w1 ⟨rfl, l', h1, h2, h3, h4⟩
    have H1 := Lib.hid h1
    have H2 := Lib.hid h2
    have H3 := Lib.hid h3
    have H4 := Lib.hid h4
    clear h1 h2 h3 h4 HI
    go_wp2
    go_loopw [6] (fun sv wx => sv = .int .i64 20 ∧ wx = w1) (fun _ _ => 0)
    case atStart => exact ⟨rfl, rfl⟩
    case round =>
      obtain ⟨rfl, rfl⟩ := hrel
      go_wp2
      go_end0
      exact ⟨rfl, l', H1.out, H2.out, H3.out, H4.out⟩

set_option maxHeartbeats 4000000 in
theorem SortFlow_any (l : List Flw) (hlen : l.length < 20) (v : Value) (base : Nat) (w : World) (hown : w.ownsRow base 50 4 v l.length (cellsL flowC l)) (hbase : base ≤ w.heap.size) :
    Calls Tryd.prog 34 #[v, .func (.func 35) #[] #[]] w (SrtPost l v base w) := by
  have HI := Lib.hid (stableFlow_any l hlen v base w hown hbase)
  obtain ⟨ao, cap, rfl, _⟩ := owns_gen hown
  unfold SrtPost at *
  clear hown hbase
  go_enter Tryd.func34, Tryd.ntmps34
  go_wp2_with fail
  with_reducible refine Calls.mono (HI.out) ?_
  rintro e w1 ⟨rfl, l', h1, h2, h3, h4⟩
  go_wp2
  go_end0
  exact ⟨rfl, l', h1, h2, h3, h4⟩

end Go.Proofs.YtebgfbcojhmdlaaDoor
