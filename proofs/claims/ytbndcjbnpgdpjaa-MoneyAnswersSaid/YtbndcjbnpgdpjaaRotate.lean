/- Contracts of slices.swapRangeCmpFunc and slices.rotateCmpFunc on a row that a sort turns; no condition but that the places lie in the row. -/
import Derived.Test.YtbndcjbnpgdpjaaSortA
import Derived.Test.YtbndcjbnpgdpjaaMergeM
import Derived.BigRegion
namespace Go.Proofs.Ytbndcjbnpgdpjaa
open Go.RowKit Go.Sort Go.Shelf Go.Lib Go.Proofs
variable {α : Type} [Inhabited α]

set_option maxHeartbeats 2000000 in
set_option maxRecDepth 100000 in
theorem swapRange_sw (enc : α → Value) (fv : Value) (blk off cap a b n : Nat) (d0 d : Array α) (w0 w : World) (R : Row1 enc w0 blk off d0) (hs : d0.size = d.size) (S : SW enc w0 blk off d w) (ha : a + n ≤ d.size) (hb : b + n ≤ d.size) (hsz : d.size < 4611686018427387904) :
    Calls Try.prog 42 #[.slice (some ⟨blk, off, none⟩) d.size cap, .int .i64 a, .int .i64 b, .int .i64 n, fv] w fun e w' => e = .returned (.tuple #[]) ∧ SW enc w0 blk off (swapR d a b n) w' := by
  have hcl0 := R.hO.cells
  simp only [Value.cells] at hcl0
  have hst := R.hO.store Try.prog
  have S0 : Aside (SW enc w0 blk off d w) := S
  clear S
  go_enter Try.func42, Try.ntmps42
  go_wp2
  go_loopg [10] n (fun g1 vi wr => ∃ (i : Nat) (dk : Array α), vi = .int .i64 i ∧ i ≤ n ∧ n - i ≤ g1 ∧ dk.size = d.size ∧ Aside (SW enc w0 blk off dk wr) ∧ Hid (dk = swapR d a b i))
  case atStart => exact ⟨0, d, rfl, by omega, by omega, rfl, S0, Lib.hid rfl⟩
  case round =>
    clear S0
    obtain ⟨i, dk, rfl, hin, hg1, hsk, S1, HD⟩ := hrel
    by_cases hlt : i < n
    · have hltz : (i : Int) < (n : Int) := by omega
      obtain ⟨iN, hiN⟩ : ∃ q, q = a + i := ⟨_, rfl⟩
      obtain ⟨jN, hjN⟩ : ∃ q, q = b + i := ⟨_, rfl⟩
      have ea : ((a : Int) + (i : Int)).toNat = iN := by omega
      have pa : (0 : Int) ≤ (a : Int) + (i : Int) := by omega
      have ba : (a : Int) + (i : Int) < (d.size : Int) := by omega
      have ra : IntKind.i64.wrap ((a : Int) + (i : Int)) = (a : Int) + (i : Int) := by rw [IntKind.wrap_i64]; omega
      have ec : ((b : Int) + (i : Int)).toNat = jN := by omega
      have pc : (0 : Int) ≤ (b : Int) + (i : Int) := by omega
      have bc : (b : Int) + (i : Int) < (d.size : Int) := by omega
      have rc : IntKind.i64.wrap ((b : Int) + (i : Int)) = (b : Int) + (i : Int) := by rw [IntKind.wrap_i64]; omega
      obtain ⟨x, hx⟩ : ∃ x, x = dk[a + i]! := ⟨_, rfl⟩
      obtain ⟨y, hy⟩ : ∃ x, x = dk[b + i]! := ⟨_, rfl⟩
      have S3 : Aside (SW enc w0 blk off (swp dk (a + i) (b + i)) ((wr.setCell ⟨blk, off + iN, none⟩ (enc y)).setCell ⟨blk, off + jN, none⟩ (enc x)).drew) := by rw [hiN, hjN, hx, hy]; exact S1.out.swapped R (a + i) (b + i) (by omega) (by omega)
      have c1 := S1.out.c1 R (by omega) (a + i) (by omega)
      have c2 := S1.out.c1 R (by omega) (b + i) (by omega)
      have f1 := S1.out.f1 R (by omega) (a + i) (by omega)
      have f2 := S1.out.f1 R (by omega) (b + i) (by omega)
      obtain ⟨u, c3⟩ := S1.out.c2 R (by omega) (a + i) (b + i) (by omega) (by omega) (enc y)
      rw [← hjN, ← hiN] at c3
      rw [← hx, ← hiN] at c1
      rw [← hy, ← hjN] at c2
      rw [← hiN] at f1
      rw [← hjN] at f2
      clear S1 hx hy hiN hjN
      go_wp2_with fail
      go_big_region
      clear c1 c2 c3 f1 f2
      generalize ((wr.setCell ⟨blk, off + iN, none⟩ (enc y)).setCell ⟨blk, off + jN, none⟩ (enc x)).drew = w3 at S3 ⊢
      clear ea ec
      go_wp2
      go_roundg (n - (i + 1))
      case measure => omega
      case rel => exact ⟨i + 1, swp dk (a + i) (b + i), by go_num, by omega, by omega, by rw [swp_size]; exact hsk, S3, Lib.hid (by rw [HD.out]; rfl)⟩
    · obtain rfl : i = n := by omega
      go_wp2
      go_end0
      exact ⟨rfl, by rw [← HD.out]; exact S1.out⟩

/-- swapRange where the places stand as Go's own sums. -/
theorem swapRange_at (enc : α → Value) (fv : Value) (blk off cap : Nat) (x y z : Int) (a b n : Nat) (d0 d : Array α) (w0 w : World) (hx : x = a) (hy : y = b) (hz : z = n) (R : Row1 enc w0 blk off d0) (hs : d0.size = d.size) (S : SW enc w0 blk off d w) (ha : a + n ≤ d.size) (hb : b + n ≤ d.size) (hsz : d.size < 4611686018427387904) (N : Nat) (hN : N = d.size) :
    Calls Try.prog 42 #[.slice (some ⟨blk, off, none⟩) N cap, .int .i64 x, .int .i64 y, .int .i64 z, fv] w fun e w' => e = .returned (.tuple #[]) ∧ SW enc w0 blk off (swapR d a b n) w' := by
  subst hx; subst hy; subst hz; subst hN
  exact swapRange_sw enc fv blk off cap a b n d0 d w0 w R hs S ha hb hsz

set_option maxHeartbeats 2000000 in
set_option maxRecDepth 100000 in
theorem rotate_sw (enc : α → Value) (fv : Value) (blk off cap a m b : Nat) (d0 d : Array α) (w0 w : World) (R : Row1 enc w0 blk off d0) (hs : d0.size = d.size) (S : SW enc w0 blk off d w) (ham : a < m) (hmb : m < b) (hb : b ≤ d.size) (hsz : d.size < 4611686018427387904) :
    Calls Try.prog 41 #[.slice (some ⟨blk, off, none⟩) d.size cap, .int .i64 a, .int .i64 m, .int .i64 b, fv] w fun e w' => e = .returned (.tuple #[]) ∧ ∃ d', Rot a m b d d' ∧ SW enc w0 blk off d' w' := by
  have S0 : Aside (SW enc w0 blk off d w) := S
  have HR : Aside (Row1 enc w0 blk off d0) := R
  clear S R
  go_enter Try.func41, Try.ntmps41
  go_wp2
  go_loopg [10, 11] (m - a + (b - m)) (fun g1 vi vj wr => ∃ (i j : Nat) (dk : Array α), vi = .int .i64 i ∧ vj = .int .i64 j ∧ 0 < i ∧ 0 < j ∧ i ≤ m ∧ m + j ≤ d.size ∧ i + j ≤ g1 ∧ dk.size = d.size ∧ Aside (SW enc w0 blk off dk wr) ∧ Hid (∀ d', Rot (m - i) m (m + j) dk d' → Rot a m b d d'))
  case atStart => exact ⟨m - a, b - m, d, by go_num, by go_num, by omega, by omega, by omega, by omega, by omega, rfl, S0, Lib.hid (by intro d' h; rw [show m - (m - a) = a by omega, show m + (b - m) = b by omega] at h; exact h)⟩
  case round =>
    clear S0
    obtain ⟨i, j, dk, rfl, rfl, hi0, hj0, him, hmj, hg1, hsk, S1, HD⟩ := hrel
    rcases Nat.lt_trichotomy i j with hij | hij | hij
    · have hne : ((i : Int) != (j : Int)) = true := by rw [bne_iff_ne]; omega
      have hgt : ¬ (j : Int) < (i : Int) := by omega
      have HC := Lib.hid (swapRange_at enc fv blk off cap ((m : Int) - (i : Int)) ((m : Int) + (j : Int) - (i : Int)) (i : Int) (m - i) (m + j - i) i d0 dk w0 wr (by omega) (by omega) rfl HR.out (by omega) S1.out (by omega) (by omega) (by omega) d.size hsk.symm)
      clear S1
      go_wp2_with (go_at_call 42; refine (HC.out).mono ?_; rintro e w' ⟨rfl, hsw⟩)
      go_roundg (i + (j - i))
      case measure => omega
      case rel => exact ⟨i, j - i, _, rfl, by go_num, hi0, by omega, him, by omega, Nat.le_refl _, by rw [swapR_size]; exact hsk, hsw, Lib.hid fun d' h => HD.out d' (rot_less dk d' m i j him (by omega) hij h)⟩
    · subst hij
      have hne : ((i : Int) != (i : Int)) = false := bne_self_eq_false _
      have HC := Lib.hid (swapRange_at enc fv blk off cap ((m : Int) - (i : Int)) (m : Int) (i : Int) (m - i) m i d0 dk w0 wr (by omega) rfl rfl HR.out (by omega) S1.out (by omega) (by omega) (by omega) d.size hsk.symm)
      clear S1
      go_wp2_with (go_at_call 42; refine (HC.out).mono ?_; rintro e w' ⟨rfl, hsw⟩)
      go_end0
      exact ⟨rfl, _, HD.out _ (rot_even dk m i him (by omega)), hsw⟩
    · have hne : ((i : Int) != (j : Int)) = true := by rw [bne_iff_ne]; omega
      have hgt : (j : Int) < (i : Int) := by omega
      have HC := Lib.hid (swapRange_at enc fv blk off cap ((m : Int) - (i : Int)) (m : Int) (j : Int) (m - i) m j d0 dk w0 wr (by omega) rfl rfl HR.out (by omega) S1.out (by omega) (by omega) (by omega) d.size hsk.symm)
      clear S1
      go_wp2_with (go_at_call 42; refine (HC.out).mono ?_; rintro e w' ⟨rfl, hsw⟩)
      go_roundg (i - j + j)
      case measure => omega
      case rel => exact ⟨i - j, j, _, by go_num, rfl, by omega, hj0, by omega, by omega, Nat.le_refl _, by rw [swapR_size]; exact hsk, hsw, Lib.hid fun d' h => HD.out d' (rot_more dk d' m i j him (by omega) hij h)⟩

end Go.Proofs.Ytbndcjbnpgdpjaa
