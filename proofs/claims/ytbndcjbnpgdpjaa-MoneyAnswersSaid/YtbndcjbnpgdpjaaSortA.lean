/- Contracts of cmp.Compare, of the closure by which money.greatestFirst compares two places, and of slices.insertionSortCmpFunc at the numbering of this translation; no condition but that the places are places of the list. -/
import Derived.Test.YtbndcjbnpgdpjaaNums
import Derived.Shelf.SlSortCmp.Insertion1
import Derived.Lib.Hide
import Derived.Deep.QuietTactic
import Derived.BigQuiet
namespace Go.Proofs.Ytbndcjbnpgdpjaa
open Go.RowKit Go.Sort Go.Shelf Go.Lib

/-- Go's comparison of two numbers. -/
def cmpI (x y : Int) : Int := if x < y then -1 else if y < x then 1 else 0

set_option maxHeartbeats 400000 in
theorem isNaN_any (x : Int) (w : World) :
    Calls Try.prog 38 #[.int .i64 x] w fun e w' => e = .returned (.bool false) ∧ w = w' := by
  go_enter Try.func38, Try.ntmps38
  go_wp2
  go_ret
  exact ⟨by simp, rfl⟩

set_option maxHeartbeats 400000 in
theorem Compare_any (x y : Int) (w : World) :
    Calls Try.prog 36 #[.int .i64 x, .int .i64 y] w fun e w' => e = .returned (.int .i64 (cmpI x y)) ∧ w' = w := by
  go_enter Try.func36, Try.ntmps36
  go_wp2_with (go_at_call 38; refine (isNaN_any _ _).mono ?_; rintro e w' ⟨rfl, rfl⟩)
  all_goals (go_ret; refine ⟨?_, rfl⟩; unfold cmpI; (repeat' split) <;> first | rfl | (exfalso; omega))

/-- The closure that compares two places by their rests, the greater rest first. -/
theorem closure_any (B bk n cap i j : Nat) (x y : Int) (w : World) (hB : w.cell? ⟨B, 0, none⟩ = some (.slice (some ⟨bk, 0, none⟩) n cap)) (hi : i < n) (hj : j < n)
    (hx : w.cell? ⟨bk, i, none⟩ = some (.int .i64 x)) (hy : w.cell? ⟨bk, j, none⟩ = some (.int .i64 y)) :
    Calls Try.prog 35 #[.int .i64 i, .int .i64 j, .pointer (some ⟨B, 0, none⟩)] w fun e w' => e = .returned (.int .i64 (cmpI y x)) ∧ ∃ q, w' = w.drewN q := by
  have hi0 : (0 : Int) ≤ (i : Int) := by omega
  have hj0 : (0 : Int) ≤ (j : Int) := by omega
  have hi1 : (i : Int) < (n : Int) := by omega
  have hj1 : (j : Int) < (n : Int) := by omega
  generalize hr : cmpI y x = r
  have hcon := fun W => Compare_any y x W
  rw [hr] at hcon
  have HC := Lib.hid hcon
  clear hcon hr
  go_enter Try.func35, Try.ntmps35
  go_wp2
  go_quiet ((go_at_call 36; exact Calls.quiet_of_same (HC.out _)))
  go_wp2
  go_ret
  exact ⟨rfl, _, rfl⟩

/-- The numbers that slices.insertionSortCmpFunc's body names, in this translation. -/
def insRen : Ren := ⟨fun | 20 => 39 | n => n, fun | 0 => 0 | 3 => 3 | 4 => 4 | 22 => 22 | 24 => 3 | 25 => 52 | n => n, fun n => n⟩

theorem insLays : SlLaysF.n20 Try.prog insRen where
  mixed := by kernel_rfl
  f20 := ⟨Try.f39.name, by kernel_rfl, by kernel_rfl⟩
  t0 := Try.underlying0
  a0 := Try.isAgg0
  z0 := Try.sizeOf0
  v0 := Try.zeroValue0
  t3 := Try.underlying3
  a3 := Try.isAgg3
  z3 := Try.sizeOf3
  v3 := Try.zeroValue3
  t4 := Try.underlying4
  a4 := Try.isAgg4
  z4 := Try.sizeOf4
  v4 := Try.zeroValue4
  t22 := Try.underlying22
  a22 := Try.isAgg22
  z22 := Try.sizeOf22
  v22 := Try.zeroValue22
  a24 := Try.isAgg3
  z24 := Try.sizeOf3
  t25 := Try.underlying52
  a25 := Try.isAgg52
  z25 := Try.sizeOf52
  v25 := Try.zeroValue52

/-- A place of a list of m + 1 numbers, as Go has it. -/
def encP (m : Nat) (i : Fin (m + 1)) : Value := .int .i64 (i.val : Int)

theorem encP_one (m : Nat) : OneCell (encP m) := fun _ => rfl

/-- What the closure answers at two places: the greater rest is the less. -/
def cfP {m : Nat} (rs : List Int) (i j : Fin (m + 1)) : Int := cmpI (rs.getD j.val 0) (rs.getD i.val 0)

/-- The closure, in whatever world the sort passes through. -/
theorem cmpP (m : Nat) (rs : List Int) (hl : rs.length = m + 1) (B bk cap blk off : Nat) (w : World) (hBb : B < w.heap.size) (hkb : bk < w.heap.size) (hBk : B ≠ blk) (hkk : bk ≠ blk) (hblk : blk < w.heap.size)
    (hB : w.cell? ⟨B, 0, none⟩ = some (.slice (some ⟨bk, 0, none⟩) rs.length cap)) (hc : ∀ i, i < rs.length → w.cell? ⟨bk, i, none⟩ = some (.int .i64 (rs.getD i 0))) (size : Nat) :
    CmpLays1 Try.prog 35 #[.pointer (some ⟨B, 0, none⟩)] (encP m) (cfP rs) blk off size w := by
  refine CmpReads.lays ?_
  intro q os dk hs x y
  have old : ∀ a : Addr, a.block < w.heap.size → a.block ≠ blk → (sortWorld (encP m) w blk off q dk os).cell? a = w.cell? a := by
    intro a ha hb
    unfold sortWorld
    rw [← putRow_grow (encP m) (Sort.ahead w q) os blk off dk hblk, cell?_putRow_other (encP m) _ blk off dk _ (Or.inl hb), cell?_grow _ _ _ (by exact ha)]
    rfl
  have := closure_any B bk rs.length cap x.val y.val (rs.getD x.val 0) (rs.getD y.val 0) (sortWorld (encP m) w blk off q dk os) ((old _ hBb hBk).trans hB) (by omega) (by omega) ((old _ hkb hkk).trans (hc _ (by omega))) ((old _ hkb hkk).trans (hc _ (by omega)))
  exact this

end Go.Proofs.Ytbndcjbnpgdpjaa
