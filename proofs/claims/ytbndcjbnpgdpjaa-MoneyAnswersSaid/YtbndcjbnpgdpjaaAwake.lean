/- The contract of treasurylaw01.awake: the examples of the chapter hold, whatever the world; nothing that was there turns. -/
import Derived.Test.YtbndcjbnpgdpjaaParts
import Derived.Test.YtbndcjbnpgdpjaaInts
namespace Go.Proofs.Ytbndcjbnpgdpjaa
open Go.RowKit Go.Sort Go.Shelf Go.Lib Go.Proofs

theorem parts_ex1 : partsI 10 3 [1, 1, 1] = [4, 3, 3] := by decide
theorem parts_ex2 : partsI 7 5 [2, 0, 3] = [3, 0, 4] := by decide

/-- A slice of three numbers in a block of its own. -/
theorem rowAt_three (w : World) (b cap : Nat) (x y z : Int) (hb : b < w.heap.size) (h0 : w.cell? ⟨b, 0, none⟩ = some (.int .i64 x)) (h1 : w.cell? ⟨b, 1, none⟩ = some (.int .i64 y)) (h2 : w.cell? ⟨b, 2, none⟩ = some (.int .i64 z)) :
    RowAt w (.slice (some ⟨b, 0, none⟩) 3 cap) [x, y, z] := by
  refine Or.inr ⟨b, 0, cap, rfl, hb, fun i hi => ?_⟩
  have : i = 0 ∨ i = 1 ∨ i = 2 := by simp at hi; omega
  rcases this with rfl | rfl | rfl
  · exact h0
  · exact h1
  · exact h2

/-- Parts at three weights in a block of its own. -/
theorem Parts_three (T S x y z : Int) (r : List Int) (hr : partsI T S [x, y, z] = r) (b cap : Nat) (w : World) (hT : inB T 0 1000000000000 = true) (hx : 0 ≤ x ∧ x ≤ 1000000) (hy : 0 ≤ y ∧ y ≤ 1000000) (hz : 0 ≤ z ∧ z ≤ 1000000) (hS : x + y + z = S) (hS0 : 0 < S) (hb : b < w.heap.size)
    (h0 : w.cell? ⟨b, 0, none⟩ = some (.int .i64 x)) (h1 : w.cell? ⟨b, 1, none⟩ = some (.int .i64 y)) (h2 : w.cell? ⟨b, 2, none⟩ = some (.int .i64 z)) :
    Calls Try.prog 23 #[.int .i64 T, .slice (some ⟨b, 0, none⟩) 3 cap] w fun e w' => ∃ P, e = .returned (.tuple #[.slice (some ⟨P, 0, none⟩) 3 3, .int .i64 0]) ∧ RowAt w' (.slice (some ⟨P, 0, none⟩) 3 3) r ∧ Below w.heap.size w w' := by
  have := Parts_ok T S [x, y, z] (by simp) (by simp) b 0 cap w hT (by intro q hq; simp at hq; rcases hq with rfl | rfl | rfl <;> assumption) (by simp [sumI]; omega) hS0 hb (fun i hi => by
    have : i = 0 ∨ i = 1 ∨ i = 2 := by simp at hi; omega
    rcases this with rfl | rfl | rfl
    · exact h0
    · exact h1
    · exact h2)
  refine this.mono fun e w' ⟨P, he, ho, hb⟩ => ⟨P, he, ?_, hb⟩
  rw [hr] at ho
  exact RowAt.owns ho

theorem Ints_yes (va vb : Value) (l : List Int) (w : World) (ha : RowAt w va l) (hb : RowAt w vb l) (hs : l.length ≤ 4611686018427387904) :
    Calls Try.prog 25 #[va, vb] w fun e w' => e = .returned (.bool true) ∧ ∃ q, w' = w.drewN q := by
  have := Ints_any va vb l l w ha hb hs hs
  rwa [decide_eq_true rfl] at this

theorem rowAt_new (w : World) (T : TypeId) (b cap : Nat) (x y z : Int) (hb : b = w.heap.size) : RowAt (w.alloc (.cells #[.int .i64 x, .int .i64 y, .int .i64 z] T)) (.slice (some ⟨b, 0, none⟩) 3 cap) [x, y, z] := by
  subst hb
  exact rowAt_three _ _ _ _ _ _ (by simp) (by simp) (by simp) (by simp)

theorem share_ex : shareI 5 1 2 = 3 := by decide

theorem RowAt.drewN {w : World} {v : Value} {l : List Int} (h : RowAt w v l) (q : Nat) : RowAt (w.drewN q) v l := h
theorem below_alloc (w : World) (o : Obj) : Below w.heap.size w (w.alloc o) := (Below.refl _ _).alloc (Nat.le_refl _) o
theorem below_drewN {B : Nat} {w w' : World} (h : Below B w w') (q : Nat) : Below B w (w'.drewN q) := ⟨h.os, h.tape, h.output, h.size, h.block⟩

set_option maxHeartbeats 1000000 in
theorem awake_any (w : World) : Calls Try.prog 7 #[] w fun e w' => e = .returned (.bool true) ∧ Below w.heap.size w w' := by
  have hsh := Share_ok 5 1 2
  rw [share_ex] at hsh
  have HSH := Lib.hid hsh
  clear hsh
  go_enter Try.func7, Try.ntmps7
  go_wp2_with fail
  refine (Parts_three 10 3 1 1 1 _ parts_ex1 _ _ _ (by decide) (by omega) (by omega) (by omega) (by omega) (by omega) (by simp) (by simp) (by simp) (by simp)).mono ?_
  rintro e w1 ⟨P, rfl, hr1, hb1⟩
  have hb1' := (below_alloc _ _).trans (hb1.mono (by simp))
  clear hb1
  go_wp2_with fail
  refine (Parts_three 7 5 2 0 3 _ parts_ex2 _ _ _ (by decide) (by omega) (by omega) (by omega) (by omega) (by omega) (by simp) (by simp) (by simp) (by simp)).mono ?_
  rintro e w2 ⟨P2, rfl, hr2, hb2⟩
  have hb2' := (below_alloc _ _).trans (hb2.mono (by simp))
  clear hb2
  have hr1' := hr1.below hb2'
  have hb3 := hb1'.trans (hb2'.mono hb1'.size)
  clear hr1 hb1' hb2'
  go_wp2_with fail
  refine (HSH.out _ (by decide) (by decide) (by decide) (by decide)).mono ?_
  rintro e w3 ⟨rfl, rfl⟩
  go_wp2_with fail
  refine (Ints_yes _ _ [4, 3, 3] _ (hr1'.below (below_alloc _ _)) (rowAt_new _ _ _ _ _ _ _ rfl) (by simp)).mono ?_
  rintro e w3 ⟨rfl, q, rfl⟩
  go_wp2_with fail
  refine (Ints_yes _ _ [3, 0, 4] _ (((hr2.below (below_alloc _ _)).drewN q).below (below_alloc _ _)) (rowAt_new _ _ _ _ _ _ _ (by show _ = (w2.alloc _).heap.size; simp)) (by simp)).mono ?_
  rintro e w3 ⟨rfl, q', rfl⟩
  go_wp2_with fail
  go_ret
  exact ⟨rfl, below_drewN ((below_drewN (hb3.alloc hb3.size _) q).alloc (Nat.le_trans hb3.size (by simp)) _) q'⟩

end Go.Proofs.Ytbndcjbnpgdpjaa
