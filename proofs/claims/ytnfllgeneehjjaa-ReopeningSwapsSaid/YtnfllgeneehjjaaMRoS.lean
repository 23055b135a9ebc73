/- reopening.Check and Swap, at a right register with both securities. -/
import Derived.Test.YtnfllgeneehjjaaMRoK
import Derived.Test.YtnfllgeneehjjaaMRzD
import Derived.Test.YtnfllgeneehjjaaMRhT
set_option linter.unusedSimpArgs false
set_option linter.unusedVariables false
set_option linter.unusedSimpArgs false
set_option linter.unusedVariables false
namespace Go.Proofs.Ytnfllgeneehjjaa
open Go.RowKit Go.Lib Go.Proofs

set_option maxHeartbeats 4000000 in
theorem roCheck_ok (r : Reg) (x y z : Value) (old new num den : Int) (s1 s2 : Sec) (w : World) (h : RegOk r) (hr : RegAt w x y z r) (f1 : findS old r.secs = some s1) (f2 : findS new r.secs = some s2) (hne : old ≠ new) (h1 : 1 ≤ num ∧ num ≤ 1000) (h2 : 1 ≤ den ∧ den ≤ 1000) :
    Calls Try.prog 82 #[.agg #[x, y, z], .agg #[.int .i64 old, .int .i64 new, .int .i64 num, .int .i64 den]] w fun e w' => e = .returned (.int .i64 0) ∧ Below w.heap.size w w' := by
  obtain ⟨bA, hbA⟩ : ∃ b, b = w.heap.size := ⟨_, rfl⟩
  obtain ⟨bS, hbS⟩ : ∃ b, b = w.heap.size + 1 := ⟨_, rfl⟩
  obtain ⟨W1, hW1⟩ : ∃ W1, W1 = (w.alloc (.cells #[x, y, z] 29)).alloc (.cells #[.int .i64 old, .int .i64 new, .int .i64 num, .int .i64 den] 79) := ⟨_, rfl⟩
  have HB1 : Hid (Below w.heap.size w W1) := Lib.hid (by rw [hW1]; exact below2 w _ _)
  have HA : Hid (W1.heap[bA]? = some (.cells #[x, y, z] 29 (0, 0))) := Lib.hid (by rw [hW1, hbA]; exact alloc1_at w _ _)
  have HS : Hid (W1.heap[bS]? = some (.cells #[.int .i64 old, .int .i64 new, .int .i64 num, .int .i64 den] 79 (0, 0))) := Lib.hid (by rw [hW1, hbS]; exact alloc2_at w _ _)
  have HCK := Lib.hid (rxCheck_any r x y z W1 h.regS (hr.below HB1.out))
  rw [checkR_ok h] at HCK
  have HFO : Hid (∀ W, Below w.heap.size w W → Calls Try.prog 41 #[.agg #[x, y, z], .int .i64 old] W fun e w' => e = .returned (.tuple #[.agg s1.cells.toArray, .bool true]) ∧ Below W.heap.size W w') := Lib.hid fun W hW => by
    have h' := rxFind_any r.secs old x y z W (hr.secs.below hW) (by have := h.secs.len; omega)
    rw [f1] at h'; exact h'
  have HFN : Hid (∀ W, Below w.heap.size w W → Calls Try.prog 41 #[.agg #[x, y, z], .int .i64 new] W fun e w' => e = .returned (.tuple #[.agg s2.cells.toArray, .bool true]) ∧ Below W.heap.size W w') := Lib.hid fun W hW => by
    have h' := rxFind_any r.secs new x y z W (hr.secs.below hW) (by have := h.secs.len; omega)
    rw [f2] at h'; exact h'
  have hbe : (old == new) = false := beq_eq_false_iff_ne.2 hne
  obtain ⟨p0, p1, p2, p3, p4, p5, p6⟩ := s1
  obtain ⟨q0, q1, q2, q3, q4, q5, q6⟩ := s2
  simp only [Sec.cells] at HFO HFN
  clear h hr f1 f2 hne
  have ha := HA.out
  have a0 := obj_cell ha 0
  have a1 := obj_cell ha 1
  have a2 := obj_cell ha 2
  simp at a0 a1 a2
  clear ha
  have hs := HS.out
  have s0 := obj_cell hs 0
  have s1 := obj_cell hs 1
  have s2 := obj_cell hs 2
  have s3 := obj_cell hs 3
  simp at s0 s1 s2 s3
  clear hs
  go_enter Try.func82, Try.ntmps82
  go_upto_region 1 with fail
  rw [← hW1, ← hbS, ← hbA]
  clear hW1 hbA hbS
  go_wp2_with fail
  refine Calls.mono HCK.out ?_
  rintro e w2 ⟨rfl, hb2⟩
  have HB2 := Lib.hid (HB1.out.trans (hb2.mono HB1.out.size))
  have HA2 := Lib.hid (obj_below HA.out hb2)
  have HS2 := Lib.hid (obj_below HS.out hb2)
  clear hb2 HCK HA HS HB1 a0 a1 a2 s0 s1 s2 s3
  have ha := HA2.out
  have a0 := obj_cell ha 0
  have a1 := obj_cell ha 1
  have a2 := obj_cell ha 2
  simp at a0 a1 a2
  clear ha
  have hs := HS2.out
  have s0 := obj_cell hs 0
  have s1 := obj_cell hs 1
  have s2 := obj_cell hs 2
  have s3 := obj_cell hs 3
  simp at s0 s1 s2 s3
  clear hs
  go_wp2_with fail
  refine Calls.mono (HFO.out _ HB2.out) ?_
  rintro e w3 ⟨rfl, hb3⟩
  obtain ⟨w4, hw4⟩ : ∃ W, W = w3.alloc (.cells #[.int .i64 p0, .int .i64 p1, .int .i64 p2, .int .i64 p3, .int .i64 p4, .int .i64 p5, .bool p6] 34) := ⟨_, rfl⟩
  have HB4 : Hid (Below w.heap.size w w4) := Lib.hid (by rw [hw4]; exact (HB2.out.trans (hb3.mono HB2.out.size)).alloc (Nat.le_trans HB2.out.size hb3.size) _)
  have HA4 : Hid (w4.heap[bA]? = some (.cells #[x, y, z] 29 (0, 0))) := Lib.hid (by rw [hw4]; exact obj_below (obj_below HA2.out hb3) (below_alloc _ _))
  have HS4 : Hid (w4.heap[bS]? = some (.cells #[.int .i64 old, .int .i64 new, .int .i64 num, .int .i64 den] 79 (0, 0))) := Lib.hid (by rw [hw4]; exact obj_below (obj_below HS2.out hb3) (below_alloc _ _))
  clear hb3 HA2 HS2 HB2 a0 a1 a2 s0 s1 s2 s3
  go_upto_region 5 with fail
  rw [← hw4]
  clear hw4
  have ha := HA4.out
  have a0 := obj_cell ha 0
  have a1 := obj_cell ha 1
  have a2 := obj_cell ha 2
  simp at a0 a1 a2
  clear ha
  have hs := HS4.out
  have s0 := obj_cell hs 0
  have s1 := obj_cell hs 1
  have s2 := obj_cell hs 2
  have s3 := obj_cell hs 3
  simp at s0 s1 s2 s3
  clear hs
  go_wp2_with fail
  refine Calls.mono (HFN.out _ HB4.out) ?_
  rintro e w5 ⟨rfl, hb5⟩
  obtain ⟨w6, hw6⟩ : ∃ W, W = w5.alloc (.cells #[.int .i64 q0, .int .i64 q1, .int .i64 q2, .int .i64 q3, .int .i64 q4, .int .i64 q5, .bool q6] 34) := ⟨_, rfl⟩
  have HB6 : Hid (Below w.heap.size w w6) := Lib.hid (by rw [hw6]; exact (HB4.out.trans (hb5.mono HB4.out.size)).alloc (Nat.le_trans HB4.out.size hb5.size) _)
  have HS6 : Hid (w6.heap[bS]? = some (.cells #[.int .i64 old, .int .i64 new, .int .i64 num, .int .i64 den] 79 (0, 0))) := Lib.hid (by rw [hw6]; exact obj_below (obj_below HS4.out hb5) (below_alloc _ _))
  clear hb5 HA4 HS4 HB4 a0 a1 a2 s0 s1 s2 s3
  go_upto_region 6 with fail
  rw [← hw6]
  clear hw6
  have hs := HS6.out
  have s0 := obj_cell hs 0
  have s1 := obj_cell hs 1
  have s2 := obj_cell hs 2
  have s3 := obj_cell hs 3
  simp at s0 s1 s2 s3
  clear hs
  go_wp2_with (go_at_call 99; refine (roisWeight_yes _ (by omega) (by omega)).mono ?_; rintro e w' ⟨rfl, rfl⟩)
  go_ret
  exact ⟨rfl, HB6.out⟩

/-- What a switch does with a register. -/
def givM (num den u n : Int) : Int := n * num / den - n * num / den % u
def swE (r : Reg) (day old new who n g : Int) : Int := if addE r ⟨0, day, 3, old, who, 0, n⟩ = 0 then (if 0 < g then addE (addV r ⟨0, day, 3, old, who, 0, n⟩) ⟨0, day, 1, new, 0, who, g⟩ else 0) else addE r ⟨0, day, 3, old, who, 0, n⟩
def swV (r : Reg) (day old new who n g : Int) : Reg := if 0 < g then addV (addV r ⟨0, day, 3, old, who, 0, n⟩) ⟨0, day, 1, new, 0, who, g⟩ else addV r ⟨0, day, 3, old, who, 0, n⟩
def SwapP (E c : Int) (V : Reg) (w : World) (e : Ending) (w' : World) : Prop := ∃ p0 p1 p2 p3 p4 p5 p6 p7 p8 k, e = .returned (.tuple #[.agg #[.slice p0 p1 p2, .slice p3 p4 p5, .slice p6 p7 p8], .int .i64 k, .int .i64 E]) ∧ (E = 0 → k = c ∧ RegAt w' (.slice p0 p1 p2) (.slice p3 p4 p5) (.slice p6 p7 p8) V) ∧ Below w.heap.size w w'
theorem SwapP.bad {E c : Int} {V : Reg} {w w' : World} (h : E ≠ 0) (hb : Below w.heap.size w w') : SwapP E c V w (.returned (.tuple #[.agg #[.slice none 0 0, .slice none 0 0, .slice none 0 0], .int .i64 0, .int .i64 E])) w' := ⟨none, 0, 0, none, 0, 0, none, 0, 0, 0, rfl, fun k => absurd k h, hb⟩
theorem SwapP.good {c : Int} {V : Reg} {w w' : World} {p0 : Option Addr} {p1 p2 : Nat} {p3 : Option Addr} {p4 p5 : Nat} {p6 : Option Addr} {p7 p8 : Nat} (h : RegAt w' (.slice p0 p1 p2) (.slice p3 p4 p5) (.slice p6 p7 p8) V) (hb : Below w.heap.size w w') : SwapP 0 c V w (.returned (.tuple #[.agg #[.slice p0 p1 p2, .slice p3 p4 p5, .slice p6 p7 p8], .int .i64 c, .int .i64 0])) w' := ⟨p0, p1, p2, p3, p4, p5, p6, p7, p8, c, rfl, fun _ => ⟨rfl, h⟩, hb⟩

end Go.Proofs.Ytnfllgeneehjjaa
