/- reopening.Swap, at a right register with both securities. -/
import Derived.Test.YtnfllgeneehjjaaMRoS
import Derived.Test.YtnfllgeneehjjaaMRzR
set_option linter.unusedSimpArgs false
set_option linter.unusedVariables false
set_option linter.unusedSimpArgs false
set_option linter.unusedVariables false
namespace Go.Proofs.Ytnfllgeneehjjaa
open Go.RowKit Go.Lib Go.Proofs

set_option maxRecDepth 100000 in
set_option maxHeartbeats 16000000 in
theorem roSwap_ok (r : Reg) (x y z : Value) (day old new num den who n : Int) (s1 s2 : Sec) (w : World) (h : RegOk r) (hr : RegAt w x y z r) (f1 : findS old r.secs = some s1) (f2 : findS new r.secs = some s2) (hne : old ≠ new) (h1 : 1 ≤ num ∧ num ≤ 1000) (h2 : 1 ≤ den ∧ den ≤ 1000) (h3 : 1 ≤ s2.unit ∧ s2.unit ≤ 1000000000) (h4 : 0 ≤ n ∧ n ≤ 1000000) :
    Calls Try.prog 51 #[.agg #[x, y, z], .int .i64 day, .agg #[.int .i64 old, .int .i64 new, .int .i64 num, .int .i64 den], .int .i64 who, .int .i64 n] w (SwapP (swE r day old new who n (givM num den s2.unit n)) (n * num / den % s2.unit) (swV r day old new who n (givM num den s2.unit n)) w) := by
  obtain ⟨a0, n0, c0, b0, m0, d0, e0, k0, f0, rfl, rfl, rfl⟩ := hr.slices
  obtain ⟨p, hp⟩ : ∃ p, p = n * num := ⟨_, rfl⟩
  have hp0 : 0 ≤ p := by rw [hp]; exact Int.mul_nonneg h4.1 (by omega)
  have hp1 : p ≤ 1000000000 := by
    rw [hp]
    exact Int.le_trans (Int.mul_le_mul_of_nonneg_right h4.2 (by omega)) (Int.mul_le_mul_of_nonneg_left h1.2 (by omega))
  have hw1 : IntKind.i64.wrap (n * num) = n * num := by rw [← hp]; exact IntWalk.i64_in _ (by omega)
  have hq0 : 0 ≤ n * num / den := by rw [← hp]; exact Int.ediv_nonneg hp0 (by omega)
  have hq1 : n * num / den ≤ 1000000000 := by rw [← hp]; exact Int.le_trans (Int.ediv_le_self _ hp0) hp1
  have hw2 : wrap64 ((n * num).tdiv den) = n * num / den := by rw [← hp, Int.tdiv_eq_ediv_of_nonneg hp0]; exact IntWalk.wrap64_in _ (by rw [← hp] at hq0 hq1; omega)
  have HV : Hid (∀ W, Calls Try.prog 83 #[.int .i64 (n * num / den)] W fun e w' => e = .returned (.bool true) ∧ W = w') := Lib.hid fun W => Valid_yes _ (by omega) (by omega)
  have HV0 : Hid (∀ W, Calls Try.prog 83 #[.int .i64 n] W fun e w' => e = .returned (.bool true) ∧ W = w') := Lib.hid fun W => Valid_yes _ (by omega) (by omega)
  have HGI := Lib.hid (fun W => roGiven_ok old new num den s2.unit n W h1 h2 h3 h4)
  obtain ⟨bA, hbA⟩ : ∃ b, b = w.heap.size := ⟨_, rfl⟩
  obtain ⟨bS, hbS⟩ : ∃ b, b = w.heap.size + 1 := ⟨_, rfl⟩
  obtain ⟨bO, hbO⟩ : ∃ b, b = w.heap.size + 1 + 1 := ⟨_, rfl⟩
  obtain ⟨W1, hW1⟩ : ∃ W1, W1 = ((w.alloc (.cells #[.slice a0 n0 c0, .slice b0 m0 d0, .slice e0 k0 f0] 29)).alloc (.cells #[.int .i64 old, .int .i64 new, .int .i64 num, .int .i64 den] 79)).alloc (.cells #[.slice none 0 0, .slice none 0 0, .slice none 0 0] 29) := ⟨_, rfl⟩
  have HB1 : Hid (Below w.heap.size w W1) := Lib.hid (by rw [hW1]; exact (below2 w _ _).alloc (below2 w _ _).size _)
  have HA : Hid (W1.heap[bA]? = some (.cells #[.slice a0 n0 c0, .slice b0 m0 d0, .slice e0 k0 f0] 29 (0, 0))) := Lib.hid (by rw [hW1, hbA]; exact obj_below (alloc1_at w _ _) (below_alloc _ _))
  have HS : Hid (W1.heap[bS]? = some (.cells #[.int .i64 old, .int .i64 new, .int .i64 num, .int .i64 den] 79 (0, 0))) := Lib.hid (by rw [hW1, hbS]; exact obj_below (alloc2_at w _ _) (below_alloc _ _))
  have HO : Hid (W1.heap[bO]? = some (.cells #[.slice none 0 0, .slice none 0 0, .slice none 0 0] 29 (0, 0))) := Lib.hid (by rw [hW1, hbO]; have h := alloc2_at (w.alloc (.cells #[.slice a0 n0 c0, .slice b0 m0 d0, .slice e0 k0 f0] 29)) (.cells #[.int .i64 old, .int .i64 new, .int .i64 num, .int .i64 den] 79) (.cells #[.slice none 0 0, .slice none 0 0, .slice none 0 0] 29); rwa [show (w.alloc (.cells #[.slice a0 n0 c0, .slice b0 m0 d0, .slice e0 k0 f0] 29)).heap.size = w.heap.size + 1 from by simp] at h)
  have HRR1 : Hid (∀ W, Below w.heap.size w W → RegAt W (.slice a0 n0 c0) (.slice b0 m0 d0) (.slice e0 k0 f0) r) := Lib.hid fun W hW => hr.below hW
  have HCK : Hid (∀ W, Below w.heap.size w W → Calls Try.prog 82 #[.agg #[.slice a0 n0 c0, .slice b0 m0 d0, .slice e0 k0 f0], .agg #[.int .i64 old, .int .i64 new, .int .i64 num, .int .i64 den]] W fun e w' => e = .returned (.int .i64 0) ∧ Below W.heap.size W w') := Lib.hid fun W hW => roCheck_ok r _ _ _ old new num den s1 s2 W h (hr.below hW) f1 f2 hne h1 h2
  have HFN : Hid (∀ W, Below w.heap.size w W → Calls Try.prog 41 #[.agg #[.slice a0 n0 c0, .slice b0 m0 d0, .slice e0 k0 f0], .int .i64 new] W fun e w' => e = .returned (.tuple #[.agg s2.cells.toArray, .bool true]) ∧ Below W.heap.size W w') := Lib.hid fun W hW => by
    have h' := rxFind_any r.secs new (.slice a0 n0 c0) (.slice b0 m0 d0) (.slice e0 k0 f0) W (hr.secs.below hW) (by have := h.secs.len; omega)
    rw [f2] at h'
    exact h'
  have HRD := Lib.hid (fun W (hW : Below w.heap.size w W) => rxRedeem_any r _ _ _ day old who n W h.regS (hr.below hW))
  unfold swE swV givM
  obtain ⟨g, hg⟩ : ∃ g, g = n * num / den - n * num / den % s2.unit := ⟨_, rfl⟩
  obtain ⟨c, hc⟩ : ∃ c, c = n * num / den % s2.unit := ⟨_, rfl⟩
  rw [← hc] at hg
  rw [← hc, ← hg] at HGI ⊢
  have HIS : Hid (addE r ⟨0, day, 3, old, who, 0, n⟩ = 0 → ∀ W x y z, RegAt W x y z (addV r ⟨0, day, 3, old, who, 0, n⟩) → Calls Try.prog 36 #[.agg #[x, y, z], .int .i64 day, .int .i64 new, .int .i64 who, .int .i64 g] W fun e w' => ∃ x' y' z', e = .returned (.tuple #[.agg #[x', y', z'], .int .i64 (addE (addV r ⟨0, day, 3, old, who, 0, n⟩) ⟨0, day, 1, new, 0, who, g⟩)]) ∧ RegAt w' x' y' z' (addV (addV r ⟨0, day, 3, old, who, 0, n⟩) ⟨0, day, 1, new, 0, who, g⟩) ∧ Below W.heap.size W w') := Lib.hid fun he W x y z hx => by
    have hok : RegOk (addV r ⟨0, day, 3, old, who, 0, n⟩) := by unfold addV; rw [if_pos he]; exact add_ok h he
    exact rxIssue_any _ x y z day new who g W hok.regS hx
  obtain ⟨r1, hr1⟩ : ∃ r1, r1 = addV r ⟨0, day, 3, old, who, 0, n⟩ := ⟨_, rfl⟩
  obtain ⟨x1, hx1⟩ : ∃ x1, x1 = addE r ⟨0, day, 3, old, who, 0, n⟩ := ⟨_, rfl⟩
  rw [← hr1, ← hx1] at HIS HRD ⊢
  obtain ⟨r2, hr2⟩ : ∃ r2, r2 = addV r1 ⟨0, day, 1, new, 0, who, g⟩ := ⟨_, rfl⟩
  obtain ⟨x2, hx2⟩ : ∃ x2, x2 = addE r1 ⟨0, day, 1, new, 0, who, g⟩ := ⟨_, rfl⟩
  rw [← hr2, ← hx2] at HIS ⊢
  obtain ⟨E, hE⟩ : ∃ E, E = if x1 = 0 then (if 0 < g then x2 else 0) else x1 := ⟨_, rfl⟩
  obtain ⟨V, hV⟩ : ∃ V, V = if 0 < g then r2 else r1 := ⟨_, rfl⟩
  rw [← hE, ← hV]
  have HEE := Lib.hid hE
  have HVV := Lib.hid hV
  clear hE hV
  obtain ⟨t0, t1, t2, t3, t4, t5, t6⟩ := s2
  simp only [Sec.cells] at HFN HGI
  clear hr h f1 f2 hne hr1 hx1 hr2 hx2 hg hc h3 hp hp0 hp1
  have ha := HA.out
  have a0' := obj_cell ha 0
  have a1' := obj_cell ha 1
  have a2' := obj_cell ha 2
  simp at a0' a1' a2'
  clear ha
  have hs := HS.out
  have s0 := obj_cell hs 0
  have s1' := obj_cell hs 1
  have s2' := obj_cell hs 2
  have s3 := obj_cell hs 3
  simp at s0 s1' s2' s3
  clear hs
  go_enter Try.func51, Try.ntmps51
  go_upto_region 1 with fail
  have HW0 : Hid (bA = w.heap.size ∧ bS = bA + 1 ∧ bO = bA + 2) := Lib.hid (by omega)
  rw [← hW1, ← hbO, ← hbS, ← hbA]
  clear hW1 hbA hbS hbO
  go_wp2_with fail
  refine Calls.mono (HCK.out _ HB1.out) ?_
  rintro e w2 ⟨rfl, hb2⟩
  have HB2 := Lib.hid (HB1.out.trans (hb2.mono HB1.out.size))
  have HA2 := Lib.hid (obj_below HA.out hb2)
  have HS2 := Lib.hid (obj_below HS.out hb2)
  have HO2 := Lib.hid (obj_below HO.out hb2)
  clear hb2 HCK HA HS HO HB1 a0' a1' a2' s0 s1' s2' s3
  have ha := HA2.out
  have a0' := obj_cell ha 0
  have a1' := obj_cell ha 1
  have a2' := obj_cell ha 2
  simp at a0' a1' a2'
  clear ha
  have hs := HS2.out
  have s0 := obj_cell hs 0
  have s1' := obj_cell hs 1
  have s2' := obj_cell hs 2
  have s3 := obj_cell hs 3
  simp at s0 s1' s2' s3
  clear hs
  go_wp2_with (go_at_call 83; (first | with_reducible refine Calls.mono (HV0.out _) ?_ | with_reducible refine Calls.mono (HV.out _) ?_); rintro e w' ⟨rfl, rfl⟩)
  refine Calls.mono (HFN.out _ HB2.out) ?_
  rintro e w3 ⟨rfl, hb3⟩
  obtain ⟨bN, hbN⟩ : ∃ b, b = w3.heap.size := ⟨_, rfl⟩
  obtain ⟨w4, hw4⟩ : ∃ W, W = w3.alloc (.cells #[.int .i64 t0, .int .i64 t1, .int .i64 t2, .int .i64 t3, .int .i64 t4, .int .i64 t5, .bool t6] 34) := ⟨_, rfl⟩
  have HB4 : Hid (Below w.heap.size w w4) := Lib.hid (by rw [hw4]; exact (HB2.out.trans (hb3.mono HB2.out.size)).alloc (Nat.le_trans HB2.out.size hb3.size) _)
  have HA4 : Hid (w4.heap[bA]? = some (.cells #[.slice a0 n0 c0, .slice b0 m0 d0, .slice e0 k0 f0] 29 (0, 0))) := Lib.hid (by rw [hw4]; exact obj_below (obj_below HA2.out hb3) (below_alloc _ _))
  have HS4 : Hid (w4.heap[bS]? = some (.cells #[.int .i64 old, .int .i64 new, .int .i64 num, .int .i64 den] 79 (0, 0))) := Lib.hid (by rw [hw4]; exact obj_below (obj_below HS2.out hb3) (below_alloc _ _))
  have HO4 : Hid (w4.heap[bO]? = some (.cells #[.slice none 0 0, .slice none 0 0, .slice none 0 0] 29 (0, 0))) := Lib.hid (by rw [hw4]; exact obj_below (obj_below HO2.out hb3) (below_alloc _ _))
  have HN4 : Hid (w4.heap[bN]? = some (.cells #[.int .i64 t0, .int .i64 t1, .int .i64 t2, .int .i64 t3, .int .i64 t4, .int .i64 t5, .bool t6] 34 (0, 0))) := Lib.hid (by rw [hw4, hbN]; exact heap_alloc_new _ _)
  clear hb3 HA2 HS2 HB2 HO2 HFN HV HV0 a0' a1' a2' s0 s1' s2' s3
  go_upto_region 7 with fail
  rw [← hw4, ← hbN]
  clear hw4 hbN
  have hs := HS4.out
  have s0 := obj_cell hs 0
  have s1' := obj_cell hs 1
  have s2' := obj_cell hs 2
  have s3 := obj_cell hs 3
  simp at s0 s1' s2' s3
  clear hs
  have hn4 := obj_cell HN4.out 1
  simp at hn4
  go_wp2_with fail
  refine Calls.mono (HGI.out _) ?_
  rintro e w5 ⟨rfl, hb5⟩
  have HB5 := Lib.hid (HB4.out.trans (hb5.mono HB4.out.size))
  have HA5 := Lib.hid (obj_below HA4.out hb5)
  have HS5 := Lib.hid (obj_below HS4.out hb5)
  have HO5 := Lib.hid (obj_below HO4.out hb5)
  clear hb5 HA4 HS4 HO4 HN4 HB4 hn4 HGI s0 s1' s2' s3
  have ha := HA5.out
  have a0' := obj_cell ha 0
  have a1' := obj_cell ha 1
  have a2' := obj_cell ha 2
  simp at a0' a1' a2'
  clear ha
  have hs := HS5.out
  have s0 := obj_cell hs 0
  have s1' := obj_cell hs 1
  have s2' := obj_cell hs 2
  have s3 := obj_cell hs 3
  simp at s0 s1' s2' s3
  clear hs
  go_wp2_with fail
  refine Calls.mono (HRD.out _ HB5.out) ?_
  rintro e w6 ⟨x', y', z', rfl, hr6, hb6⟩
  obtain ⟨p0, p1, p2, p3, p4, p5, p6, p7, p8, rfl, rfl, rfl⟩ := hr6.slices
  have HB6 := Lib.hid (HB5.out.trans (hb6.mono HB5.out.size))
  have HA6 := Lib.hid (obj_below HA5.out hb6)
  have HS6 := Lib.hid (obj_below HS5.out hb6)
  have HO6 := Lib.hid (obj_below HO5.out hb6)
  have hA6 := HA6.out
  obtain ⟨w7, hw7⟩ : ∃ W, W = put3 w6 bA (.slice p0 p1 p2) (.slice p3 p4 p5) (.slice p6 p7 p8) := ⟨_, rfl⟩
  have hg7 : w6.grownBy w7 (some bA) := by rw [hw7]; exact put3_grown _ _ _ _ _
  have HA7 : Hid (w7.heap[bA]? = some (.cells #[.slice p0 p1 p2, .slice p3 p4 p5, .slice p6 p7 p8] 29 (0, 0))) := Lib.hid (by rw [hw7]; exact put3_at hA6 rfl _ _ _)
  have HS7 : Hid (w7.heap[bS]? = some (.cells #[.int .i64 old, .int .i64 new, .int .i64 num, .int .i64 den] 79 (0, 0))) := Lib.hid ((hg7.block bS (obj_lt HS6.out) (by have := HW0.out; intro e; injection e with e; omega)).trans HS6.out)
  have HO7 : Hid (w7.heap[bO]? = some (.cells #[.slice none 0 0, .slice none 0 0, .slice none 0 0] 29 (0, 0))) := Lib.hid ((hg7.block bO (obj_lt HO6.out) (by have := HW0.out; intro e; injection e with e; omega)).trans HO6.out)
  have HR7 : Hid (RegAt w7 (.slice p0 p1 p2) (.slice p3 p4 p5) (.slice p6 p7 p8) r1) := Lib.hid (hr6.keepL (lone_reg hA6) hg7)
  have HB7 : Hid (Below w.heap.size w w7) := Lib.hid (by rw [hw7]; exact put3_below HB6.out (by have := HW0.out; omega) _ _ _)
  clear hA6 hg7 hr6 hb6 HA5 HS5 HO5 HB5 a0' a1' a2' s0 s1' s2' s3
  have ha := HA6.out
  have a0' := obj_cell ha 0
  have a1' := obj_cell ha 1
  have a2' := obj_cell ha 2
  have af0 := obj_free ha 0
  have af1 := obj_free ha 1
  have af2 := obj_free ha 2
  simp at a0' a1' a2'
  clear ha
  unfold put3 at hw7
  go_upto_region 9 with fail
  rw [← hw7]
  clear hw7 HA6 HS6 HO6 HB6 a0' a1' a2' af0 af1 af2
  by_cases e1 : x1 = 0
  · subst e1
    by_cases g0 : 0 < g
    · obtain rfl : E = x2 := by rw [HEE.out, if_pos rfl, if_pos g0]
      obtain rfl : V = r2 := by rw [HVV.out, if_pos g0]
      clear HEE HVV
      have ha := HA7.out
      have a0' := obj_cell ha 0
      have a1' := obj_cell ha 1
      have a2' := obj_cell ha 2
      simp at a0' a1' a2'
      clear ha
      have hs := HS7.out
      have s0 := obj_cell hs 0
      have s1' := obj_cell hs 1
      have s2' := obj_cell hs 2
      have s3 := obj_cell hs 3
      simp at s0 s1' s2' s3
      clear hs
      go_wp2_with fail
      refine Calls.mono (HIS.out (by first | rfl | trivial) _ _ _ _ HR7.out) ?_
      rintro e w8 ⟨x', y', z', rfl, hr8, hb8⟩
      obtain ⟨q0, q1, q2, q3, q4, q5, q6, q7, q8, rfl, rfl, rfl⟩ := hr8.slices
      have HB8 := Lib.hid (HB7.out.trans (hb8.mono HB7.out.size))
      have HA8 := Lib.hid (obj_below HA7.out hb8)
      have HO8 := Lib.hid (obj_below HO7.out hb8)
      have hA8 := HA8.out
      obtain ⟨w9, hw9⟩ : ∃ W, W = put3 w8 bA (.slice q0 q1 q2) (.slice q3 q4 q5) (.slice q6 q7 q8) := ⟨_, rfl⟩
      have hg9 : w8.grownBy w9 (some bA) := by rw [hw9]; exact put3_grown _ _ _ _ _
      have HA9 : Hid (w9.heap[bA]? = some (.cells #[.slice q0 q1 q2, .slice q3 q4 q5, .slice q6 q7 q8] 29 (0, 0))) := Lib.hid (by rw [hw9]; exact put3_at hA8 rfl _ _ _)
      have HO9 : Hid (w9.heap[bO]? = some (.cells #[.slice none 0 0, .slice none 0 0, .slice none 0 0] 29 (0, 0))) := Lib.hid ((hg9.block bO (obj_lt HO8.out) (by have := HW0.out; intro e; injection e with e; omega)).trans HO8.out)
      have HR9 : Hid (RegAt w9 (.slice q0 q1 q2) (.slice q3 q4 q5) (.slice q6 q7 q8) V) := Lib.hid (hr8.keepL (lone_reg hA8) hg9)
      have HB9 : Hid (Below w.heap.size w w9) := Lib.hid (by rw [hw9]; exact put3_below HB8.out (by have := HW0.out; omega) _ _ _)
      clear hA8 hg9 hr8 hb8 HA7 HS7 HO7 HB7 HR7 a0' a1' a2' s0 s1' s2' s3
      have ha := HA8.out
      have a0' := obj_cell ha 0
      have a1' := obj_cell ha 1
      have a2' := obj_cell ha 2
      have af0 := obj_free ha 0
      have af1 := obj_free ha 1
      have af2 := obj_free ha 2
      simp at a0' a1' a2'
      clear ha
      unfold put3 at hw9
      go_upto_region 11 with fail
      rw [← hw9]
      clear hw9 HA8 HO8 HB8 a0' a1' a2' af0 af1 af2
      by_cases e2 : E = 0
      · subst e2
        have ha := HA9.out
        have a0' := obj_cell ha 0
        have a1' := obj_cell ha 1
        have a2' := obj_cell ha 2
        simp at a0' a1' a2'
        clear ha
        have ho := HO9.out
        have o0 := obj_cell ho 0
        have o1 := obj_cell ho 1
        have o2 := obj_cell ho 2
        have of0 := obj_free ho 0
        have of1 := obj_free ho 1
        have of2 := obj_free ho 2
        simp at o0 o1 o2
        clear ho
        have hoo := HO9.out
        have HRR := Lib.hid (HR9.out.keepL (lone_reg hoo) (put3_grown _ bO (.slice q0 q1 q2) (.slice q3 q4 q5) (.slice q6 q7 q8)))
        clear hoo
        go_wp2
        refine ret3 HO9.out rfl _ _ _ (fun F hF => ?_) rfl (SwapP.good HRR.out (put3_below HB9.out (by have := HW0.out; omega) _ _ _))
        have z0 := obj_cell hF 0
        have z1 := obj_cell hF 1
        have z2 := obj_cell hF 2
        simp [results, Try.results51, go_sem, z0, z1, z2]
      · have hbf : (E != 0) = true := by simpa using e2
        have ho := HO9.out
        have o0 := obj_cell ho 0
        have o1 := obj_cell ho 1
        have o2 := obj_cell ho 2
        have of0 := obj_free ho 0
        have of1 := obj_free ho 1
        have of2 := obj_free ho 2
        simp at o0 o1 o2
        clear ho
        go_wp2
        refine ret3 HO9.out rfl _ _ _ (fun F hF => ?_) rfl (SwapP.bad e2 (put3_below HB9.out (by have := HW0.out; omega) _ _ _))
        have z0 := obj_cell hF 0
        have z1 := obj_cell hF 1
        have z2 := obj_cell hF 2
        simp [results, Try.results51, go_sem, z0, z1, z2]
    · obtain rfl : E = 0 := by rw [HEE.out, if_pos rfl, if_neg g0]
      obtain rfl : V = r1 := by rw [HVV.out, if_neg g0]
      clear HEE HVV
      have ha := HA7.out
      have a0' := obj_cell ha 0
      have a1' := obj_cell ha 1
      have a2' := obj_cell ha 2
      simp at a0' a1' a2'
      clear ha
      have ho := HO7.out
      have o0 := obj_cell ho 0
      have o1 := obj_cell ho 1
      have o2 := obj_cell ho 2
      have of0 := obj_free ho 0
      have of1 := obj_free ho 1
      have of2 := obj_free ho 2
      simp at o0 o1 o2
      clear ho
      have hoo := HO7.out
      have HRR := Lib.hid (HR7.out.keepL (lone_reg hoo) (put3_grown _ bO (.slice p0 p1 p2) (.slice p3 p4 p5) (.slice p6 p7 p8)))
      clear hoo
      go_wp2
      refine ret3 HO7.out rfl _ _ _ (fun F hF => ?_) rfl (SwapP.good HRR.out (put3_below HB7.out (by have := HW0.out; omega) _ _ _))
      have z0 := obj_cell hF 0
      have z1 := obj_cell hF 1
      have z2 := obj_cell hF 2
      simp [results, Try.results51, go_sem, z0, z1, z2]
  · obtain rfl : E = x1 := by rw [HEE.out, if_neg e1]
    clear HEE HVV
    have hbf : (E != 0) = true := by simpa using e1
    have hbe : (E == 0) = false := beq_eq_false_iff_ne.2 e1
    have ho := HO7.out
    have o0 := obj_cell ho 0
    have o1 := obj_cell ho 1
    have o2 := obj_cell ho 2
    have of0 := obj_free ho 0
    have of1 := obj_free ho 1
    have of2 := obj_free ho 2
    simp at o0 o1 o2
    clear ho
    go_wp2
    refine ret3 HO7.out rfl _ _ _ (fun F hF => ?_) rfl (SwapP.bad e1 (put3_below HB7.out (by have := HW0.out; omega) _ _ _))
    have z0 := obj_cell hF 0
    have z1 := obj_cell hF 1
    have z2 := obj_cell hF 2
    simp [results, Try.results51, go_sem, z0, z1, z2]

end Go.Proofs.Ytnfllgeneehjjaa
