/- The closure of consolidation.Whole: what both sides have of a position is eliminated. -/
import Derived.Test.YtdbpbmejgdbppaaCsF
import Derived.Test.YtdbpbmejgdbppaaCsX
set_option linter.unusedSimpArgs false
set_option linter.unusedVariables false
namespace Go.Proofs.Ytdbpbmejgdbppaa
open Go.RowKit Go.Lib Go.Proofs Go.Maps Go.Sort Go.Shelf

theorem MapZ.small {w : World} {b n : Nat} {g : Int → Int} {K : Int → Bool} (h : MapZ w b n g K) (hr : ∀ x, K x = true → 100 ≤ x ∧ x ≤ 599) : MapZ w b 500 g K := by
  obtain ⟨D, h1, h2, h3⟩ := h
  have hp := keysM_perm h1 h3 hr
  obtain ⟨es, clock, hb, F, hs, rfl⟩ := h1
  refine ⟨_, ⟨es, clock, hb, F, ?_, rfl⟩, h2, h3⟩
  have h4 := hp.length_eq
  simp only [intKeys, List.length_map, length_sorted] at h4
  have h5 := List.length_filter_le K acctsM
  have h6 : acctsM.length = 500 := by unfold acctsM; simp
  simp at h4
  omega
theorem MapZ.noCells {w : World} {b n : Nat} {g : Int → Int} {K : Int → Bool} (h : MapZ w b n g K) {cs : Array Value} {T : TypeId} {o : Nat × Nat} : w.heap[b]? ≠ some (.cells cs T o) := by
  obtain ⟨D, ⟨es, clock, hb, F, hs, rfl⟩, h2⟩ := h
  rw [hb]; simp
/-- What Whole has while it eliminates. -/
structure WI (bQ bZ bW : Nat) (g : Int → Int) (K : Int → Bool) (el : Int) (vd : Value) (W : World) : Prop where
  q : W.heap[bQ]? = some (.cells #[.map (some bZ)] 73 (0, 0))
  z : MapZ W bZ 500 g K
  kr : ∀ x, K x = true → 100 ≤ x ∧ x ≤ 599
  b : W.heap[bW]? = some (.cells #[.slice none 0 0, .int .i64 el, vd] 47 (0, 0))
theorem WI.below {bQ bZ bW : Nat} {g : Int → Int} {K : Int → Bool} {el : Int} {vd : Value} {A B : World} (h : WI bQ bZ bW g K el vd A) (hb : Below A.heap.size A B) : WI bQ bZ bW g K el vd B := ⟨obj_below h.q hb, h.z.below hb, h.kr, obj_below h.b hb⟩
theorem WI.ne {bQ bZ bW : Nat} {g : Int → Int} {K : Int → Bool} {el : Int} {vd : Value} {A : World} (h : WI bQ bZ bW g K el vd A) : bQ ≠ bZ ∧ bW ≠ bZ ∧ bQ ≠ bW := by
  refine ⟨fun e => ?_, fun e => ?_, fun e => ?_⟩
  · have := h.q; rw [e] at this; exact h.z.noCells this
  · have := h.b; rw [e] at this; exact h.z.noCells this
  · have h1 := h.q
    rw [e, h.b] at h1
    injection h1 with h1
    injection h1 with _ h1
    exact absurd h1 (by decide)
def WCPost (bQ bZ bW : Nat) (g : Int → Int) (el : Int) (vd : Value) (w : World) (e : Ending) (w' : World) : Prop := e = .returned (.tuple #[]) ∧ ∃ K' M, WI bQ bZ bW g K' el vd w' ∧ w.grownBy M (some bZ) ∧ M.grownBy w' (some bW)

set_option maxRecDepth 100000 in
set_option maxHeartbeats 8000000 in
theorem csWholeC_ok (m : Mut) (hm : m = mut1 ∨ m = mut2) (a b r own oth : Int) (bQ bZ bW : Nat) (g : Int → Int) (K : Int → Bool) (el : Int) (vd : Value) (w : World) (h : WI bQ bZ bW g K el vd w) (ho : -1000000000000000 ≤ own ∧ own ≤ 1000000000000000) (ht : -1000000000000000 ≤ oth ∧ oth ≤ 1000000000000000) (hg : ∀ x, -1000000000000000000 ≤ g x ∧ g x ≤ 1000000000000000000) (he : 0 ≤ el ∧ el ≤ 1000000000000000000)
    (mn : Int) (hmn : mn = if 0 < own ∧ 0 < oth then min own oth else 0) (g2 : Int → Int) (hg2 : ∀ t, g2 t = g t + (if t = m.acct then -(m.sgn * mn) else 0) + (if t = m.oth then m.sgn * mn else 0)) :
    Calls Try.prog 34 #[.agg (mutC m).toArray, .int .i64 a, .int .i64 b, .int .i64 r, .int .i64 own, .int .i64 oth, .pointer (some ⟨bQ, 0, none⟩), .pointer (some ⟨bW, 0, none⟩)] w (WCPost bQ bZ bW g2 (el + mn) vd w) := by
  have hmk : (m.sgn = 1 ∨ m.sgn = -1) ∧ (100 ≤ m.acct ∧ m.acct ≤ 599) ∧ (100 ≤ m.oth ∧ m.oth ≤ 599) ∧ m.acct ≠ m.oth := by
    rcases hm with rfl | rfl <;> decide
  obtain ⟨m0, m1, m2, m3⟩ := m
  simp only [mutC] at hmk hg2 ⊢
  obtain ⟨n1, n2, n3⟩ := h.ne
  have HB1 := Lib.hid (below_alloc w (.cells #[.int .i64 m0, .int .i64 m1, .int .i64 m2, .int .i64 m3] 63))
  have hx := heap_alloc_new w (.cells #[.int .i64 m0, .int .i64 m1, .int .i64 m2, .int .i64 m3] 63)
  obtain ⟨bX, hbX⟩ : ∃ b, b = w.heap.size := ⟨_, rfl⟩
  obtain ⟨w1, hw1⟩ : ∃ W, W = w.alloc (.cells #[.int .i64 m0, .int .i64 m1, .int .i64 m2, .int .i64 m3] 63) := ⟨_, rfl⟩
  rw [← hw1] at HB1 hx
  rw [← hbX] at hx
  have HI1 := Lib.hid (h.below HB1.out)
  have HXX := Lib.hid hx
  have x1 := obj_cell hx 1
  have x2 := obj_cell hx 2
  have x3 := obj_cell hx 3
  simp at x1 x2 x3
  have hbq := obj_lt h.q
  have hbw := obj_lt h.b
  have hbz := h.z.lt
  have HS : Hid (bX = w.heap.size) := Lib.hid hbX
  have HG2 := Lib.hid hg2
  unfold WCPost
  clear h hx hg2
  go_enter Try.func34, Try.ntmps34
  go_upto_region 1 with fail
  rw [← hw1, ← hbX]
  clear hw1 hbX
  by_cases hc : 0 < own ∧ 0 < oth
  · rw [if_pos hc] at hmn
    obtain ⟨hc1, hc2⟩ := hc
    have hmb : 0 ≤ mn ∧ mn ≤ 1000000000000000 := by omega
    replace hmn := hmn.symm
    obtain ⟨q, hq⟩ : ∃ q, q = m3 * mn := ⟨_, rfl⟩
    have hqb : -1000000000000000 ≤ q ∧ q ≤ 1000000000000000 := by rw [hq]; rcases hmk.1 with e | e <;> rw [e] <;> omega
    have hwq : IntKind.i64.wrap (m3 * mn) = q := by rw [← hq]; exact IntWalk.i64_in _ (by omega)
    have hg1 := hg m1
    have hg2b := hg m2
    have hw1 : IntKind.i64.wrap (g m1 - q) = g m1 - q := IntWalk.i64_in _ (by omega)
    obtain ⟨gA, hgA⟩ : ∃ gA : Int → Int, gA = fun t => if t = m1 then g m1 - q else g t := ⟨_, rfl⟩
    have HA2 : Hid (gA m2 = g m2) := Lib.hid (by rw [hgA]; exact if_neg (fun e => hmk.2.2.2 e.symm))
    have hab2 : -1000000000000000000 ≤ gA m2 ∧ gA m2 ≤ 1000000000000000000 := by rw [HA2.out]; exact hg2b
    have hw2 : IntKind.i64.wrap (gA m2 + q) = gA m2 + q := IntWalk.i64_in _ (by omega)
    have hw3 : IntKind.i64.wrap (el + mn) = el + mn := IntWalk.i64_in _ (by omega)
    have HGA := Lib.hid hgA
    have HQ := Lib.hid hq
    have HKR := Lib.hid HI1.out.kr
    have q0 := obj_cell HI1.out.q 0
    simp at q0
    clear hgA hq
    go_upto_region 4 with (first
      | (at_lookup; refine wpList_look_Z rfl _ _ rfl _ _ _ _ rfl HI1.out.z m1 rfl (by omega) (by omega) ?_)
      | (at_mapUpdate; refine wpList_store_Z rfl _ _ _ rfl _ _ _ _ rfl HI1.out.z (by unfold maxLen; omega) m1 (g m1 - q) rfl rfl (by omega) (by omega) (by omega) (by omega) ?_; intro w4 hm4 hgr4))
    have HM4 : Hid (MapZ w4 bZ 501 gA (fun t => decide (t = m1) || K t)) := Lib.hid (by rw [HGA.out]; exact hm4)
    have hq4 := (hgr4.block bQ (by have := HB1.out.size; omega) (fun e => by injection e with e; exact n1 e)).trans HI1.out.q
    have hx4 := (hgr4.block bX (obj_lt HXX.out) (fun e => by injection e with e; have := HS.out; omega)).trans HXX.out
    have hb4 := (hgr4.block bW (by have := HB1.out.size; omega) (fun e => by injection e with e; exact n2 e)).trans HI1.out.b
    have HQ4 := Lib.hid hq4
    have HX4 := Lib.hid hx4
    have HW4 := Lib.hid hb4
    have HG4 : Hid (w.grownBy w4 (some bZ)) := Lib.hid ((grownBy_below HB1.out).trans hgr4)
    have q4 := obj_cell hq4 0
    have y1 := obj_cell hx4 1
    have y2 := obj_cell hx4 2
    have y3 := obj_cell hx4 3
    simp at q4 y1 y2 y3
    clear hm4 hgr4 hq4 hx4 hb4 q0 x1 x2 x3
    go_upto_region 5 with (first
      | (at_lookup; refine wpList_look_Z rfl _ _ rfl _ _ _ _ rfl HM4.out m2 rfl (by omega) (by omega) ?_)
      | (at_mapUpdate; refine wpList_store_Z rfl _ _ _ rfl _ _ _ _ rfl HM4.out (by unfold maxLen; omega) m2 (gA m2 + q) rfl rfl (by omega) (by omega) (by omega) (by omega) ?_; intro w5 hm5 hgr5))
    have HKN : Hid (∀ x, (decide (x = m2) || (decide (x = m1) || K x)) = true → 100 ≤ x ∧ x ≤ 599) := Lib.hid fun x hx => by
      simp only [Bool.or_eq_true, decide_eq_true_eq] at hx
      rcases hx with rfl | rfl | hx
      · exact hmk.2.2.1
      · exact hmk.2.1
      · exact HKR.out x hx
    have HM5 : Hid (MapZ w5 bZ 500 g2 (fun x => decide (x = m2) || (decide (x = m1) || K x))) := Lib.hid (by
      refine MapZ.small (n := 502) ?_ HKN.out
      refine hm5.congr (fun t => ?_) (fun t => rfl)
      rw [HG2.out, HA2.out, HGA.out, HQ.out]
      have hne := hmk.2.2.2
      by_cases e2 : t = m2
      · subst e2
        have e1 : ¬ t = m1 := fun e => hne e.symm
        rw [if_pos rfl, if_neg e1, if_pos rfl]
        omega
      · rw [if_neg e2]
        simp only
        by_cases e1 : t = m1
        · subst e1
          rw [if_pos rfl, if_pos rfl, if_neg e2]
          omega
        · rw [if_neg e1, if_neg e1, if_neg e2]
          omega)
    have hq5 := (hgr5.block bQ (obj_lt HQ4.out) (fun e => by injection e with e; exact n1 e)).trans HQ4.out
    have hb5 := (hgr5.block bW (obj_lt HW4.out) (fun e => by injection e with e; exact n2 e)).trans HW4.out
    have HQ5 := Lib.hid hq5
    have HW5 := Lib.hid hb5
    have HG5 : Hid (w.grownBy w5 (some bZ)) := Lib.hid (HG4.out.trans hgr5)
    have z1 := obj_cell hb5 1
    have zf1 := obj_free hb5 1
    simp at z1
    clear hm5 hgr5 hq5 hb5 q4 y1 y2 y3
    have hset := obj_set HW5.out 1 (.int .i64 (el + mn))
    simp only [List.setIfInBounds_toArray, List.set_cons_succ, List.set_cons_zero] at hset
    have hgs : w5.grownBy (w5.setCell ⟨bW, 1, none⟩ (.int .i64 (el + mn))) (some bW) := setCell_grown _ _
    have HEND : Hid (∃ K' M, WI bQ bZ bW g2 K' (el + mn) vd (w5.setCell ⟨bW, 1, none⟩ (.int .i64 (el + mn))) ∧ w.grownBy M (some bZ) ∧ M.grownBy (w5.setCell ⟨bW, 1, none⟩ (.int .i64 (el + mn))) (some bW)) := Lib.hid ⟨_, w5, ⟨(hgs.block bQ (obj_lt HQ5.out) (fun e => by injection e with e; exact n3 e)).trans HQ5.out, HM5.out.kept hgs (fun e => by injection e with e; exact n2 e.symm), HKN.out, hset⟩, HG5.out, hgs⟩
    clear hset hgs
    go_wp2
    go_end0
    obtain ⟨K', M, h1, h2, h3⟩ := HEND.out
    first
      | exact ⟨rfl, K', M, h1, h2, h3⟩
      | exact ⟨rfl, ⟨K', h1⟩, M, h2, h3⟩
  · rw [if_neg hc] at hmn
    subst hmn
    have HEND : Hid (∃ K' M, WI bQ bZ bW g2 K' (el + 0) vd w1 ∧ w.grownBy M (some bZ) ∧ M.grownBy w1 (some bW)) := Lib.hid ⟨K, w1, ⟨HI1.out.q, HI1.out.z.congr (fun t => by rw [HG2.out]; simp) (fun _ => rfl), HI1.out.kr, by rw [Int.add_zero]; exact HI1.out.b⟩, grownBy_below HB1.out, grownBy_refl _ _⟩
    by_cases hc1 : 0 < own
    · have hc2 : ¬ 0 < oth := fun q => hc ⟨hc1, q⟩
      clear hc
      go_wp2
      go_end0
      obtain ⟨K', M, h1, h2, h3⟩ := HEND.out
      simp only [Int.add_zero] at h1 ⊢
      first
        | exact ⟨by first | rfl | trivial, K', M, h1, h2, h3⟩
        | exact ⟨by first | rfl | trivial, ⟨K', h1⟩, M, h2, h3⟩
    · clear hc
      go_wp2
      go_end0
      obtain ⟨K', M, h1, h2, h3⟩ := HEND.out
      simp only [Int.add_zero] at h1 ⊢
      first
        | exact ⟨by first | rfl | trivial, K', M, h1, h2, h3⟩
        | exact ⟨by first | rfl | trivial, ⟨K', h1⟩, M, h2, h3⟩

end Go.Proofs.Ytdbpbmejgdbppaa
