/- register.Transfer, Issue, Redeem. -/
import Derived.Test.YtnfllgeneehjjaaMRhQ
set_option linter.unusedSimpArgs false
set_option linter.unusedVariables false
set_option linter.unusedSimpArgs false
set_option linter.unusedVariables false
namespace Go.Proofs.Ytnfllgeneehjjaa
open Go.RowKit Go.Lib Go.Proofs

/-- A list of structs that begin with a number stands through a store into a register's place. -/
theorem ListAt.keepR {α : Type} {f : α → List Value} {m : Nat} (hf : Fields f m) (hi : ∀ x, ∃ i, (f x)[0]? = some (.int .i64 i)) {w w' : World} {v : Value} {l : List α} (h : ListAt f m w v l) {b : Nat} {a0 a1 a2 : Option Addr} {n0 n1 n2 c0 c1 c2 : Nat} {T : TypeId}
    (hb : w.heap[b]? = some (.cells #[.slice a0 n0 c0, .slice a1 n1 c1, .slice a2 n2 c2] T (0, 0))) (hg : w.grownBy w' (some b)) : ListAt f m w' v l := by
  obtain ⟨h1, ao, cap, rfl, hc, h3⟩ := h
  refine ⟨h1, ao, cap, rfl, hc, ?_⟩
  by_cases h0 : l.length = 0
  · exact Or.inl h0
  · rcases h3 with h3 | ⟨g, o, rfl, hlt, hcell⟩
    · exact absurd h3 h0
    · refine Or.inr ⟨g, o, rfl, Nat.lt_of_lt_of_le hlt hg.size, fun j hj => ?_⟩
      refine (World.cell?_of_block (hg.block g hlt fun e => ?_)).trans (hcell j hj)
      injection e with e
      subst e
      have hm := hf.pos
      have h5 := hcell 0 (Nat.mul_pos (by omega) hm)
      have h6 := cellsL_get hf l 0 0 (by omega) hm
      obtain ⟨i, h7⟩ := hi l[0]
      rw [Nat.zero_mul, Nat.zero_add, h7] at h6
      rw [h6, Nat.add_zero, obj_cell hb] at h5
      match o, h5 with
      | 0, h5 => simp at h5
      | 1, h5 => simp at h5
      | 2, h5 => simp at h5
      | o + 3, h5 => simp at h5
theorem RegAt.keepR {w w' : World} {x y z : Value} {r : Reg} (h : RegAt w x y z r) {b : Nat} {a0 a1 a2 : Option Addr} {n0 n1 n2 c0 c1 c2 : Nat} {T : TypeId}
    (hb : w.heap[b]? = some (.cells #[.slice a0 n0 c0, .slice a1 n1 c1, .slice a2 n2 c2] T (0, 0))) (hg : w.grownBy w' (some b)) : RegAt w' x y z r :=
  ⟨h.secs.keepR secF (fun s => ⟨s.id, rfl⟩) hb hg, h.hs.keepR hldF (fun s => ⟨s.sec, rfl⟩) hb hg, h.ms.keepR mvF (fun s => ⟨s.num, rfl⟩) hb hg⟩

set_option maxHeartbeats 4000000 in
theorem rxTransfer_any (r : Reg) (x y z : Value) (day id fr tt am : Int) (w : World) (h : RegS r) (hr : RegAt w x y z r) :
    Calls Try.prog 20 #[.agg #[x, y, z], .int .i64 day, .int .i64 id, .int .i64 fr, .int .i64 tt, .int .i64 am] w fun e w' => ∃ x' y' z', e = .returned (.tuple #[.agg #[x', y', z'], .int .i64 (addE r ⟨0, day, 2, id, fr, tt, am⟩)]) ∧ RegAt w' x' y' z' (addV r ⟨0, day, 2, id, fr, tt, am⟩) ∧ Below w.heap.size w w' := by
  obtain ⟨W1, hW1⟩ : ∃ W1, W1 = (w.alloc (.cells #[x, y, z] 29)).alloc (.cells #[.slice none 0 0, .slice none 0 0, .slice none 0 0] 29) := ⟨_, rfl⟩
  have HB : Hid (Below w.heap.size w W1) := Lib.hid (by rw [hW1]; exact below2 w _ _)
  have hA : W1.heap[w.heap.size]? = some (.cells #[x, y, z] 29 (0, 0)) := by rw [hW1]; exact alloc1_at w _ _
  have HO : Hid (W1.heap[w.heap.size + 1]? = some (.cells #[.slice none 0 0, .slice none 0 0, .slice none 0 0] 29 (0, 0))) := Lib.hid (by rw [hW1]; exact alloc2_at w _ _)
  have H := Lib.hid (rxadd_any r ⟨0, day, 2, id, fr, tt, am⟩ x y z W1 h (hr.below HB.out))
  simp only [mvC] at H
  obtain ⟨e1, he1⟩ : ∃ e1, e1 = addE r ⟨0, day, 2, id, fr, tt, am⟩ := ⟨_, rfl⟩
  obtain ⟨v1, hv1⟩ : ∃ v1, v1 = addV r ⟨0, day, 2, id, fr, tt, am⟩ := ⟨_, rfl⟩
  rw [← he1, ← hv1] at H ⊢
  have a0 := obj_cell hA 0
  have a1 := obj_cell hA 1
  have a2 := obj_cell hA 2
  simp at a0 a1 a2
  clear h hr hA he1 hv1
  go_enter Try.func20, Try.ntmps20
  go_upto_region 1 with fail
  rw [← hW1]
  clear hW1
  go_wp2_with fail
  with_reducible refine Calls.mono H.out ?_
  rintro e x7 ⟨x', y', z', rfl, hr7, b7⟩
  obtain ⟨aS, cS, hx', -, -⟩ := hr7.secs.shape secF
  obtain ⟨aH, cH, hy', -, -⟩ := hr7.hs.shape hldF
  obtain ⟨aM, cM, hz', -, -⟩ := hr7.ms.shape mvF
  generalize v1.secs.length = nS at hx'
  generalize v1.hs.length = nH at hy'
  generalize v1.ms.length = nM at hz'
  subst hx' hy' hz'
  have HJ : Hid (Below w.heap.size w x7) := Lib.hid (HB.out.trans (b7.mono HB.out.size))
  have HO7 := Lib.hid (obj_below HO.out b7)
  have hO7 := HO7.out
  have o0 := obj_cell hO7 0
  have o1 := obj_cell hO7 1
  have o2 := obj_cell hO7 2
  have f0 := obj_free hO7 0
  have f1 := obj_free hO7 1
  have f2 := obj_free hO7 2
  simp at o0 o1 o2
  have HFIN := Lib.hid (hr7.keepR hO7 (put3_grown x7 (w.heap.size + 1) (.slice aS nS cS) (.slice aH nH cH) (.slice aM nM cM)))
  clear hO7 hr7 b7 a0 a1 a2 H
  go_wp2
  refine ret3 HO7.out rfl _ _ _ (fun F hF => ?_) rfl ⟨_, _, _, rfl, HFIN.out, put3_below HJ.out (by omega) _ _ _⟩
  have q0 := obj_cell hF 0
  have q1 := obj_cell hF 1
  have q2 := obj_cell hF 2
  simp [results, Try.results20, go_sem, q0, q1, q2]

set_option maxHeartbeats 4000000 in
theorem rxIssue_any (r : Reg) (x y z : Value) (day id tt am : Int) (w : World) (h : RegS r) (hr : RegAt w x y z r) :
    Calls Try.prog 36 #[.agg #[x, y, z], .int .i64 day, .int .i64 id, .int .i64 tt, .int .i64 am] w fun e w' => ∃ x' y' z', e = .returned (.tuple #[.agg #[x', y', z'], .int .i64 (addE r ⟨0, day, 1, id, 0, tt, am⟩)]) ∧ RegAt w' x' y' z' (addV r ⟨0, day, 1, id, 0, tt, am⟩) ∧ Below w.heap.size w w' := by
  obtain ⟨W1, hW1⟩ : ∃ W1, W1 = (w.alloc (.cells #[x, y, z] 29)).alloc (.cells #[.slice none 0 0, .slice none 0 0, .slice none 0 0] 29) := ⟨_, rfl⟩
  have HB : Hid (Below w.heap.size w W1) := Lib.hid (by rw [hW1]; exact below2 w _ _)
  have hA : W1.heap[w.heap.size]? = some (.cells #[x, y, z] 29 (0, 0)) := by rw [hW1]; exact alloc1_at w _ _
  have HO : Hid (W1.heap[w.heap.size + 1]? = some (.cells #[.slice none 0 0, .slice none 0 0, .slice none 0 0] 29 (0, 0))) := Lib.hid (by rw [hW1]; exact alloc2_at w _ _)
  have H := Lib.hid (rxadd_any r ⟨0, day, 1, id, 0, tt, am⟩ x y z W1 h (hr.below HB.out))
  simp only [mvC] at H
  obtain ⟨e1, he1⟩ : ∃ e1, e1 = addE r ⟨0, day, 1, id, 0, tt, am⟩ := ⟨_, rfl⟩
  obtain ⟨v1, hv1⟩ : ∃ v1, v1 = addV r ⟨0, day, 1, id, 0, tt, am⟩ := ⟨_, rfl⟩
  rw [← he1, ← hv1] at H ⊢
  have a0 := obj_cell hA 0
  have a1 := obj_cell hA 1
  have a2 := obj_cell hA 2
  simp at a0 a1 a2
  clear h hr hA he1 hv1
  go_enter Try.func36, Try.ntmps36
  go_upto_region 1 with fail
  rw [← hW1]
  clear hW1
  go_wp2_with fail
  with_reducible refine Calls.mono H.out ?_
  rintro e x7 ⟨x', y', z', rfl, hr7, b7⟩
  obtain ⟨aS, cS, hx', -, -⟩ := hr7.secs.shape secF
  obtain ⟨aH, cH, hy', -, -⟩ := hr7.hs.shape hldF
  obtain ⟨aM, cM, hz', -, -⟩ := hr7.ms.shape mvF
  generalize v1.secs.length = nS at hx'
  generalize v1.hs.length = nH at hy'
  generalize v1.ms.length = nM at hz'
  subst hx' hy' hz'
  have HJ : Hid (Below w.heap.size w x7) := Lib.hid (HB.out.trans (b7.mono HB.out.size))
  have HO7 := Lib.hid (obj_below HO.out b7)
  have hO7 := HO7.out
  have o0 := obj_cell hO7 0
  have o1 := obj_cell hO7 1
  have o2 := obj_cell hO7 2
  have f0 := obj_free hO7 0
  have f1 := obj_free hO7 1
  have f2 := obj_free hO7 2
  simp at o0 o1 o2
  have HFIN := Lib.hid (hr7.keepR hO7 (put3_grown x7 (w.heap.size + 1) (.slice aS nS cS) (.slice aH nH cH) (.slice aM nM cM)))
  clear hO7 hr7 b7 a0 a1 a2 H
  go_wp2
  refine ret3 HO7.out rfl _ _ _ (fun F hF => ?_) rfl ⟨_, _, _, rfl, HFIN.out, put3_below HJ.out (by omega) _ _ _⟩
  have q0 := obj_cell hF 0
  have q1 := obj_cell hF 1
  have q2 := obj_cell hF 2
  simp [results, Try.results36, go_sem, q0, q1, q2]

set_option maxHeartbeats 4000000 in
theorem rxRedeem_any (r : Reg) (x y z : Value) (day id fr am : Int) (w : World) (h : RegS r) (hr : RegAt w x y z r) :
    Calls Try.prog 39 #[.agg #[x, y, z], .int .i64 day, .int .i64 id, .int .i64 fr, .int .i64 am] w fun e w' => ∃ x' y' z', e = .returned (.tuple #[.agg #[x', y', z'], .int .i64 (addE r ⟨0, day, 3, id, fr, 0, am⟩)]) ∧ RegAt w' x' y' z' (addV r ⟨0, day, 3, id, fr, 0, am⟩) ∧ Below w.heap.size w w' := by
  obtain ⟨W1, hW1⟩ : ∃ W1, W1 = (w.alloc (.cells #[x, y, z] 29)).alloc (.cells #[.slice none 0 0, .slice none 0 0, .slice none 0 0] 29) := ⟨_, rfl⟩
  have HB : Hid (Below w.heap.size w W1) := Lib.hid (by rw [hW1]; exact below2 w _ _)
  have hA : W1.heap[w.heap.size]? = some (.cells #[x, y, z] 29 (0, 0)) := by rw [hW1]; exact alloc1_at w _ _
  have HO : Hid (W1.heap[w.heap.size + 1]? = some (.cells #[.slice none 0 0, .slice none 0 0, .slice none 0 0] 29 (0, 0))) := Lib.hid (by rw [hW1]; exact alloc2_at w _ _)
  have H := Lib.hid (rxadd_any r ⟨0, day, 3, id, fr, 0, am⟩ x y z W1 h (hr.below HB.out))
  simp only [mvC] at H
  obtain ⟨e1, he1⟩ : ∃ e1, e1 = addE r ⟨0, day, 3, id, fr, 0, am⟩ := ⟨_, rfl⟩
  obtain ⟨v1, hv1⟩ : ∃ v1, v1 = addV r ⟨0, day, 3, id, fr, 0, am⟩ := ⟨_, rfl⟩
  rw [← he1, ← hv1] at H ⊢
  have a0 := obj_cell hA 0
  have a1 := obj_cell hA 1
  have a2 := obj_cell hA 2
  simp at a0 a1 a2
  clear h hr hA he1 hv1
  go_enter Try.func39, Try.ntmps39
  go_upto_region 1 with fail
  rw [← hW1]
  clear hW1
  go_wp2_with fail
  with_reducible refine Calls.mono H.out ?_
  rintro e x7 ⟨x', y', z', rfl, hr7, b7⟩
  obtain ⟨aS, cS, hx', -, -⟩ := hr7.secs.shape secF
  obtain ⟨aH, cH, hy', -, -⟩ := hr7.hs.shape hldF
  obtain ⟨aM, cM, hz', -, -⟩ := hr7.ms.shape mvF
  generalize v1.secs.length = nS at hx'
  generalize v1.hs.length = nH at hy'
  generalize v1.ms.length = nM at hz'
  subst hx' hy' hz'
  have HJ : Hid (Below w.heap.size w x7) := Lib.hid (HB.out.trans (b7.mono HB.out.size))
  have HO7 := Lib.hid (obj_below HO.out b7)
  have hO7 := HO7.out
  have o0 := obj_cell hO7 0
  have o1 := obj_cell hO7 1
  have o2 := obj_cell hO7 2
  have f0 := obj_free hO7 0
  have f1 := obj_free hO7 1
  have f2 := obj_free hO7 2
  simp at o0 o1 o2
  have HFIN := Lib.hid (hr7.keepR hO7 (put3_grown x7 (w.heap.size + 1) (.slice aS nS cS) (.slice aH nH cH) (.slice aM nM cM)))
  clear hO7 hr7 b7 a0 a1 a2 H
  go_wp2
  refine ret3 HO7.out rfl _ _ _ (fun F hF => ?_) rfl ⟨_, _, _, rfl, HFIN.out, put3_below HJ.out (by omega) _ _ _⟩
  have q0 := obj_cell hF 0
  have q1 := obj_cell hF 1
  have q2 := obj_cell hF 2
  simp [results, Try.results39, go_sem, q0, q1, q2]

end Go.Proofs.Ytnfllgeneehjjaa
