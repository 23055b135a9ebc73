/- coupon.Until's payments: a closure that appends a flow to a list in a box. -/
import Derived.Test.YtblidmkkbcobgaaMCfS
import Derived.Test.YtblidmkkbcobgaaMFlowM
import Derived.Test.YtblidmkkbcobgaaMG8
set_option linter.unusedSimpArgs false
set_option linter.unusedVariables false
set_option linter.unusedSimpArgs false
set_option linter.unusedVariables false
namespace Go.Proofs.Ytblidmkkbcobgaa
open Go.RowKit Go.Lib Go.Proofs

/-- A payment of the debt; nothing where there is no amount. -/
def payM (id day amt : Int) : List Flw := if amt = 0 then [] else [⟨nextI day, -amt, 4, id⟩]
/-- A list of flows in a box. -/
structure PayAt (base bL : Nat) (l : List Flw) (v : Value) (W : World) : Prop where
  box : W.heap[bL]? = some (.cells #[v] 66 (0, 0))
  own : W.ownsRow base 70 4 v l.length (cellsL flowC l)
theorem next_day {d : Int} (h0 : 0 ≤ d) (h1 : d ≤ 35990) (w : World) : Calls Try.prog 70 #[.int .i64 d] w fun e w' => e = .returned (.tuple #[.int .i64 (nextI d), .int .i64 0]) ∧ w = w' := by
  have h := cNext_any d w
  have hd : dayB d = true := dayB_true.2 ⟨h0, by omega⟩
  obtain ⟨f1, f2, -, -⟩ := nextI_facts d h0
  have hn : dayB (nextI d) = true := dayB_true.2 ⟨by omega, by omega⟩
  have hc : checkedI (nextI d) = (nextI d, 0) := by unfold checkedI; rw [if_pos hn]
  rw [if_pos hd, if_pos hd, hc] at h
  exact h

set_option maxRecDepth 100000 in
set_option maxHeartbeats 4000000 in
theorem cpUntilP_ok (s : Sec) (base bF bT bL : Nat) (l : List Flw) (v : Value) (day amt : Int) (w : World) (hF : w.heap[bF]? = some (.cells #[.int .i64 0] 3 (0, 0))) (hT : w.heap[bT]? = some (.cells #[.int .i64 35990] 3 (0, 0))) (hL : PayAt base bL l v w) (hbL : bL < base) (hb0 : base ≤ w.heap.size) (hlen : l.length ≤ 100000) (hd : 0 ≤ day ∧ day ≤ 35990) (ha : 0 ≤ amt ∧ amt ≤ 20000000000000) :
    Calls Try.prog 69 (#[.agg s.cells.toArray, .int .i64 day, .int .i64 amt] ++ #[.pointer (some ⟨bF, 0, none⟩), .pointer (some ⟨bT, 0, none⟩), .pointer (some ⟨bL, 0, none⟩)]) w fun e w' => e = .returned (.tuple #[]) ∧ ∃ v' M, PayAt base bL (l ++ payM s.id day amt) v' w' ∧ w.grownBy M v.ownBlock ∧ M.grownBy w' (some bL) := by
  obtain ⟨i0, hi0, hz0, hz1, hz2⟩ := info_parts Try.infoFlow
  obtain ⟨t0, t1, t2, t3, t4, t5, t6⟩ := s
  simp only [Sec.cells]
  obtain ⟨ao, cap, hv, hcap, -⟩ := owns_gen hL.own
  have HB1 := Lib.hid (below_alloc w (.cells #[.int .i64 t0, .int .i64 t1, .int .i64 t2, .int .i64 t3, .int .i64 t4, .int .i64 t5, .bool t6] 55))
  have hx := heap_alloc_new w (.cells #[.int .i64 t0, .int .i64 t1, .int .i64 t2, .int .i64 t3, .int .i64 t4, .int .i64 t5, .bool t6] 55)
  have hbx := hL.box
  have hLt := obj_lt hbx
  obtain ⟨bX, hbX⟩ : ∃ b, b = w.heap.size := ⟨_, rfl⟩
  obtain ⟨w1, hw1⟩ : ∃ W, W = w.alloc (.cells #[.int .i64 t0, .int .i64 t1, .int .i64 t2, .int .i64 t3, .int .i64 t4, .int .i64 t5, .bool t6] 55) := ⟨_, rfl⟩
  rw [← hw1] at HB1 hx
  rw [← hbX] at hx
  have HL1 : Hid (PayAt base bL l v w1) := Lib.hid ⟨obj_below hbx HB1.out, ownsRow_below hL.own HB1.out⟩
  have F1 := obj_cell (obj_below hF HB1.out) 0
  have T1 := obj_cell (obj_below hT HB1.out) 0
  simp at F1 T1
  have HND := Lib.hid (fun W => next_day hd.1 hd.2 W)
  obtain ⟨nd, hnd⟩ : ∃ q, q = nextI day := ⟨_, rfl⟩
  have HPM : Hid (amt ≠ 0 → payM t0 day amt = [⟨nd, -amt, 4, t0⟩]) := Lib.hid fun h => by unfold payM; rw [if_neg h, hnd]
  have HPZ : Hid (amt = 0 → payM t0 day amt = []) := Lib.hid fun h => by unfold payM; rw [if_pos h]
  rw [← hnd] at HND
  have hd0 : ¬ day < 0 := by omega
  have hd1 : ¬ 35990 < day := by omega
  have x0 := obj_cell hx 0
  simp at x0
  have hwn : IntKind.i64.wrap (-amt) = -amt := IntWalk.i64_in _ (by omega)
  subst hv
  clear hF hT hL hx hbx hnd
  go_enter Try.func69, Try.ntmps69
  go_upto_region 1 with fail
  rw [← hw1, ← hbX]
  clear hw1 hbX
  by_cases hz : amt = 0
  · have hzb : (amt == 0) = true := by rw [hz]; rfl
    have HPE : Hid (∃ v' M, PayAt base bL (l ++ payM t0 day amt) v' w1 ∧ w.grownBy M (Value.slice ao l.length cap).ownBlock ∧ M.grownBy w1 (some bL)) := Lib.hid ⟨_, w1, by rw [HPZ.out hz, List.append_nil]; exact HL1.out, grownBy_below HB1.out, grownBy_below (Below.refl _ _)⟩
    clear hz HPM HPZ HND
    go_wp2
    refine bodyPost_ret (results_none rfl _ _ _) rfl ?_
    obtain ⟨v', M, h1, h2, h3⟩ := HPE.out
    first
      | exact ⟨rfl, v', M, h1, h2, h3⟩
      | exact ⟨rfl, ⟨v', h1⟩, M, h2, h3⟩
  · have hzb : (amt == 0) = false := beq_eq_false_iff_ne.2 hz
    have HPM2 := Lib.hid (HPM.out hz)
    clear HPM HPZ hz
    go_wp2_with fail
    refine (HND.out _).mono ?_
    rintro e w' ⟨rfl, rfl⟩
    have hl1 := HL1.out
    have u0 := obj_cell hl1.box 0
    have uf0 := obj_free hl1.box 0
    simp at u0
    have hown := hl1.own
    have hLt1 := obj_lt hl1.box
    have hsz : base ≤ w1.heap.size := Nat.le_trans hb0 HB1.out.size
    clear HND F1 T1 hl1
    go_wp2_with (at_builtin; refine wpList_append_own _ rfl _ _ 66 rfl base 70 i0 (.agg #[.int .i64 0, .int .i64 0, .int .i64 0, .int .i64 0]) 4 32 Try.underlying66 hi0 hz0 hz1 hz2 rfl (by decide) _ _ _ rfl (hown.alloc _) ⟨w1.heap.size, 0, none⟩ 1 1 (flowC ⟨nd, -amt, 4, t0⟩) rfl rfl (new_cells _ _ _ _ rfl) (flowF.one _) (by unfold maxLen; omega) (by omega) (by simp; omega) ?_; intro v' w4 hown4 hgr4 _; (have HO4 := Lib.hid hown4); (have hbx4 := (hgr4.block bL (by simp; omega) (fun e => by have := ownBlock_le hown _ e.symm; omega)).trans (obj_below HL1.out.box (below_alloc w1 _))); (have u4 := obj_cell hbx4 0); (have uf4 := obj_free hbx4 0); (simp at u4); (obtain ⟨ao', cap', rfl, hcap', -⟩ := owns_gen hown4); (have HG4 := Lib.hid hgr4); (have HX4 := Lib.hid hbx4); clear hown4 hgr4 hbx4 u0 uf0)
    have hsn := cellsL_snoc flowC l ⟨nd, -amt, 4, t0⟩
    have HEND : Hid (∃ v' M, PayAt base bL (l ++ payM t0 day amt) v' (w4.setCell ⟨bL, 0, none⟩ (.slice ao' (l.length + 1) cap')) ∧ w.grownBy M (Value.slice ao l.length cap).ownBlock ∧ M.grownBy (w4.setCell ⟨bL, 0, none⟩ (.slice ao' (l.length + 1) cap')) (some bL)) := Lib.hid (by
      refine ⟨.slice ao' (l.length + 1) cap', w4, ⟨?_, ?_⟩, grown_step (grownBy_below (HB1.out.trans ((below_alloc w1 _).mono HB1.out.size))) HG4.out, setCell_grown _ _⟩
      · simpa using obj_set HX4.out 0 (.slice ao' (l.length + 1) cap')
      · rw [HPM2.out]
        have h := HO4.out.kept (setCell_grown 0 (.slice ao' (l.length + 1) cap')) (ownBlock_ne HO4.out bL hbL)
        rw [hsn] at h
        simpa using h)
    go_end0
    obtain ⟨v', M, h1, h2, h3⟩ := HEND.out
    first
      | exact ⟨rfl, v', M, h1, h2, h3⟩
      | exact ⟨rfl, ⟨v', h1⟩, M, h2, h3⟩

end Go.Proofs.Ytblidmkkbcobgaa
