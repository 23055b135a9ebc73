/- The source's flows: valid ones of 30 days; the statements' example. -/
import Derived.Test.YthajkhonapjihaaFcF
import Derived.Test.YthajkhonapjihaaSrcI
import Derived.Test.YthajkhonapjihaaPut4
import Derived.Test.YthajkhonapjihaaPut2
set_option linter.unusedSimpArgs false
set_option linter.unusedVariables false
namespace Go.Proofs.Ythajkhonapjihaa
open Go.RowKit Go.Lib Go.Proofs

/-- What Flow hands back. -/
def FlowPost (tb : Nat) (w : World) (e : Ending) (w' : World) : Prop := ∃ f : Flw, e = .returned (.agg (flowC f).toArray) ∧ FlwOk 29 f ∧ SrcAt w' tb ∧ w.grownBy w' (some tb)
theorem flw_ok_mk {D d a k r : Int} (h1 : 0 ≤ d) (h2 : d ≤ D) (h3 : a ≠ 0) (h4 : -1000 ≤ a) (h5 : a ≤ 1000) (h6 : 1 ≤ k) (h7 : k ≤ 5) (h8 : 0 ≤ r) (h9 : r ≤ 1000) : FlwOk D ⟨d, a, k, r⟩ := ⟨h1, h2, h3, h4, h5, h6, h7, h8, h9⟩

set_option maxHeartbeats 2000000 in
theorem sFlow_any (tb : Nat) (w : World) (ht : SrcAt w tb) : Calls Try.prog 17 #[.pointer (some ⟨tb, 0, none⟩)] w (FlowPost tb w) := by
  have HI0 := Lib.hid ((si_start ht).alloc (.cells #[.int .i64 0, .int .i64 0, .int .i64 0, .int .i64 0] 38))
  have HR0 := Lib.hid (heap_alloc_new w (.cells #[.int .i64 0, .int .i64 0, .int .i64 0, .int .i64 0] 38))
  have HNE : Hid (w.heap.size ≠ tb) := Lib.hid (by have := ht.lt; omega)
  clear ht
  go_enter Try.func17, Try.ntmps17
  go_wp2_with fail
  with_reducible refine Calls.mono (n_in HI0.out 30 (by omega) (by omega)) ?_
  rintro e w1 ⟨x1, rfl, p1, q1, hi1, hg1⟩
  have HI1 := Lib.hid hi1
  have HR1 := Lib.hid (obj_turn HR0.out hg1 HNE.out)
  clear hi1 hg1 HI0 HR0
  go_wp2_with fail
  with_reducible refine Calls.mono (pick_in _ [-500, -10, -1, 1, 10, 700] _ _ rfl HI1.out (by simp) (by simp) _ rfl _ (by simp)) ?_
  rintro e w2 ⟨x2, rfl, hx2, hi2, hg2⟩
  have HI2 := Lib.hid hi2
  have HR2 := Lib.hid (obj_turn (obj_below HR1.out (below_alloc _ _)) hg2 HNE.out)
  have hx20 : x2 ≠ 0 ∧ -1000 ≤ x2 ∧ x2 ≤ 1000 := by simp at hx2; omega
  clear hi2 hg2 HI1 HR1 hx2
  go_wp2_with fail
  with_reducible refine Calls.mono (range_in HI2.out 1 5 (by omega) (by omega) (by omega)) ?_
  rintro e w3 ⟨x3, rfl, p3, q3, hi3, hg3⟩
  have HI3 := Lib.hid hi3
  have HR3 := Lib.hid (obj_turn HR2.out hg3 HNE.out)
  clear hi3 hg3 HI2 HR2
  go_wp2_with fail
  with_reducible refine Calls.mono (n_in HI3.out 4 (by omega) (by omega)) ?_
  rintro e w4 ⟨x4, rfl, p4, q4, hi4, hg4⟩
  have HI4 := Lib.hid hi4
  have HR4 := Lib.hid (obj_turn HR3.out hg4 HNE.out)
  clear hi4 hg4 HI3 HR3
  have hr := HR4.out
  have g0 := obj_free hr 0
  have g1 := obj_free hr 1
  have g2 := obj_free hr 2
  have g3 := obj_free hr 3
  have d0 := obj_cell hr 0
  have d1 := obj_cell hr 1
  have d2 := obj_cell hr 2
  have d3 := obj_cell hr 3
  simp at d0 d1 d2 d3
  clear hr
  go_wp2
  show bodyPost Try.prog Try.f17 _ Exit.ret _ (put4 w4 w.heap.size (.int .i64 x1) (.int .i64 x2) (.int .i64 x3) (.int .i64 x4))
  have hf := HI4.out.put4 (b := w.heap.size) (Nat.le_refl _) (.int .i64 x1) (.int .i64 x2) (.int .i64 x3) (.int .i64 x4)
  refine ret4 HR4.out rfl _ _ _ _ (fun F hF => ?_) rfl ⟨⟨x1, x2, x3, x4⟩, rfl, flw_ok_mk p1 (by omega) hx20.1 hx20.2.1 hx20.2.2 p3 q3 p4 (by omega), hf.src, hf.old⟩
  have q0 := obj_cell hF 0
  have q1 := obj_cell hF 1
  have q2 := obj_cell hF 2
  have q3 := obj_cell hF 3
  simp [results, Try.results17, go_sem, q0, q1, q2, q3]
  rfl

/-- What Flows hands back. -/
def FlowsPost (tb m : Nat) (w : World) (e : Ending) (w' : World) : Prop := ∃ (v : Value) (l : List Flw), e = .returned v ∧ l.length ≤ m ∧ FlwsOk 29 l ∧ w'.ownsRow w.heap.size 38 4 v l.length (cellsL flowC l) ∧ SI w tb w'

set_option maxHeartbeats 4000000 in
theorem sFlows_any (tb m : Nat) (w : World) (ht : SrcAt w tb) (hm : m ≤ 1000) : Calls Try.prog 8 #[.pointer (some ⟨tb, 0, none⟩), .int .i64 (m : Int)] w (FlowsPost tb m w) := by
  obtain ⟨i0, hi0, hz0, hz1, hz2⟩ := info_parts Try.infoFlow
  have HS := Lib.hid (si_start ht)
  have HN := Lib.hid (fun W (h : SI w tb W) => n_in h ((m : Int) + 1) (by omega) (by omega))
  have HF := Lib.hid (fun W (h : SI w tb W) => sFlow_any tb W h.src)
  clear ht
  go_enter Try.func8, Try.ntmps8
  go_wp2_with fail
  with_reducible refine (HN.out _ HS.out).mono ?_
  rintro e w1 ⟨k, rfl, k0, k1, hi1, _⟩
  have HI1 := Lib.hid hi1
  obtain ⟨k, rfl⟩ : ∃ n : Nat, k = n := ⟨k.toNat, by omega⟩
  clear hi1 HS HN
  go_wp2
  go_loopw [5, 6] (fun v kv wr => ∃ (l : List Flw) (j : Nat), kv = .int .i64 j ∧ l.length + j ≤ m ∧ FlwsOk 29 l ∧ wr.ownsRow w.heap.size 38 4 v l.length (cellsL flowC l) ∧ SI w tb wr) (fun _ kv _ => (RowKit.intOf kv).toNat)
  case atStart => exact ⟨[], k, rfl, by simp; omega, fun _ h => by simp at h, World.ownsRow_nil _ _ _ _, HI1.out⟩
  case round =>
    obtain ⟨l, j, rfl, hlj, hok, hown, hsi⟩ := hrel
    have HO := Lib.hid hok
    by_cases hj : 0 < j
    · have HSI := Lib.hid hsi
      have hj0 : (0 : Int) < (j : Int) := by omega
      clear hok hsi hj
      go_wp2_with fail
      with_reducible refine (HF.out _ HSI.out).mono ?_
      rintro e w2 ⟨f, rfl, hfo, ht2, hg2⟩
      have hown2 := hown.kept hg2 (ownBlock_ne hown tb HSI.out.lt)
      have HI2 := Lib.hid (HSI.out.turn ht2 hg2)
      have hle2 := HI2.out.old.size
      have HFO := Lib.hid hfo
      have hnext : Hid (FlwsOk 29 (l ++ [f])) := Lib.hid fun x hx => by
        rcases List.mem_append.1 hx with hx | hx
        · exact HO.out x hx
        · rw [List.mem_singleton] at hx; rw [hx]; exact HFO.out
      have HSN := Lib.hid (cellsL_snoc flowC l f)
      obtain ⟨fd, fa, fk, fr⟩ := f
      simp only [flowC] at HSN ⊢
      clear hown ht2 hg2 HSI hfo
      go_wp2_with (at_builtin; refine wpList_append_own _ rfl _ _ 25 rfl w.heap.size 38 i0 (.agg #[.int .i64 0, .int .i64 0, .int .i64 0, .int .i64 0]) 4 32 Try.underlying25 hi0 hz0 hz1 hz2 rfl (by decide) _ _ _ rfl (hown2.alloc _) ⟨w2.heap.size, 0, none⟩ 1 1 (flowC ⟨fd, fa, fk, fr⟩) rfl rfl (new_cells _ _ _ _ rfl) (flowF.one _) (by unfold maxLen; omega) (by omega) (by simp; omega) ?_; intro v' w4 hown4 hgr4 _)
      go_roundw
      case rel =>
        refine ⟨l ++ [⟨fd, fa, fk, fr⟩], j - 1, by (congr 1; omega), by simp; omega, hnext.out, ?_, (HI2.out.alloc _).grown hgr4 fun r hr => ownBlock_le hown2 r hr⟩
        rw [← HSN.out]
        simpa [flowC] using hown4
      case measure => simp [RowKit.intOf]; omega
    · obtain rfl : j = 0 := by omega
      clear hok hj
      go_wp2
      go_ret
      exact ⟨_, l, rfl, by omega, HO.out, hown, hsi⟩

end Go.Proofs.Ythajkhonapjihaa
