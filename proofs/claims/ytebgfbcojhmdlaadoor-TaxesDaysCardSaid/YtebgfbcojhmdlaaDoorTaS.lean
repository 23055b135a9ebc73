/- The statements' tax, Ints of a list and itself, the source's Tax, the chapter's example. -/
import Derived.Test.YtebgfbcojhmdlaaDoorTaC
import Derived.Test.YtebgfbcojhmdlaaDoorAaS
import Derived.Test.YtebgfbcojhmdlaaDoorPut8
import Derived.Test.YtebgfbcojhmdlaaDoorIntL
set_option linter.unusedSimpArgs false
set_option linter.unusedVariables false
namespace Go.Proofs.YtebgfbcojhmdlaaDoor
open Go.RowKit Go.Lib Go.Proofs

def monT : Tx := ⟨⟨#[49]⟩, 1, 100, 19, 100, 0, 1, 3⟩
theorem monT_ok : TxG monT := ⟨by show 0 < (partsN ⟨#[49]⟩).length ∧ _; rw [parts_one]; decide, by decide, by decide, by decide, by decide, by decide, by decide, by decide⟩
theorem monT_amt : amtT monT = 19 := by decide
theorem monT_days : daysT monT 3 = [0, 30, 60] := by decide
theorem monT_flows : flT monT 3 = [⟨0, 19, 3, 0⟩, ⟨30, 19, 3, 0⟩, ⟨60, 19, 3, 0⟩] := by
  have h : ∀ i, i < 3 → dayT monT i = 30 * (i : Int) := by decide
  simp only [flT, List.range_succ, List.range_zero, List.nil_append, List.map_append, List.map_cons, List.map_nil, List.cons_append, monT_amt]
  rw [h 0 (by decide), h 1 (by decide), h 2 (by decide)]
  rfl

set_option maxRecDepth 100000 in
set_option maxHeartbeats 2000000 in
theorem monthly_ok (w : World) : Calls Tryd.prog 17 #[] w fun e w' => e = .returned (.agg (txC monT).toArray) ∧ Below w.heap.size w w' := by
  obtain ⟨w0, hw0⟩ : ∃ W, W = w.alloc (.cells #[.string ⟨#[]⟩, .int .i64 0, .int .i64 0, .int .i64 0, .int .i64 0, .int .i64 0, .int .i64 0, .int .i64 0] 27) := ⟨_, rfl⟩
  have HB0 : Hid (Below w.heap.size w w0) := Lib.hid (by rw [hw0]; exact below_alloc _ _)
  have HX0 : Hid (w0.heap[w.heap.size]? = some (.cells #[.string ⟨#[]⟩, .int .i64 0, .int .i64 0, .int .i64 0, .int .i64 0, .int .i64 0, .int .i64 0, .int .i64 0] 27 (0, 0))) := Lib.hid (by rw [hw0]; exact heap_alloc_new _ _)
  have HW0 := Lib.hid hw0
  have hx := HX0.out
  have k0 := obj_cell hx 0
  have k1 := obj_cell hx 1
  have k2 := obj_cell hx 2
  have k3 := obj_cell hx 3
  have k4 := obj_cell hx 4
  have k5 := obj_cell hx 5
  have k6 := obj_cell hx 6
  have k7 := obj_cell hx 7
  simp at k0 k1 k2 k3 k4 k5 k6 k7
  have f0 := obj_free hx 0
  have f1 := obj_free hx 1
  have f2 := obj_free hx 2
  have f3 := obj_free hx 3
  have f4 := obj_free hx 4
  have f5 := obj_free hx 5
  have f6 := obj_free hx 6
  have f7 := obj_free hx 7
  clear hw0 hx
  have hE : (txC monT).toArray = #[.string ⟨#[49]⟩, .int .i64 1, .int .i64 100, .int .i64 19, .int .i64 100, .int .i64 0, .int .i64 1, .int .i64 3] := rfl
  rw [hE]
  clear hE
  go_enter Tryd.func17, Tryd.ntmps17
  go_upto_region 1 with fail
  rw [← HW0.out]
  go_wp2
  refine ret8 HX0.out rfl _ _ _ _ _ _ _ _ (v := .agg #[.string ⟨#[49]⟩, .int .i64 1, .int .i64 100, .int .i64 19, .int .i64 100, .int .i64 0, .int .i64 1, .int .i64 3]) (fun F hF => ?_) rfl ⟨rfl, put8_below HB0.out (Nat.le_refl _) _ _ _ _ _ _ _ _⟩
  have q0 := obj_cell hF 0
  have q1 := obj_cell hF 1
  have q2 := obj_cell hF 2
  have q3 := obj_cell hF 3
  have q4 := obj_cell hF 4
  have q5 := obj_cell hF 5
  have q6 := obj_cell hF 6
  have q7 := obj_cell hF 7
  simp at q0 q1 q2 q3 q4 q5 q6 q7
  simp [results, Tryd.results17, go_sem, q0, q1, q2, q3, q4, q5, q6, q7]

set_option maxHeartbeats 4000000 in
theorem rtInts_same (l : List Int) (hlen : l.length ≤ 1000000) (u v : Value) (w : World) (hu : ListAt intC 1 w u l) (hv : ListAt intC 1 w v l) : Calls Tryd.prog 18 #[u, v] w fun e w' => e = .returned (.bool true) ∧ Below w.heap.size w w' := by
  obtain ⟨ao, cap, rfl, hcap, hc⟩ := hu.shape intF
  obtain ⟨ao2, cap2, rfl, hcap2, hc2⟩ := hv.shape intF
  obtain ⟨n, hn⟩ : ∃ n, n = l.length := ⟨_, rfl⟩
  have HN := Lib.hid hn
  have HC := Lib.hid hc
  have HC2 := Lib.hid hc2
  rw [← hn] at hlen hcap hcap2 ⊢
  clear hn hu hv hc hc2
  go_enter Tryd.func18, Tryd.ntmps18
  go_wp2
  go_loopw [13] (fun i wr => ∃ k : Nat, i = .int .i64 k ∧ k ≤ n ∧ Hid (Below w.heap.size w wr)) (fun i _ => n - (RowKit.intOf i).toNat)
  case atStart => exact ⟨0, rfl, by omega, Lib.hid (Below.refl _ _)⟩
  case round =>
    obtain ⟨k, rfl, hkn, HB⟩ := hrel
    by_cases hlt : k < n
    · have hlx : k < l.length := by rw [← HN.out]; exact hlt
      obtain ⟨b, o, rfl, hb, hcc⟩ := HC.out (by omega)
      obtain ⟨b2, o2, rfl, hb2, hcc2⟩ := HC2.out (by omega)
      have e0 := (HB.out.cell (p := ⟨b, o + k * 1 + 0, none⟩) hb).trans (hcc k hlx 0 (by omega))
      have e1 := (HB.out.cell (p := ⟨b2, o2 + k * 1 + 0, none⟩) hb2).trans (hcc2 k hlx 0 (by omega))
      generalize l[k] = x at *
      simp [intC] at e0 e1
      have hk0 : (0 : Int) ≤ (k : Int) := by omega
      have hk1 : (k : Int) < (n : Int) := by omega
      have HB2 : Hid (∀ q, Below w.heap.size w (wr.drewN q)) := Lib.hid fun q => below_drewN HB.out q
      clear hcc hcc2 HC HC2
      go_wp2
      go_quiet (fail)
      go_wp2
      go_roundw
      case rel => exact ⟨k + 1, by first | rfl | go_num, by omega, Lib.hid (HB2.out _)⟩
      case measure => simp [RowKit.intOf]; omega
    · obtain rfl : k = n := by omega
      clear HC HC2
      go_wp2
      go_ret
      exact ⟨rfl, HB.out⟩

/-- A tax of the source. -/
structure TxS (t : Tx) : Prop where
  ok : TxG t
  base : t.base ≤ 100000
set_option maxRecDepth 100000 in
set_option maxHeartbeats 8000000 in
theorem sTax_any (tb : Nat) (w : World) (hs : SrcAt w tb) : Calls Tryd.prog 6 #[.pointer (some ⟨tb, 0, none⟩)] w fun e w' => ∃ t, e = .returned (.agg (txC t).toArray) ∧ TxS t ∧ SI w tb w' := by
  have hlt := hs.lt
  obtain ⟨w0, hw0⟩ : ∃ W, W = w.alloc (.cells #[.string ⟨#[]⟩, .int .i64 0, .int .i64 0, .int .i64 0, .int .i64 0, .int .i64 0, .int .i64 0, .int .i64 0] 27) := ⟨_, rfl⟩
  have HI0 : Hid (SI w tb w0) := Lib.hid (by rw [hw0]; exact (si_start hs).alloc _)
  have HX0 : Hid (w0.heap[w.heap.size]? = some (.cells #[.string ⟨#[]⟩, .int .i64 0, .int .i64 0, .int .i64 0, .int .i64 0, .int .i64 0, .int .i64 0, .int .i64 0] 27 (0, 0))) := Lib.hid (by rw [hw0]; exact heap_alloc_new _ _)
  have hne : w.heap.size ≠ tb := by omega
  have HW0 := Lib.hid hw0
  clear hs hw0
  go_enter Tryd.func6, Tryd.ntmps6
  go_upto_region 1 with fail
  rw [← HW0.out]
  go_wp2_with fail
  with_reducible refine Calls.mono (sCode_in HI0.out) ?_
  rintro e w1 ⟨c0, rfl, hc0, hi1, hg1⟩
  have HI1 := Lib.hid hi1
  have HX1 := Lib.hid (obj_turn HX0.out hg1 hne)
  clear hi1 hg1 HI0 HX0
  go_wp2_with fail
  with_reducible refine Calls.mono (range_in HI1.out 1 3 (by omega) (by omega) (by omega)) ?_
  rintro e w2 ⟨c1, rfl, hc1a, hc1b, hi2, hg2⟩
  have HI2 := Lib.hid hi2
  have HX2 := Lib.hid (obj_turn HX1.out hg2 hne)
  clear hi2 hg2 HI1 HX1
  go_wp2_with fail
  with_reducible refine Calls.mono (pick_in _ [0, 100, 999, 100000] _ _ rfl HI2.out (by simp) (by simp) _ rfl _ (by simp)) ?_
  rintro e w3 ⟨c2, rfl, hc2, hi3, hg3⟩
  have hc2x : 0 ≤ c2 ∧ c2 ≤ 100000 := (by decide : ∀ x ∈ ([0, 100, 999, 100000] : List Int), 0 ≤ x ∧ x ≤ 100000) c2 hc2
  clear hc2
  have HI3 := Lib.hid hi3
  have HX3 := Lib.hid (obj_turn (obj_below HX2.out (below_alloc _ _)) hg3 hne)
  clear hi3 hg3 HI2 HX2
  go_wp2_with fail
  with_reducible refine Calls.mono (n_in HI3.out 20 (by omega) (by omega)) ?_
  rintro e w4 ⟨c3, rfl, hc3a, hc3b, hi4, hg4⟩
  have HI4 := Lib.hid hi4
  have HX4 := Lib.hid (obj_turn HX3.out hg4 hne)
  clear hi4 hg4 HI3 HX3
  go_wp2_with fail
  with_reducible refine Calls.mono (pick_in _ [20, 100, 360] _ _ rfl HI4.out (by simp) (by simp) _ rfl _ (by simp)) ?_
  rintro e w5 ⟨c4, rfl, hc4, hi5, hg5⟩
  have hc4x : 20 ≤ c4 ∧ c4 ≤ 360 := (by decide : ∀ x ∈ ([20, 100, 360] : List Int), 20 ≤ x ∧ x ≤ 360) c4 hc4
  clear hc4
  have HI5 := Lib.hid hi5
  have HX5 := Lib.hid (obj_turn (obj_below HX4.out (below_alloc _ _)) hg5 hne)
  clear hi5 hg5 HI4 HX4
  go_wp2_with fail
  with_reducible refine Calls.mono (n_in HI5.out 800 (by omega) (by omega)) ?_
  rintro e w6 ⟨c5, rfl, hc5a, hc5b, hi6, hg6⟩
  have HI6 := Lib.hid hi6
  have HX6 := Lib.hid (obj_turn HX5.out hg6 hne)
  clear hi6 hg6 HI5 HX5
  go_wp2_with fail
  with_reducible refine Calls.mono (pick_in _ [1, 1, 3, 12] _ _ rfl HI6.out (by simp) (by simp) _ rfl _ (by simp)) ?_
  rintro e w7 ⟨c6, rfl, hc6, hi7, hg7⟩
  have hc6x : 1 ≤ c6 ∧ c6 ≤ 12 := (by decide : ∀ x ∈ ([1, 1, 3, 12] : List Int), 1 ≤ x ∧ x ≤ 12) c6 hc6
  clear hc6
  have HI7 := Lib.hid hi7
  have HX7 := Lib.hid (obj_turn (obj_below HX6.out (below_alloc _ _)) hg7 hne)
  clear hi7 hg7 HI6 HX6
  go_wp2_with fail
  with_reducible refine Calls.mono (range_in HI7.out 1 6 (by omega) (by omega) (by omega)) ?_
  rintro e w8 ⟨c7, rfl, hc7a, hc7b, hi8, hg8⟩
  have HI8 := Lib.hid hi8
  have HX8 := Lib.hid (obj_turn HX7.out hg8 hne)
  clear hi8 hg8 HI7 HX7
  have HTX : Hid (TxS ⟨c0, c1, c2, c3, c4, c5, c6, c7⟩) := Lib.hid ⟨⟨hc0, by show 1 ≤ c1 ∧ c1 ≤ 1000000; omega, by show 0 ≤ c2 ∧ c2 ≤ 10000000; omega, by show 1 ≤ c4 ∧ c4 ≤ 1000000; omega, by show 0 ≤ c3 ∧ c3 ≤ c4; omega, by show 0 ≤ c5 ∧ c5 ≤ 10000; omega, by show 1 ≤ c6 ∧ c6 ≤ 60; omega, by show 1 ≤ c7 ∧ c7 ≤ 10; omega⟩, by show c2 ≤ 100000; omega⟩
  have hx8 := HX8.out
  have k0 := obj_cell hx8 0
  have k1 := obj_cell hx8 1
  have k2 := obj_cell hx8 2
  have k3 := obj_cell hx8 3
  have k4 := obj_cell hx8 4
  have k5 := obj_cell hx8 5
  have k6 := obj_cell hx8 6
  have k7 := obj_cell hx8 7
  simp at k0 k1 k2 k3 k4 k5 k6 k7
  have f0 := obj_free hx8 0
  have f1 := obj_free hx8 1
  have f2 := obj_free hx8 2
  have f3 := obj_free hx8 3
  have f4 := obj_free hx8 4
  have f5 := obj_free hx8 5
  have f6 := obj_free hx8 6
  have f7 := obj_free hx8 7
  clear hx8
  go_wp2
  refine ret8 HX8.out rfl _ _ _ _ _ _ _ _ (v := .agg #[.string c0, .int .i64 c1, .int .i64 c2, .int .i64 c3, .int .i64 c4, .int .i64 c5, .int .i64 c6, .int .i64 c7]) (fun F hF => ?_) rfl ⟨⟨c0, c1, c2, c3, c4, c5, c6, c7⟩, rfl, HTX.out, HI8.out.put8 (Nat.le_refl _) _ _ _ _ _ _ _ _⟩
  have q0 := obj_cell hF 0
  have q1 := obj_cell hF 1
  have q2 := obj_cell hF 2
  have q3 := obj_cell hF 3
  have q4 := obj_cell hF 4
  have q5 := obj_cell hF 5
  have q6 := obj_cell hF 6
  have q7 := obj_cell hF 7
  simp at q0 q1 q2 q3 q4 q5 q6 q7
  simp [results, Tryd.results6, go_sem, q0, q1, q2, q3, q4, q5, q6, q7]

theorem list_newT (w : World) (t : Tx) (T : TypeId) : ListAt txC 8 (w.alloc (.cells (txC t).toArray T)) (.slice (some ⟨w.heap.size, 0, none⟩) 1 1) [t] := by
  refine ⟨cellsL_len txF [t], _, _, rfl, Nat.le_refl _, Or.inr ⟨w.heap.size, 0, rfl, by simp, fun j hj => ?_⟩⟩
  rw [Nat.zero_add, obj_cell (heap_alloc_new w (.cells (txC t).toArray T)) j]
  simp [cellsL]
theorem list_newZ (w : World) (l : List Int) (T : TypeId) : ListAt intC 1 (w.alloc (.cells (cellsL intC l).toArray T)) (.slice (some ⟨w.heap.size, 0, none⟩) l.length l.length) l := by
  refine ⟨cellsL_len intF l, _, _, rfl, Nat.le_refl _, Or.inr ⟨w.heap.size, 0, rfl, by simp, fun j hj => ?_⟩⟩
  rw [Nat.zero_add, obj_cell (heap_alloc_new w (.cells (cellsL intC l).toArray T)) j]
  simp

set_option maxRecDepth 100000 in
set_option maxHeartbeats 8000000 in
theorem sane28_true (w : World) (hL : Lay w) : Calls Tryd.prog 8 #[] w fun e w' => e = .returned (.bool true) ∧ Below w.heap.size w w' := by
  have HLAY := Lib.hid (fun W (hW : Below w.heap.size w W) => hL.below hW (Nat.le_refl _))
  have hE : (txC monT).toArray = #[.string ⟨#[49]⟩, .int .i64 1, .int .i64 100, .int .i64 19, .int .i64 100, .int .i64 0, .int .i64 1, .int .i64 3] := rfl
  have HMO := Lib.hid (fun W => monthly_ok W)
  have HNW := Lib.hid (fun (W : World) => list_newT W monT 27)
  have HEX := Lib.hid (fun (v : Value) (W : World) (hW : Below w.heap.size w W) hl => taExpected_one monT_ok (by rw [monT_amt]; decide) (lo := 0) (hi := 100) (by decide) v W (HLAY.out W hW) hl)
  have HAM := Lib.hid (fun (W : World) (hW : Below w.heap.size w W) => taAmount_ok monT_ok W (HLAY.out W hW))
  have HDA := Lib.hid (fun (W : World) (hW : Below w.heap.size w W) => taDays_ok monT_ok W (HLAY.out W hW))
  rw [hE] at HMO HNW
  simp only [hE] at HAM HDA
  rw [monT_amt] at HAM
  simp only [show monT.tms.toNat = 3 from rfl, monT_days, monT_flows] at HDA HEX
  clear hE hL
  go_enter Tryd.func8, Tryd.ntmps8
  go_wp2_with fail
  refine (HMO.out _).mono ?_
  rintro e w1 ⟨rfl, hb1⟩
  have HB1 := Lib.hid hb1
  obtain ⟨w2, hw2⟩ : ∃ W, W = w1.alloc (.cells #[.string ⟨#[49]⟩, .int .i64 1, .int .i64 100, .int .i64 19, .int .i64 100, .int .i64 0, .int .i64 1, .int .i64 3] 27) := ⟨_, rfl⟩
  obtain ⟨g2, hg2⟩ : ∃ q, q = w1.heap.size := ⟨_, rfl⟩
  have HB2 : Hid (Below w.heap.size w w2) := Lib.hid (by rw [hw2]; exact HB1.out.alloc HB1.out.size _)
  have hl2 : ListAt txC 8 w2 (.slice (some ⟨g2, 0, none⟩) 1 1) [monT] := by rw [hw2, hg2]; exact HNW.out w1
  have HE2 := Lib.hid (HEX.out _ w2 HB2.out hl2)
  have HW2 := Lib.hid hw2
  have HG2 := Lib.hid hg2
  clear hw2 hg2 hl2 hb1
  go_wp2_with fail
  rw [← HW2.out, ← HG2.out]
  refine (HE2.out).mono ?_
  rintro e w3 ⟨u, l', rfl, hpm, hl, hb3⟩
  have HB3 := Lib.hid (HB2.out.trans (hb3.mono HB2.out.size))
  have hln : l'.length = 3 := hpm.length_eq
  have ham : ∀ f ∈ l', f.amt = 19 := fun f hf => by
    have := hpm.mem_iff.1 hf
    simp only [List.mem_cons, List.mem_nil_iff, or_false] at this
    rcases this with rfl | rfl | rfl <;> rfl
  obtain ⟨au, cu, rfl, hcu, hcs⟩ := hl.shape flowF
  obtain ⟨bu, ou, rfl, hbu, hcc⟩ := hcs (by omega)
  have hcell : w3.cell? ⟨bu, ou + 2 * 4 + 1, none⟩ = some (.int .i64 19) := by
    rw [hcc 2 (by omega) 1 (by omega)]
    have := ham _ (List.getElem_mem (show 2 < l'.length by omega))
    simp [flowC, this]
  have HCL := Lib.hid (fun W (hW : Below w3.heap.size w3 W) => (hW.cell (p := ⟨bu, ou + 2 * 4 + 1, none⟩) hbu).trans hcell)
  rw [hln]
  clear hb3 hpm hl ham hcs hcc hcell hln HE2 HW2
  go_wp2_with fail
  refine (HMO.out _).mono ?_
  rintro e w4 ⟨rfl, hb4⟩
  have HC4 := Lib.hid hb4
  have HB4 := Lib.hid (HB3.out.trans (hb4.mono HB3.out.size))
  clear hb4
  go_wp2_with fail
  refine (HAM.out _ HB4.out).mono ?_
  rintro e w5 ⟨rfl, hb5⟩
  have HC5 := Lib.hid (HC4.out.trans (hb5.mono HC4.out.size))
  have HB5 := Lib.hid (HB4.out.trans (hb5.mono HB4.out.size))
  clear hb5
  go_wp2_with fail
  refine (HMO.out _).mono ?_
  rintro e w6 ⟨rfl, hb6⟩
  have HC6 := Lib.hid (HC5.out.trans (hb6.mono HC5.out.size))
  have HB6 := Lib.hid (HB5.out.trans (hb6.mono HB5.out.size))
  clear hb6
  go_wp2_with fail
  refine (HDA.out _ HB6.out).mono ?_
  rintro e w7 ⟨dv, rfl, hod, hb7⟩
  have HC7 := Lib.hid (HC6.out.trans (hb7.mono HC6.out.size))
  have HB7 := Lib.hid (HB6.out.trans (hb7.mono HB6.out.size))
  have hld : ListAt intC 1 w7 dv [0, 30, 60] := ListAt.owns (base := w6.heap.size) (e := 3) hod
  obtain ⟨ad, cd, rfl, -, -⟩ := owns_gen hod
  obtain ⟨w8, hw8⟩ : ∃ W, W = w7.alloc (.cells #[.int .i64 0, .int .i64 30, .int .i64 60] 3) := ⟨_, rfl⟩
  obtain ⟨g8, hg8⟩ : ∃ q, q = w7.heap.size := ⟨_, rfl⟩
  have hb8 : Below w7.heap.size w7 w8 := by rw [hw8]; exact below_alloc _ _
  have HC8 := Lib.hid (HC7.out.trans (hb8.mono HC7.out.size))
  have HB8 := Lib.hid (HB7.out.trans (hb8.mono HB7.out.size))
  have hln8 : ListAt intC 1 w8 (.slice (some ⟨g8, 0, none⟩) 3 3) [0, 30, 60] := by rw [hw8, hg8]; exact list_newZ w7 [0, 30, 60] 3
  have HIN := Lib.hid (rtInts_same [0, 30, 60] (by decide) _ _ w8 (hld.below hb8) hln8)
  have HW8 := Lib.hid hw8
  have HG8 := Lib.hid hg8
  clear hw8 hg8 hln8 hld hod hb7 hb8
  go_wp2_with fail
  rw [← HW8.out, ← HG8.out]
  refine (HIN.out).mono ?_
  rintro e w9 ⟨rfl, hb9⟩
  have HC9 := Lib.hid (HC8.out.trans (hb9.mono HC8.out.size))
  have HB9 := Lib.hid (HB8.out.trans (hb9.mono HB8.out.size))
  have hcl := HCL.out _ HC9.out
  clear hb9
  go_wp2
  go_ret
  exact ⟨rfl, HB9.out⟩

end Go.Proofs.YtebgfbcojhmdlaaDoor
