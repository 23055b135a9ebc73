/- consolidation's Claim, Debt, Income, Expense of a right ledger. -/
import Derived.Test.YtdbpbmejgdbppaaCsB
set_option linter.unusedSimpArgs false
set_option linter.unusedVariables false
namespace Go.Proofs.Ytdbpbmejgdbppaa
open Go.RowKit Go.Lib Go.Proofs Go.Maps

set_option maxHeartbeats 1000000 in
theorem csClaim_right {l : List Pst} (h : LdgOk l) (a b r d : Int) (ha : in64 a) (hb : in64 b) (hr : in64 r) (v : Value) (w : World) (hl : PstsAt w v l) :
    Calls Try.prog 11 #[.agg #[v], .int .i64 a, .int .i64 b, .int .i64 r, .int .i64 d] w fun e w' => e = .returned (.int .i64 (posQ d 140 a b r l)) ∧ Below w.heap.size w w' := by
  have HBA := Lib.hid (fun W (hW : Below w.heap.size w W) => csbalances_right h d v W (hl.below hW))
  have hq := sideQ_bound h d l.length ⟨140, a, b, r⟩
  rw [List.take_length] at hq
  obtain ⟨q, hqe⟩ : ∃ q, q = sideQ d l ⟨140, a, b, r⟩ := ⟨_, rfl⟩
  have HQE : Hid (posQ d 140 a b r l = q) := Lib.hid (by rw [hqe]; rfl)
  have HLK := Lib.hid (fun (W : World) (bb n : Nat) (hm : MapS W bb n (sideQ d l)) => look_S hm (k := ⟨140, a, b, r⟩) ⟨⟨by simp only; omega, by simp only; omega⟩, ha, hb, hr⟩)
  rw [← hqe] at hq HLK
  simp only [sdC] at HLK
  have hwn : IntKind.i64.wrap (-q) = -q := IntWalk.i64_in _ (by omega)
  have hx := heap_alloc_new w (.cells #[v] 27)
  have HB := Lib.hid (below_alloc w (.cells #[v] 27))
  have s0 := obj_cell hx 0
  simp at s0
  rw [HQE.out]
  clear h hl hx hqe
  go_enter Try.func11, Try.ntmps11
  go_wp2_with fail
  refine (HBA.out _ HB.out).mono ?_
  rintro e w1 ⟨bb, rfl, hbb, hm, hb1⟩
  have hlk := HLK.out w1 bb _ hm
  have HB1 := Lib.hid (HB.out.trans (hb1.mono HB.out.size))
  clear hm hb1 s0 HLK HBA
  go_wp2
  go_ret
  exact ⟨rfl, HB1.out⟩

set_option maxHeartbeats 1000000 in
theorem csDebt_right {l : List Pst} (h : LdgOk l) (a b r d : Int) (ha : in64 a) (hb : in64 b) (hr : in64 r) (v : Value) (w : World) (hl : PstsAt w v l) :
    Calls Try.prog 12 #[.agg #[v], .int .i64 a, .int .i64 b, .int .i64 r, .int .i64 d] w fun e w' => e = .returned (.int .i64 (-posQ d 240 a b r l)) ∧ Below w.heap.size w w' := by
  have HBA := Lib.hid (fun W (hW : Below w.heap.size w W) => csbalances_right h d v W (hl.below hW))
  have hq := sideQ_bound h d l.length ⟨240, a, b, r⟩
  rw [List.take_length] at hq
  obtain ⟨q, hqe⟩ : ∃ q, q = sideQ d l ⟨240, a, b, r⟩ := ⟨_, rfl⟩
  have HQE : Hid (posQ d 240 a b r l = q) := Lib.hid (by rw [hqe]; rfl)
  have HLK := Lib.hid (fun (W : World) (bb n : Nat) (hm : MapS W bb n (sideQ d l)) => look_S hm (k := ⟨240, a, b, r⟩) ⟨⟨by simp only; omega, by simp only; omega⟩, ha, hb, hr⟩)
  rw [← hqe] at hq HLK
  simp only [sdC] at HLK
  have hwn : IntKind.i64.wrap (-q) = -q := IntWalk.i64_in _ (by omega)
  have hx := heap_alloc_new w (.cells #[v] 27)
  have HB := Lib.hid (below_alloc w (.cells #[v] 27))
  have s0 := obj_cell hx 0
  simp at s0
  rw [HQE.out]
  clear h hl hx hqe
  go_enter Try.func12, Try.ntmps12
  go_wp2_with fail
  refine (HBA.out _ HB.out).mono ?_
  rintro e w1 ⟨bb, rfl, hbb, hm, hb1⟩
  have hlk := HLK.out w1 bb _ hm
  have HB1 := Lib.hid (HB.out.trans (hb1.mono HB.out.size))
  clear hm hb1 s0 HLK HBA
  go_wp2
  go_ret
  exact ⟨rfl, HB1.out⟩

set_option maxHeartbeats 1000000 in
theorem csIncome_right {l : List Pst} (h : LdgOk l) (a b r d : Int) (ha : in64 a) (hb : in64 b) (hr : in64 r) (v : Value) (w : World) (hl : PstsAt w v l) :
    Calls Try.prog 13 #[.agg #[v], .int .i64 a, .int .i64 b, .int .i64 r, .int .i64 d] w fun e w' => e = .returned (.int .i64 (-posQ d 440 a b r l)) ∧ Below w.heap.size w w' := by
  have HBA := Lib.hid (fun W (hW : Below w.heap.size w W) => csbalances_right h d v W (hl.below hW))
  have hq := sideQ_bound h d l.length ⟨440, a, b, r⟩
  rw [List.take_length] at hq
  obtain ⟨q, hqe⟩ : ∃ q, q = sideQ d l ⟨440, a, b, r⟩ := ⟨_, rfl⟩
  have HQE : Hid (posQ d 440 a b r l = q) := Lib.hid (by rw [hqe]; rfl)
  have HLK := Lib.hid (fun (W : World) (bb n : Nat) (hm : MapS W bb n (sideQ d l)) => look_S hm (k := ⟨440, a, b, r⟩) ⟨⟨by simp only; omega, by simp only; omega⟩, ha, hb, hr⟩)
  rw [← hqe] at hq HLK
  simp only [sdC] at HLK
  have hwn : IntKind.i64.wrap (-q) = -q := IntWalk.i64_in _ (by omega)
  have hx := heap_alloc_new w (.cells #[v] 27)
  have HB := Lib.hid (below_alloc w (.cells #[v] 27))
  have s0 := obj_cell hx 0
  simp at s0
  rw [HQE.out]
  clear h hl hx hqe
  go_enter Try.func13, Try.ntmps13
  go_wp2_with fail
  refine (HBA.out _ HB.out).mono ?_
  rintro e w1 ⟨bb, rfl, hbb, hm, hb1⟩
  have hlk := HLK.out w1 bb _ hm
  have HB1 := Lib.hid (HB.out.trans (hb1.mono HB.out.size))
  clear hm hb1 s0 HLK HBA
  go_wp2
  go_ret
  exact ⟨rfl, HB1.out⟩

set_option maxHeartbeats 1000000 in
theorem csExpense_right {l : List Pst} (h : LdgOk l) (a b r d : Int) (ha : in64 a) (hb : in64 b) (hr : in64 r) (v : Value) (w : World) (hl : PstsAt w v l) :
    Calls Try.prog 14 #[.agg #[v], .int .i64 a, .int .i64 b, .int .i64 r, .int .i64 d] w fun e w' => e = .returned (.int .i64 (posQ d 540 a b r l)) ∧ Below w.heap.size w w' := by
  have HBA := Lib.hid (fun W (hW : Below w.heap.size w W) => csbalances_right h d v W (hl.below hW))
  have hq := sideQ_bound h d l.length ⟨540, a, b, r⟩
  rw [List.take_length] at hq
  obtain ⟨q, hqe⟩ : ∃ q, q = sideQ d l ⟨540, a, b, r⟩ := ⟨_, rfl⟩
  have HQE : Hid (posQ d 540 a b r l = q) := Lib.hid (by rw [hqe]; rfl)
  have HLK := Lib.hid (fun (W : World) (bb n : Nat) (hm : MapS W bb n (sideQ d l)) => look_S hm (k := ⟨540, a, b, r⟩) ⟨⟨by simp only; omega, by simp only; omega⟩, ha, hb, hr⟩)
  rw [← hqe] at hq HLK
  simp only [sdC] at HLK
  have hwn : IntKind.i64.wrap (-q) = -q := IntWalk.i64_in _ (by omega)
  have hx := heap_alloc_new w (.cells #[v] 27)
  have HB := Lib.hid (below_alloc w (.cells #[v] 27))
  have s0 := obj_cell hx 0
  simp at s0
  rw [HQE.out]
  clear h hl hx hqe
  go_enter Try.func14, Try.ntmps14
  go_wp2_with fail
  refine (HBA.out _ HB.out).mono ?_
  rintro e w1 ⟨bb, rfl, hbb, hm, hb1⟩
  have hlk := HLK.out w1 bb _ hm
  have HB1 := Lib.hid (HB.out.trans (hb1.mono HB.out.size))
  clear hm hb1 s0 HLK HBA
  go_wp2
  go_ret
  exact ⟨rfl, HB1.out⟩

end Go.Proofs.Ytdbpbmejgdbppaa
