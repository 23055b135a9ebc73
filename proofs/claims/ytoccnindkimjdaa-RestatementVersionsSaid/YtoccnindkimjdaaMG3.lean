/- Texts of one claim, merged: RsC, RsD, RsE. -/
import Derived.Test.YtoccnindkimjdaaMRsS
import Derived.Test.YtoccnindkimjdaaMPut5
/- The ledger's reference: Classes and State of valid, small postings, all entities together. -/
set_option linter.unusedSimpArgs false
set_option linter.unusedVariables false
set_option linter.unusedSimpArgs false
set_option linter.unusedVariables false
namespace Go.Proofs.Ytoccnindkimjdaa
open Go.RowKit Go.Lib Go.Proofs

/-- A world within Classes: the result's box as it was made, the sums in their array. -/
structure KlI (w : World) (bR bA : Nat) (s : Int → Int) (W : World) : Prop where
  old : Below w.heap.size w W
  res : W.heap[bR]? = some (.cells #[.int .i64 0, .int .i64 0, .int .i64 0, .int .i64 0, .int .i64 0, .int .i64 0] 92 (0, 0))
  arr : W.heap[bA]? = some (.cells #[.int .i64 0, .int .i64 (s 1), .int .i64 (s 2), .int .i64 (s 3), .int .i64 (s 4), .int .i64 (s 5)] 92 (0, 0))
  lo : w.heap.size ≤ bA
  lo2 : w.heap.size ≤ bR
  ne : bR ≠ bA
theorem KlI.below {w : World} {bR bA : Nat} {s : Int → Int} {A B : World} (h : KlI w bR bA s A) (hb : Below A.heap.size A B) : KlI w bR bA s B :=
  ⟨h.old.trans (hb.mono h.old.size), obj_below h.res hb, obj_below h.arr hb, h.lo, h.lo2, h.ne⟩
theorem KlI.put {w : World} {bR bA : Nat} {s : Int → Int} {A : World} (h : KlI w bR bA s A) (i : Nat) (hi : i < 6) (x : Value) : Below w.heap.size w (A.setCell ⟨bA, i, none⟩ x) ∧ (A.setCell ⟨bA, i, none⟩ x).heap[bR]? = some (.cells #[.int .i64 0, .int .i64 0, .int .i64 0, .int .i64 0, .int .i64 0, .int .i64 0] 92 (0, 0)) ∧ True := by
  have hg : A.grownBy (A.setCell ⟨bA, i, none⟩ x) (some bA) := setCell_grown _ _
  exact ⟨h.old.setCell h.lo _, (hg.block _ (obj_lt h.res) (by simp [h.ne])).trans h.res, trivial⟩
def cl6 (f : Int → Bool) (l : List Pst) : Array Value := #[.int .i64 0, .int .i64 (clsM 0 f 1 l), .int .i64 (clsM 0 f 2 l), .int .i64 (clsM 0 f 3 l), .int .i64 (clsM 0 f 4 l), .int .i64 (clsM 0 f 5 l)]

set_option maxRecDepth 100000 in
set_option maxHeartbeats 8000000 in
theorem rgClasses_all {l : List Pst} (h : ∀ p ∈ l, PstOk p ∧ p.amt ≤ 1000) (hlen : l.length ≤ 200) (lo k : Int) (v : Value) (w : World) (hl : PstsAt w v l) :
    Calls Try.prog 64 #[v, .int .i64 0, .int .i64 lo, .int .i64 k] w fun e w' => e = .returned (.agg (cl6 (amidDay lo k) l)) ∧ Below w.heap.size w w' := by
  obtain ⟨w0, hw0⟩ : ∃ W, W = (w.alloc (.cells #[.int .i64 0, .int .i64 0, .int .i64 0, .int .i64 0, .int .i64 0, .int .i64 0] 92)).alloc (.cells #[.int .i64 0, .int .i64 0, .int .i64 0, .int .i64 0, .int .i64 0, .int .i64 0] 92) := ⟨_, rfl⟩
  obtain ⟨bA, hbA⟩ : ∃ b, b = w.heap.size + 1 := ⟨_, rfl⟩
  obtain ⟨bR, hbR⟩ : ∃ b, b = w.heap.size := ⟨_, rfl⟩
  obtain ⟨sN, hsN⟩ : ∃ S : Nat → Int → Int, S = fun j d => clsN 0 (amidDay lo k) d l j := ⟨_, rfl⟩
  obtain ⟨FF, hFF⟩ : ∃ F : Nat → Int, F = fun i : Nat => ofM 0 (amidDay lo k) (100 + (i : Int)) l := ⟨_, rfl⟩
  have HI0 : Hid (KlI w bR bA (sN 0) w0) := Lib.hid (by
    rw [hw0, hbA, hbR, hsN]
    exact ⟨below2 w _ _, alloc1_at w _ _, alloc2_at w _ _, by omega, by omega, by omega⟩)
  have HSM := Lib.hid (rgSums_all h hlen lo k v w0 (hl.below (by rw [hw0]; exact below2 w _ _)))
  rw [← hFF] at HSM
  have HNX0 : Hid (∀ (j : Nat) (d : Int), sN (j + 1) d = sN j d + (if classM (100 + (j : Int)) = d then FF j else 0)) := Lib.hid fun j d => by
    rw [hsN, hFF]
    show clsN 0 (amidDay lo k) d l (j + 1) = _
    unfold clsN
    simp only [sumZ, decide_eq_true_eq]
  have HFB : Hid (∀ i, -200000000000000 ≤ FF i ∧ FF i ≤ 200000000000000) := Lib.hid fun i => by
    rw [hFF]
    have := ofM_bound (e := 0) (f := amidDay lo k) (a := 100 + (i : Int)) fun p hp => (h p hp).1
    simp only
    omega
  have HSB : Hid (∀ (j : Nat) d, j ≤ 500 → -100000000000000000 ≤ sN j d ∧ sN j d ≤ 100000000000000000) := Lib.hid fun j d hj => by
    rw [hsN]
    have := sumZ_bound (q := fun x => decide (classM x = d)) (g := fun x => ofM 0 (amidDay lo k) x l) (B := 200000000000000) (fun x => by
      have := ofM_bound (e := 0) (f := amidDay lo k) (a := x) fun p hp => (h p hp).1
      omega) (by omega) j
    show -100000000000000000 ≤ clsN 0 (amidDay lo k) d l j ∧ clsN 0 (amidDay lo k) d l j ≤ _
    unfold clsN
    omega
  obtain ⟨g, hg⟩ : ∃ g : Int → Int, g = fun d => clsM 0 (amidDay lo k) d l := ⟨_, rfl⟩
  have HFIN : Hid (∀ d, sN 500 d = g d) := Lib.hid fun d => by
    rw [hsN, hg]
    exact clsM_eq (Nat.le_refl _) fun p hp => (h p hp).1
  have hge : ∀ d, clsM 0 (amidDay lo k) d l = g d := fun d => by rw [hg]
  unfold cl6
  rw [hge, hge, hge, hge, hge]
  clear hge hg
  have HW0 := Lib.hid hw0
  have HBA := Lib.hid hbA
  have HBR := Lib.hid hbR
  clear hl h hw0 hbA hbR hsN hFF hlen
  go_enter Try.func64, Try.ntmps64
  go_upto_region 2 with fail
  rw [← HW0.out, ← HBA.out, ← HBR.out]
  go_wp2_with fail
  refine (HSM.out).mono ?_
  rintro e w1 ⟨rfl, hb1⟩
  have HI1 := Lib.hid (HI0.out.below hb1)
  clear hb1
  go_wp2
  go_loopw [17] (fun iv wr => ∃ j : Nat, iv = .int .i64 j ∧ j ≤ 500 ∧ Hid (KlI w bR bA (sN j) wr)) (fun iv _ => 500 - (RowKit.intOf iv).toNat)
  case atStart => exact ⟨0, rfl, by omega, HI1⟩
  case round =>
    clear HI0 HI1 HW0
    obtain ⟨j, rfl, hjn, HI⟩ := hrel
    by_cases hlt : j < 500
    · have hj0 : (0 : Int) ≤ (j : Int) := by omega
      have hj5 : (j : Int) < 500 := by omega
      have hwj : IntKind.i64.wrap ((j : Int) + 1) = (j : Int) + 1 := IntWalk.i64_in _ (by omega)
      have hcm : classM (100 + (j : Int)) = (100 + (j : Int)) / 100 := by unfold classM; rw [if_pos (by omega)]
      have hcg := arrC_get FF hlt
      have HNX : Hid (∀ d : Int, sN (j + 1) d = sN j d + (if (100 + (j : Int)) / 100 = d then FF j else 0)) := Lib.hid fun d => by rw [HNX0.out j d, hcm]
      have hqb := HFB.out j
      have hsb := fun d => HSB.out j d hjn
      obtain ⟨q, hq⟩ : ∃ q, q = FF j := ⟨_, rfl⟩
      rw [← hq] at HNX hqb hcg
      obtain ⟨s, hs⟩ : ∃ s, s = sN j := ⟨_, rfl⟩
      rw [← hs] at HNX hsb HI
      have hix : ∀ W : World, (Instr.index 101 (.agg (arrC FF)) (.int .i64 (j : Int))).run Try.prog W = .ok (.int .i64 q) W := fun W => by
        have hu : Try.prog.underlying 101 = some (.array 500 3) := by kernel_rfl
        simp [Instr.index, go_sem, run_underlying hu, hj0, hj5, hcg, part]
        intro hx
        omega
      have ha := HI.out.arr
      have y0 := obj_cell ha 0
      have y1 := obj_cell ha 1
      have y2 := obj_cell ha 2
      have y3 := obj_cell ha 3
      have y4 := obj_cell ha 4
      have y5 := obj_cell ha 5
      simp at y0 y1 y2 y3 y4 y5
      have fy0 := obj_free ha 0
      have fy1 := obj_free ha 1
      have fy2 := obj_free ha 2
      have fy3 := obj_free ha 3
      have fy4 := obj_free ha 4
      have fy5 := obj_free ha 5
      clear ha hcg hq hs hcm
      have hc : (j : Int) / 100 = 0 ∨ (j : Int) / 100 = 1 ∨ (j : Int) / 100 = 2 ∨ (j : Int) / 100 = 3 ∨ (j : Int) / 100 = 4 := by omega
      rcases hc with hc | hc | hc | hc | hc
      · have hq1 : ((j : Nat) : Int).tdiv 100 = 0 := by rw [Int.tdiv_eq_ediv_of_nonneg hj0]; omega
        have hq2 : ((j : Nat) : Int) / 100 = 0 := by omega
        have hws : IntKind.i64.wrap (s 1 + q) = s 1 + q := IntWalk.i64_in _ (by have := hsb 1; omega)
        have HK : Hid (KlI w bR bA (sN (j + 1)) (wr.setCell ⟨bA, 1, none⟩ (.int .i64 (s 1 + q)))) := Lib.hid (by
          have hh := HI.out.put 1 (by omega) (.int .i64 (s 1 + q))
          refine ⟨hh.1, hh.2.1, ?_, HI.out.lo, HI.out.lo2, HI.out.ne⟩
          have h3 := obj_set HI.out.arr 1 (.int .i64 (s 1 + q))
          simp only [List.setIfInBounds_toArray, List.set_cons_zero, List.set_cons_succ] at h3
          rw [h3]
          have e1 := HNX.out 1
          have e2 := HNX.out 2
          have e3 := HNX.out 3
          have e4 := HNX.out 4
          have e5 := HNX.out 5
          rw [if_pos (by omega)] at e1
          rw [if_neg (by omega)] at e2
          rw [if_neg (by omega)] at e3
          rw [if_neg (by omega)] at e4
          rw [if_neg (by omega)] at e5
          rw [e1, e2, e3, e4, e5]
          simp only [Int.add_zero])
        clear hc
        go_wp2
        go_roundw
        case rel => exact ⟨j + 1, by first | rfl | go_num, by omega, HK⟩
        case measure => simp [RowKit.intOf]; omega
      · have hq1 : ((j : Nat) : Int).tdiv 100 = 1 := by rw [Int.tdiv_eq_ediv_of_nonneg hj0]; omega
        have hq2 : ((j : Nat) : Int) / 100 = 1 := by omega
        have hws : IntKind.i64.wrap (s 2 + q) = s 2 + q := IntWalk.i64_in _ (by have := hsb 2; omega)
        have HK : Hid (KlI w bR bA (sN (j + 1)) (wr.setCell ⟨bA, 2, none⟩ (.int .i64 (s 2 + q)))) := Lib.hid (by
          have hh := HI.out.put 2 (by omega) (.int .i64 (s 2 + q))
          refine ⟨hh.1, hh.2.1, ?_, HI.out.lo, HI.out.lo2, HI.out.ne⟩
          have h3 := obj_set HI.out.arr 2 (.int .i64 (s 2 + q))
          simp only [List.setIfInBounds_toArray, List.set_cons_zero, List.set_cons_succ] at h3
          rw [h3]
          have e1 := HNX.out 1
          have e2 := HNX.out 2
          have e3 := HNX.out 3
          have e4 := HNX.out 4
          have e5 := HNX.out 5
          rw [if_neg (by omega)] at e1
          rw [if_pos (by omega)] at e2
          rw [if_neg (by omega)] at e3
          rw [if_neg (by omega)] at e4
          rw [if_neg (by omega)] at e5
          rw [e1, e2, e3, e4, e5]
          simp only [Int.add_zero])
        clear hc
        go_wp2
        go_roundw
        case rel => exact ⟨j + 1, by first | rfl | go_num, by omega, HK⟩
        case measure => simp [RowKit.intOf]; omega
      · have hq1 : ((j : Nat) : Int).tdiv 100 = 2 := by rw [Int.tdiv_eq_ediv_of_nonneg hj0]; omega
        have hq2 : ((j : Nat) : Int) / 100 = 2 := by omega
        have hws : IntKind.i64.wrap (s 3 + q) = s 3 + q := IntWalk.i64_in _ (by have := hsb 3; omega)
        have HK : Hid (KlI w bR bA (sN (j + 1)) (wr.setCell ⟨bA, 3, none⟩ (.int .i64 (s 3 + q)))) := Lib.hid (by
          have hh := HI.out.put 3 (by omega) (.int .i64 (s 3 + q))
          refine ⟨hh.1, hh.2.1, ?_, HI.out.lo, HI.out.lo2, HI.out.ne⟩
          have h3 := obj_set HI.out.arr 3 (.int .i64 (s 3 + q))
          simp only [List.setIfInBounds_toArray, List.set_cons_zero, List.set_cons_succ] at h3
          rw [h3]
          have e1 := HNX.out 1
          have e2 := HNX.out 2
          have e3 := HNX.out 3
          have e4 := HNX.out 4
          have e5 := HNX.out 5
          rw [if_neg (by omega)] at e1
          rw [if_neg (by omega)] at e2
          rw [if_pos (by omega)] at e3
          rw [if_neg (by omega)] at e4
          rw [if_neg (by omega)] at e5
          rw [e1, e2, e3, e4, e5]
          simp only [Int.add_zero])
        clear hc
        go_wp2
        go_roundw
        case rel => exact ⟨j + 1, by first | rfl | go_num, by omega, HK⟩
        case measure => simp [RowKit.intOf]; omega
      · have hq1 : ((j : Nat) : Int).tdiv 100 = 3 := by rw [Int.tdiv_eq_ediv_of_nonneg hj0]; omega
        have hq2 : ((j : Nat) : Int) / 100 = 3 := by omega
        have hws : IntKind.i64.wrap (s 4 + q) = s 4 + q := IntWalk.i64_in _ (by have := hsb 4; omega)
        have HK : Hid (KlI w bR bA (sN (j + 1)) (wr.setCell ⟨bA, 4, none⟩ (.int .i64 (s 4 + q)))) := Lib.hid (by
          have hh := HI.out.put 4 (by omega) (.int .i64 (s 4 + q))
          refine ⟨hh.1, hh.2.1, ?_, HI.out.lo, HI.out.lo2, HI.out.ne⟩
          have h3 := obj_set HI.out.arr 4 (.int .i64 (s 4 + q))
          simp only [List.setIfInBounds_toArray, List.set_cons_zero, List.set_cons_succ] at h3
          rw [h3]
          have e1 := HNX.out 1
          have e2 := HNX.out 2
          have e3 := HNX.out 3
          have e4 := HNX.out 4
          have e5 := HNX.out 5
          rw [if_neg (by omega)] at e1
          rw [if_neg (by omega)] at e2
          rw [if_neg (by omega)] at e3
          rw [if_pos (by omega)] at e4
          rw [if_neg (by omega)] at e5
          rw [e1, e2, e3, e4, e5]
          simp only [Int.add_zero])
        clear hc
        go_wp2
        go_roundw
        case rel => exact ⟨j + 1, by first | rfl | go_num, by omega, HK⟩
        case measure => simp [RowKit.intOf]; omega
      · have hq1 : ((j : Nat) : Int).tdiv 100 = 4 := by rw [Int.tdiv_eq_ediv_of_nonneg hj0]; omega
        have hq2 : ((j : Nat) : Int) / 100 = 4 := by omega
        have hws : IntKind.i64.wrap (s 5 + q) = s 5 + q := IntWalk.i64_in _ (by have := hsb 5; omega)
        have HK : Hid (KlI w bR bA (sN (j + 1)) (wr.setCell ⟨bA, 5, none⟩ (.int .i64 (s 5 + q)))) := Lib.hid (by
          have hh := HI.out.put 5 (by omega) (.int .i64 (s 5 + q))
          refine ⟨hh.1, hh.2.1, ?_, HI.out.lo, HI.out.lo2, HI.out.ne⟩
          have h3 := obj_set HI.out.arr 5 (.int .i64 (s 5 + q))
          simp only [List.setIfInBounds_toArray, List.set_cons_zero, List.set_cons_succ] at h3
          rw [h3]
          have e1 := HNX.out 1
          have e2 := HNX.out 2
          have e3 := HNX.out 3
          have e4 := HNX.out 4
          have e5 := HNX.out 5
          rw [if_neg (by omega)] at e1
          rw [if_neg (by omega)] at e2
          rw [if_neg (by omega)] at e3
          rw [if_neg (by omega)] at e4
          rw [if_pos (by omega)] at e5
          rw [e1, e2, e3, e4, e5]
          simp only [Int.add_zero])
        clear hc
        go_wp2
        go_roundw
        case rel => exact ⟨j + 1, by first | rfl | go_num, by omega, HK⟩
        case measure => simp [RowKit.intOf]; omega
    · obtain rfl : j = 500 := by omega
      have hres := HI.out.res
      have ha := HI.out.arr
      have z0 := obj_cell ha 0
      have z1 := obj_cell ha 1
      have z2 := obj_cell ha 2
      have z3 := obj_cell ha 3
      have z4 := obj_cell ha 4
      have z5 := obj_cell ha 5
      simp at z0 z1 z2 z3 z4 z5
      have x0 := obj_cell hres 0
      have x1 := obj_cell hres 1
      have x2 := obj_cell hres 2
      have x3 := obj_cell hres 3
      have x4 := obj_cell hres 4
      have x5 := obj_cell hres 5
      simp at x0 x1 x2 x3 x4 x5
      have fz0 := obj_free hres 0
      have fz1 := obj_free hres 1
      have fz2 := obj_free hres 2
      have fz3 := obj_free hres 3
      have fz4 := obj_free hres 4
      have fz5 := obj_free hres 5
      have e1 := HFIN.out 1
      have e2 := HFIN.out 2
      have e3 := HFIN.out 3
      have e4 := HFIN.out 4
      have e5 := HFIN.out 5
      have HOLD := Lib.hid HI.out.old
      have HRES := Lib.hid HI.out.res
      have HLO := Lib.hid HI.out.lo2
      rw [e1] at z1
      rw [e2] at z2
      rw [e3] at z3
      rw [e4] at z4
      rw [e5] at z5
      clear hres ha e1 e2 e3 e4 e5 HI HFIN HNX0 HSB HFB HSM
      go_wp2
      refine ret6 HRES.out rfl _ _ _ _ _ _ (v := .agg #[.int .i64 0, .int .i64 (g 1), .int .i64 (g 2), .int .i64 (g 3), .int .i64 (g 4), .int .i64 (g 5)]) (fun F hF => ?_) rfl ⟨rfl, put6_below HOLD.out HLO.out _ _ _ _ _ _⟩
      have q0 := obj_cell hF 0
      have q1 := obj_cell hF 1
      have q2 := obj_cell hF 2
      have q3 := obj_cell hF 3
      have q4 := obj_cell hF 4
      have q5 := obj_cell hF 5
      simp at q0 q1 q2 q3 q4 q5
      simp [results, Try.results64, go_sem, q0, q1, q2, q3, q4, q5]

end Go.Proofs.Ytoccnindkimjdaa

/- The ledger's reference: State of valid, small postings, all entities together; the totals that are in range. -/
set_option linter.unusedSimpArgs false
set_option linter.unusedVariables false
namespace Go.Proofs.Ytoccnindkimjdaa
open Go.RowKit Go.Lib Go.Proofs

theorem cls_congr {x : Int} {f g : Int → Bool} {c : Int} : ∀ {l : List Pst}, (∀ p ∈ l, f p.day = g p.day) → clsM x f c l = clsM x g c l
  | [], _ => rfl
  | p :: l, h => by
    simp only [clsM, cls_congr (l := l) fun q hq => h q (List.mem_cons_of_mem _ hq), h p List.mem_cons_self]
def stmA (x : Stm) : Array Value := #[.int .i64 x.ast, .int .i64 x.lia, .int .i64 x.wor, .int .i64 x.rev, .int .i64 x.exp]

set_option maxRecDepth 100000 in
set_option maxHeartbeats 8000000 in
theorem rgState_all {l : List Pst} (h : ∀ p ∈ l, PstOk p ∧ p.amt ≤ 1000) (hlen : l.length ≤ 200) {y : Int} (hy : 0 ≤ y ∧ y ≤ 99) (v : Value) (w : World) (hl : PstsAt w v l) :
    Calls Try.prog 42 #[v, .int .i64 0, .int .i64 (360 * y), .int .i64 (360 * y + 359)] w fun e w' => e = .returned (.agg (stmA (stM y l))) ∧ Below w.heap.size w w' := by
  have HCL := Lib.hid (fun lo k W (hW : Below w.heap.size w W) => rgClasses_all h hlen lo k v W (hl.below hW))
  have hd0 : ∀ p ∈ l, 0 ≤ p.day := fun p hp => (h p hp).1.day.1
  have hs := fun f c => cls_small (x := 0) (f := f) (c := c) h
  obtain ⟨lo, hlo⟩ : ∃ q, q = 360 * y := ⟨_, rfl⟩
  obtain ⟨hi, hhi⟩ : ∃ q, q = 360 * y + 359 := ⟨_, rfl⟩
  have e1 : ∀ c, clsM 0 (amidDay 0 hi) c l = clsM 0 (byDay hi) c l := fun c => cls_congr fun p hp => by have := hd0 p hp; simp [this]
  have e2 : ∀ c, clsM 0 (amidDay 0 (lo - 1)) c l = clsM 0 (ereDay lo) c l := fun c => cls_congr fun p hp => by
    have := hd0 p hp
    show (decide (0 ≤ p.day) && decide (p.day ≤ lo - 1)) = decide (p.day < lo)
    rw [decide_eq_true this, Bool.true_and]
    exact decide_eq_decide.2 ⟨by omega, by omega⟩
  have hst : stM y l = ⟨clsM 0 (byDay hi) 1 l, -clsM 0 (byDay hi) 2 l, -clsM 0 (ereDay lo) 3 l - clsM 0 (ereDay lo) 4 l - clsM 0 (ereDay lo) 5 l, -clsM 0 (amidDay lo hi) 4 l, clsM 0 (amidDay lo hi) 5 l⟩ := by rw [hlo, hhi]; rfl
  have H1 := Lib.hid (fun W hW => HCL.out 0 hi W hW)
  have H2 := Lib.hid (fun W hW => HCL.out lo hi W hW)
  have H3 := Lib.hid (fun W hW => HCL.out 0 (lo - 1) W hW)
  unfold cl6 at H1 H2 H3
  simp only [e1] at H1
  simp only [e2] at H3
  have s1 := hs (byDay hi) 1
  have s2 := hs (byDay hi) 2
  have s3 := hs (ereDay lo) 3
  have s4 := hs (ereDay lo) 4
  have s5 := hs (ereDay lo) 5
  have s6 := hs (amidDay lo hi) 4
  have s7 := hs (amidDay lo hi) 5
  unfold stmA
  rw [hst, ← hhi, ← hlo]
  simp only
  generalize clsM 0 (byDay hi) 1 l = k1 at *
  generalize clsM 0 (byDay hi) 2 l = k2 at *
  generalize clsM 0 (byDay hi) 3 l = k3 at *
  generalize clsM 0 (byDay hi) 4 l = k4 at *
  generalize clsM 0 (byDay hi) 5 l = k5 at *
  generalize clsM 0 (ereDay lo) 1 l = m1 at *
  generalize clsM 0 (ereDay lo) 2 l = m2 at *
  generalize clsM 0 (ereDay lo) 3 l = m3 at *
  generalize clsM 0 (ereDay lo) 4 l = m4 at *
  generalize clsM 0 (ereDay lo) 5 l = m5 at *
  generalize clsM 0 (amidDay lo hi) 1 l = n1 at *
  generalize clsM 0 (amidDay lo hi) 2 l = n2 at *
  generalize clsM 0 (amidDay lo hi) 3 l = n3 at *
  generalize clsM 0 (amidDay lo hi) 4 l = n4 at *
  generalize clsM 0 (amidDay lo hi) 5 l = n5 at *
  have hwl : IntKind.i64.wrap (lo - 1) = lo - 1 := IntWalk.i64_in _ (by omega)
  have g1 : IntKind.i64.wrap (-k2) = -k2 := IntWalk.i64_in _ (by omega)
  have g2 : IntKind.i64.wrap (-m3) = -m3 := IntWalk.i64_in _ (by omega)
  have g3 : IntKind.i64.wrap (-m3 - m4) = -m3 - m4 := IntWalk.i64_in _ (by omega)
  have g4 : IntKind.i64.wrap (-m3 - m4 - m5) = -m3 - m4 - m5 := IntWalk.i64_in _ (by omega)
  have g5 : IntKind.i64.wrap (-n4) = -n4 := IntWalk.i64_in _ (by omega)
  obtain ⟨w0, hw0⟩ : ∃ W, W = w.alloc (.cells #[.int .i64 0, .int .i64 0, .int .i64 0, .int .i64 0, .int .i64 0] 38) := ⟨_, rfl⟩
  obtain ⟨bR, hbR⟩ : ∃ b, b = w.heap.size := ⟨_, rfl⟩
  have HB0 : Hid (Below w.heap.size w w0) := Lib.hid (by rw [hw0]; exact below_alloc _ _)
  have HX0 : Hid (w0.heap[bR]? = some (.cells #[.int .i64 0, .int .i64 0, .int .i64 0, .int .i64 0, .int .i64 0] 38 (0, 0))) := Lib.hid (by rw [hw0, hbR]; exact heap_alloc_new _ _)
  have HW0 := Lib.hid hw0
  have HBR := Lib.hid hbR
  clear hs s1 s2 s3 s4 s5 s6 s7 e1 e2 hst hlo hhi hd0 h hl hlen hw0 hbR HCL hy
  go_enter Try.func42, Try.ntmps42
  go_upto_region 1 with fail
  rw [← HW0.out, ← HBR.out]
  go_wp2_with fail
  refine (H1.out _ HB0.out).mono ?_
  rintro e w1 ⟨rfl, hb1⟩
  have HX1 := Lib.hid (obj_below HX0.out hb1)
  have HB1 := Lib.hid (HB0.out.trans (hb1.mono HB0.out.size))
  clear hb1
  go_wp2_with fail
  refine (H2.out _ HB1.out).mono ?_
  rintro e w2 ⟨rfl, hb2⟩
  have HX2 := Lib.hid (obj_below HX1.out hb2)
  have HB2 := Lib.hid (HB1.out.trans (hb2.mono HB1.out.size))
  clear hb2
  go_wp2_with fail
  refine (H3.out _ HB2.out).mono ?_
  rintro e w3 ⟨rfl, hb3⟩
  have HX3 := Lib.hid (obj_below HX2.out hb3)
  have HB3 := Lib.hid (HB2.out.trans (hb3.mono HB2.out.size))
  obtain ⟨w4, hw4⟩ : ∃ W, W = ((w3.alloc (.cells #[.int .i64 0, .int .i64 k1, .int .i64 k2, .int .i64 k3, .int .i64 k4, .int .i64 k5] 92)).alloc (.cells #[.int .i64 0, .int .i64 n1, .int .i64 n2, .int .i64 n3, .int .i64 n4, .int .i64 n5] 92)).alloc (.cells #[.int .i64 0, .int .i64 m1, .int .i64 m2, .int .i64 m3, .int .i64 m4, .int .i64 m5] 92) := ⟨_, rfl⟩
  clear hb3
  obtain ⟨bK, hbK⟩ : ∃ b, b = w3.heap.size := ⟨_, rfl⟩
  have hx1 : w4.heap[bK]? = some (.cells #[.int .i64 0, .int .i64 k1, .int .i64 k2, .int .i64 k3, .int .i64 k4, .int .i64 k5] 92 (0, 0)) := by
    rw [hw4, hbK]
    exact obj_below (obj_below (heap_alloc_new w3 _) (below_alloc _ _)) (below_alloc _ _)
  have hx2 : w4.heap[bK + 1]? = some (.cells #[.int .i64 0, .int .i64 n1, .int .i64 n2, .int .i64 n3, .int .i64 n4, .int .i64 n5] 92 (0, 0)) := by
    rw [hw4, hbK]
    have := heap_alloc_new (w3.alloc (.cells #[.int .i64 0, .int .i64 k1, .int .i64 k2, .int .i64 k3, .int .i64 k4, .int .i64 k5] 92)) (.cells #[.int .i64 0, .int .i64 n1, .int .i64 n2, .int .i64 n3, .int .i64 n4, .int .i64 n5] 92)
    rw [show (w3.alloc (.cells #[.int .i64 0, .int .i64 k1, .int .i64 k2, .int .i64 k3, .int .i64 k4, .int .i64 k5] 92)).heap.size = w3.heap.size + 1 by simp] at this
    exact obj_below this (below_alloc _ _)
  have hx3 : w4.heap[bK + 2]? = some (.cells #[.int .i64 0, .int .i64 m1, .int .i64 m2, .int .i64 m3, .int .i64 m4, .int .i64 m5] 92 (0, 0)) := by
    rw [hw4, hbK]
    have := heap_alloc_new ((w3.alloc (.cells #[.int .i64 0, .int .i64 k1, .int .i64 k2, .int .i64 k3, .int .i64 k4, .int .i64 k5] 92)).alloc (.cells #[.int .i64 0, .int .i64 n1, .int .i64 n2, .int .i64 n3, .int .i64 n4, .int .i64 n5] 92)) (.cells #[.int .i64 0, .int .i64 m1, .int .i64 m2, .int .i64 m3, .int .i64 m4, .int .i64 m5] 92)
    rw [show ((w3.alloc (.cells #[.int .i64 0, .int .i64 k1, .int .i64 k2, .int .i64 k3, .int .i64 k4, .int .i64 k5] 92)).alloc (.cells #[.int .i64 0, .int .i64 n1, .int .i64 n2, .int .i64 n3, .int .i64 n4, .int .i64 n5] 92)).heap.size = w3.heap.size + 2 by simp] at this
    exact this
  have hb4 : Below w3.heap.size w3 w4 := by
    rw [hw4]
    exact (below2 w3 _ _).trans ((below_alloc _ _).mono (below2 w3 _ _).size)
  have HB4 := Lib.hid (HB3.out.trans (hb4.mono HB3.out.size))
  have hxr := obj_below HX3.out hb4
  have HXR := Lib.hid hxr
  have a0 := obj_cell hx1 0
  have a1 := obj_cell hx1 1
  have a2 := obj_cell hx1 2
  have a3 := obj_cell hx1 3
  have a4 := obj_cell hx1 4
  have a5 := obj_cell hx1 5
  simp at a0 a1 a2 a3 a4 a5
  have b0 := obj_cell hx2 0
  have b1 := obj_cell hx2 1
  have b2 := obj_cell hx2 2
  have b3 := obj_cell hx2 3
  have b4 := obj_cell hx2 4
  have b5 := obj_cell hx2 5
  simp at b0 b1 b2 b3 b4 b5
  have d0 := obj_cell hx3 0
  have d1 := obj_cell hx3 1
  have d2 := obj_cell hx3 2
  have d3 := obj_cell hx3 3
  have d4 := obj_cell hx3 4
  have d5 := obj_cell hx3 5
  simp at d0 d1 d2 d3 d4 d5
  have r0 := obj_cell hxr 0
  have r1 := obj_cell hxr 1
  have r2 := obj_cell hxr 2
  have r3 := obj_cell hxr 3
  have r4 := obj_cell hxr 4
  simp at r0 r1 r2 r3 r4
  have fr0 := obj_free hxr 0
  have fr1 := obj_free hxr 1
  have fr2 := obj_free hxr 2
  have fr3 := obj_free hxr 3
  have fr4 := obj_free hxr 4
  have HW4 := Lib.hid hw4
  have HBK := Lib.hid hbK
  clear hw4 hbK hx1 hx2 hx3 hb4 hxr
  go_upto_region 2 with fail
  rw [← HW4.out, ← HBK.out]
  go_wp2
  refine ret5 HXR.out rfl _ _ _ _ _ (v := .agg #[.int .i64 k1, .int .i64 (-k2), .int .i64 (-m3 - m4 - m5), .int .i64 (-n4), .int .i64 n5]) (fun F hF => ?_) rfl ⟨rfl, put5_below HB4.out (by rw [HBR.out]; exact Nat.le_refl _) _ _ _ _ _⟩
  have q0 := obj_cell hF 0
  have q1 := obj_cell hF 1
  have q2 := obj_cell hF 2
  have q3 := obj_cell hF 3
  have q4 := obj_cell hF 4
  simp at q0 q1 q2 q3 q4
  simp [results, Try.results42, go_sem, q0, q1, q2, q3, q4]

end Go.Proofs.Ytoccnindkimjdaa

/- The reference of histories: a year, a total, a right correction. -/
set_option linter.unusedSimpArgs false
set_option linter.unusedVariables false
namespace Go.Proofs.Ytoccnindkimjdaa
open Go.RowKit Go.Lib Go.Proofs

set_option maxHeartbeats 400000 in
theorem rfyear_yes {n : Int} (w : World) (h1 : 0 ≤ n) (h2 : n ≤ 99) : Calls Try.prog 66 #[.int .i64 n] w fun e w' => e = .returned (.bool true) ∧ w = w' := by
  go_enter Try.func66, Try.ntmps66
  go_wp2
  go_ret
  exact ⟨rfl, rfl⟩
set_option maxHeartbeats 400000 in
theorem rsisYear_yes {n : Int} (w : World) (h1 : 0 ≤ n) (h2 : n ≤ 99) : Calls Try.prog 32 #[.int .i64 n] w fun e w' => e = .returned (.bool true) ∧ w = w' := by
  go_enter Try.func32, Try.ntmps32
  go_wp2
  go_ret
  exact ⟨rfl, rfl⟩
set_option maxHeartbeats 400000 in
theorem rTotal_yes {n : Int} (w : World) (h1 : -1000000000000000 ≤ n) (h2 : n ≤ 1000000000000000) : Calls Try.prog 67 #[.int .i64 n] w fun e w' => e = .returned (.bool true) ∧ w = w' := by
  go_enter Try.func67, Try.ntmps67
  go_wp2
  go_ret
  exact ⟨rfl, rfl⟩

set_option maxRecDepth 100000 in
set_option maxHeartbeats 8000000 in
theorem rfcorrection_ok {c : Cor} (h : CorOk c) (v : Value) (w : World) (hl : PstsAt w v c.ps) :
    Calls Try.prog 48 #[.agg #[.int .i64 c.yr, .int .i64 c.fnd, v]] w fun e w' => e = .returned (.bool true) ∧ Below w.heap.size w w' := by
  obtain ⟨cy, cf, l⟩ := c
  obtain ⟨⟨hy0, hy1⟩, ⟨hf0, hf1⟩, ⟨hn0, hn1⟩, hps⟩ := h
  simp only at hy0 hy1 hf0 hf1 hn0 hn1 hps hl ⊢
  obtain ⟨ao, cap, rfl, hcap, hcs⟩ := hl.shape pstF
  have HCS := Lib.hid hcs
  have HPS := Lib.hid hps
  obtain ⟨n, hn⟩ : ∃ n, n = l.length := ⟨_, rfl⟩
  have HN := Lib.hid hn
  rw [← hn] at hcap hn0 hn1 ⊢
  have h360 : IntKind.i64.wrap (360 * cy) = 360 * cy := IntWalk.i64_in _ (by omega)
  have h361 : IntKind.i64.wrap (360 * cy + 360) = 360 * cy + 360 := IntWalk.i64_in _ (by omega)
  have hf2 : ¬ cf < 360 * cy + 360 := by omega
  have hf3 : ¬ (36000 : Int) < cf := by omega
  have hl1 : ¬ (n : Int) < 1 := by omega
  have hl2 : ¬ (20 : Int) < (n : Int) := by omega
  have HYR := Lib.hid (fun (W : World) => rfyear_yes (n := cy) W hy0 hy1)
  obtain ⟨w1, hw1⟩ : ∃ w1, w1 = w.alloc (.cells #[.int .i64 cy, .int .i64 cf, .slice ao n cap] 49) := ⟨_, rfl⟩
  obtain ⟨bC, hbC⟩ : ∃ b, b = w.heap.size := ⟨_, rfl⟩
  have HX1 : Hid (w1.heap[bC]? = some (.cells #[.int .i64 cy, .int .i64 cf, .slice ao n cap] 49 (0, 0))) := Lib.hid (by rw [hw1, hbC]; exact heap_alloc_new w _)
  have HB1 : Hid (Below w.heap.size w w1) := Lib.hid (by rw [hw1]; exact below_alloc w _)
  have HW1 := Lib.hid hw1
  have HBC := Lib.hid hbC
  have hbx := HX1.out
  have ub0 := obj_cell hbx 0
  have ub1 := obj_cell hbx 1
  have ub2 := obj_cell hbx 2
  simp at ub0 ub1 ub2
  clear hn hcs hl hbx hw1 hbC hps
  go_enter Try.func48, Try.ntmps48
  go_upto_region 1 with fail
  rw [← HW1.out, ← HBC.out]
  go_wp2_with fail
  refine (HYR.out _).mono ?_
  rintro e w2 ⟨rfl, rfl⟩
  go_wp2
  go_loopw [38] (fun i wr => ∃ k : Nat, i = .int .i64 k ∧ k ≤ n ∧ Hid (Below w1.heap.size w1 wr)) (fun i _ => n - (RowKit.intOf i).toNat)
  case atStart => exact ⟨0, rfl, by omega, Lib.hid (Below.refl _ _)⟩
  case round =>
    clear ub0 ub1 ub2
    obtain ⟨k, rfl, hkn, HB⟩ := hrel
    by_cases hlt : k < n
    · have hkl' : k < l.length := by rw [← HN.out]; exact hlt
      obtain ⟨b, o, rfl, hb, hcc⟩ := HCS.out (by omega)
      have HWB := Lib.hid (HB1.out.trans (HB.out.mono HB1.out.size))
      have hcell := fun j (hj : j < 8) => (HWB.out.cell (p := ⟨b, o + k * 8 + j, none⟩) hb).trans (hcc k hkl' j hj)
      have hpy := HPS.out _ (List.getElem_mem hkl')
      clear hcc
      generalize l[k] = x at *
      have HP := Lib.hid (fun W => rgPosting_right hpy.ok W)
      have hyr := hpy.yr
      obtain ⟨x0, x1, x2, x3, x4, x5, x6, x7⟩ := x
      simp only [pstC] at HP
      simp only at hyr
      have c0 := hcell 0 (by omega)
      have c1 := hcell 1 (by omega)
      have c2 := hcell 2 (by omega)
      have c3 := hcell 3 (by omega)
      have c4 := hcell 4 (by omega)
      have c5 := hcell 5 (by omega)
      have c6 := hcell 6 (by omega)
      have c7 := hcell 7 (by omega)
      simp [pstC] at c0 c1 c2 c3 c4 c5 c6 c7
      have hk0 : (0 : Int) ≤ (k : Int) := by omega
      have hk1 : (k : Int) < (n : Int) := by omega
      have hwk : IntKind.i64.wrap ((k : Int) + 1) = (k : Int) + 1 := IntWalk.i64_in _ (by omega)
      have hq1 : x1.tdiv 360 = cy := by rw [Int.tdiv_eq_ediv_of_nonneg (by omega)]; omega
      have hq2 : x1 / 360 = cy := by omega
      have hqw : IntKind.i64.wrap cy = cy := IntWalk.i64_in _ (by omega)
      obtain ⟨w8, hw8⟩ : ∃ W, W = wr.alloc (.cells #[.int .i64 x0, .int .i64 x1, .int .i64 x2, .int .i64 x3, .int .i64 x4, .int .i64 x5, .int .i64 x6, .int .i64 x7] 55) := ⟨_, rfl⟩
      obtain ⟨bX, hbX⟩ : ∃ q, q = wr.heap.size := ⟨_, rfl⟩
      have HX8 : Hid (w8.heap[bX]? = some (.cells #[.int .i64 x0, .int .i64 x1, .int .i64 x2, .int .i64 x3, .int .i64 x4, .int .i64 x5, .int .i64 x6, .int .i64 x7] 55 (0, 0))) := Lib.hid (by rw [hw8, hbX]; exact heap_alloc_new _ _)
      have HB8 : Hid (Below w1.heap.size w1 w8) := Lib.hid (by rw [hw8]; exact HB.out.alloc HB.out.size _)
      have hx8 := HX8.out
      have y0 := obj_cell hx8 0
      have y1 := obj_cell hx8 1
      have y2 := obj_cell hx8 2
      have y3 := obj_cell hx8 3
      have y4 := obj_cell hx8 4
      have y5 := obj_cell hx8 5
      have y6 := obj_cell hx8 6
      have y7 := obj_cell hx8 7
      simp at y0 y1 y2 y3 y4 y5 y6 y7
      have HW8 := Lib.hid hw8
      have HBX := Lib.hid hbX
      clear hcell hpy hyr hw8 hbX hx8
      go_upto_region 6 with fail
      rw [← HW8.out, ← HBX.out]
      clear c0 c1 c2 c3 c4 c5 c6 c7
      go_wp2_with fail
      refine (HP.out _).mono ?_
      rintro e w3 ⟨rfl, hb3⟩
      have HB3 := Lib.hid (HB8.out.trans (hb3.mono HB8.out.size))
      have hx3 := obj_below HX8.out hb3
      have z1 := obj_cell hx3 1
      simp at z1
      have hbc := obj_below HX1.out HB3.out
      have ub0 := obj_cell hbc 0
      simp at ub0
      clear hb3 hx3 hbc y0 y1 y2 y3 y4 y5 y6 y7
      go_wp2
      go_roundw
      case rel => exact ⟨k + 1, by first | rfl | go_num, by omega, HB3⟩
      case measure => simp [RowKit.intOf]; omega
    · obtain rfl : k = n := by omega
      have HW2 := Lib.hid (HB1.out.trans (HB.out.mono HB1.out.size))
      clear HCS
      go_wp2
      go_ret
      exact ⟨rfl, HW2.out⟩

end Go.Proofs.Ytoccnindkimjdaa
