/- Greater rates never cost less, and shifted rates stay a path: for every tape and number. -/
import Derived.Test.YtblidmkkbcobgaaMRkQ
set_option linter.unusedSimpArgs false
set_option linter.unusedVariables false
set_option linter.unusedSimpArgs false
set_option linter.unusedVariables false
namespace Go.Proofs.Ytblidmkkbcobgaa
open Go.RowKit Go.Lib Go.Proofs

theorem shift_zero {l : List Int} (h : RatesOk l) : l.map (shiftM 0) = l := by
  have : ∀ q ∈ l, shiftM 0 q = q := fun q hq => by have := h q hq; unfold shiftM; omega
  exact (List.map_congr_left this).trans (List.map_id' l)
theorem cost_none (r : Reg) (first : Int) (A : List Int) : ∀ i : Nat, costM r first A A i = 0
  | 0 => rfl
  | i + 1 => by simp only [costM, cost_none r first A i]; omega

set_option maxRecDepth 100000 in
set_option maxHeartbeats 16000000 in
theorem rirates_any (v : Value) (l : Nat) (a : Int) (w : World) (hi : IntsAt w v l w.heap.size) (hn : l ≤ 9223372036854775807) (ha : 0 ≤ a) (ha1 : a ≤ 65535) :
    Calls Try.prog 4 #[v, .int .u16 a] w fun e w' => e = .returned (.bool true) ∧ Below w.heap.size w w' := by
  have HNEW := Lib.hid (sNew_any v l w hi hn)
  have HSN := Lib.hid sane39_any
  clear hi hn
  go_enter Try.func4, Try.ntmps4
  go_wp2_with fail
  refine (HNEW.out).mono ?_
  rintro e w1 ⟨rfl, t1, b1⟩
  obtain ⟨tb, htb⟩ : ∃ tb, tb = w.heap.size := ⟨_, rfl⟩
  rw [← htb] at t1 ⊢
  have HRS := Lib.hid (sRegister_any tb 8 w1 t1 (by omega))
  have HFIN : Hid (∀ W, SI w1 tb W → Below w.heap.size w W) := Lib.hid fun W hW => b1.grown hW.old b1.size (fun q e => by injection e with e; omega)
  clear t1 b1 HNEW htb
  go_wp2_with fail
  with_reducible refine Calls.mono HRS.out ?_
  rintro e w2 ⟨x, y, z, r, d, rfl, hG, hs0, hs1, hml, hd, hra, hsi⟩
  obtain ⟨a0, n0, c0, b0, m0, d0, e0, k0, f0, rfl, rfl, rfl⟩ := hra.slices
  obtain ⟨bR, hbR⟩ : ∃ b, b = w2.heap.size := ⟨_, rfl⟩
  obtain ⟨w3, hw3⟩ : ∃ W, W = w2.alloc (.cells #[.slice a0 n0 c0, .slice b0 m0 d0, .slice e0 k0 f0] 29) := ⟨_, rfl⟩
  have HI3 : Hid (RgI w1 tb bR (.slice a0 n0 c0) (.slice b0 m0 d0) (.slice e0 k0 f0) r w3) := Lib.hid (by
    rw [hw3, hbR]
    have hlt := hsi.lt
    have hsz := hsi.old.size
    exact ⟨hsi.alloc _, heap_alloc_new _ _, hra.below (below_alloc _ _), by omega, hsz⟩)
  have HG := Lib.hid hG
  clear hG hra hsi HRS hs0 hs1 hml
  go_upto_region 3 with fail
  rw [← hw3, ← hbR]
  clear hw3 hbR
  go_wp2_with fail
  with_reducible refine Calls.mono (sRates_any tb w3 HI3.out.si.src) ?_
  rintro e w4 ⟨vr, ql, rfl, hq1, hq2, hq3, hown, hsi4, hg4⟩
  have HI4 := Lib.hid (HI3.out.turn hsi4.src hg4)
  have hvl : ListAt intC 1 w4 vr ql := by unfold ListAt; rw [cellsL_int]; exact RowG.owns hown
  have HVL : Hid (∀ W, Below w4.heap.size w4 W → ListAt intC 1 W vr ql) := Lib.hid fun W hW => hvl.below hW
  have HRG : Hid (∀ W, Below w4.heap.size w4 W → RgI w1 tb bR (.slice a0 n0 c0) (.slice b0 m0 d0) (.slice e0 k0 f0) r W) := Lib.hid fun W hW => HI4.out.below hW
  obtain ⟨dq, hdq⟩ : ∃ dq, dq = a % 20001 := ⟨_, rfl⟩
  have hd0 : 0 ≤ dq ∧ dq ≤ 20000 := by omega
  have HC : Hid (∀ (d : Int) W, -20000 ≤ d ∧ d ≤ 20000 → Below w4.heap.size w4 W → Calls Try.prog 17 #[.agg #[.slice a0 n0 c0, .slice b0 m0 d0, .slice e0 k0 f0], .int .i64 0, vr, .int .i64 d] W fun e w' => e = .returned (.tuple #[.int .i64 (costM r 0 ql (ql.map (shiftM d)) ql.length), .int .i64 0]) ∧ Below W.heap.size W w') := Lib.hid fun d W hd hW =>
    riCost_ok r _ _ _ vr 0 d ql W HG.out.ok (HRG.out W hW).reg (HVL.out W hW) (by omega) (by omega) hq3 hd
  have HS : Hid (∀ (d : Int) W, -20000 ≤ d ∧ d ≤ 20000 → Below w4.heap.size w4 W → Calls Try.prog 19 #[vr, .int .i64 d] W fun e w' => ∃ u, e = .returned u ∧ ListAt intC 1 w' u (ql.map (shiftM d)) ∧ Below W.heap.size W w') := Lib.hid fun d W hd hW =>
    (rishifted_ok ql d vr W (HVL.out W hW) (by omega) hq3 hd).mono fun e w' ⟨u, h1, h2, h3⟩ => ⟨u, h1, by unfold ListAt; rw [List.length_map, cellsL_int]; exact RowG.owns h2, h3⟩
  have HP : Hid (∀ (d : Int) u W, ListAt intC 1 W u (ql.map (shiftM d)) → Calls Try.prog 18 #[u] W fun e w' => e = .returned (.bool true) ∧ Below W.heap.size W w') := Lib.hid fun d u W hu =>
    riPath_ok _ u W hu (by rw [List.length_map]; omega) (shift_in d ql)
  obtain ⟨A, hA⟩ : ∃ A, A = costM r 0 ql (ql.map (shiftM dq)) ql.length := ⟨_, rfl⟩
  obtain ⟨C, hC⟩ : ∃ C, C = costM r 0 ql (ql.map (shiftM (-dq))) ql.length := ⟨_, rfl⟩
  have hA0 : 0 ≤ A := by rw [hA]; exact cost_shift_up HG.out.ok hq3 hd0.1 _
  have hC0 : C ≤ 0 := by rw [hC]; exact cost_shift_down HG.out.ok hq3 (by omega) _
  have HA := Lib.hid (fun W hW => HC.out dq W (by omega) hW)
  have HB := Lib.hid (fun W hW => HC.out 0 W (by omega) hW)
  have HD := Lib.hid (fun W hW => HC.out (-dq) W (by omega) hW)
  rw [← hA] at HA
  rw [shift_zero hq3, cost_none] at HB
  rw [← hC] at HD
  have HSA := Lib.hid (fun W hW => HS.out dq W (by omega) hW)
  have HSD := Lib.hid (fun W hW => HS.out (-dq) W (by omega) hW)
  have hwa : IntKind.i64.wrap a = a := IntWalk.i64_in _ (by omega)
  have hrm : a.tmod 20001 = dq := by rw [Int.tmod_eq_emod_of_nonneg ha]; exact hdq.symm
  have hrm2 : a % 20001 = dq := hdq.symm
  have hwd : IntKind.i64.wrap dq = dq := IntWalk.i64_in _ (by omega)
  have hwn : IntKind.i64.wrap (-dq) = -dq := IntWalk.i64_in _ (by omega)
  have hx := HI4.out.box
  have s0 := obj_cell hx 0
  have s1 := obj_cell hx 1
  have s2 := obj_cell hx 2
  simp at s0 s1 s2
  clear hown hsi4 hg4 hvl HI3 hx HC HS HVL hA hC hdq hq3
  go_wp2_with fail
  refine (HA.out _ (Below.refl _ _)).mono ?_
  rintro e w5 ⟨rfl, hb5⟩
  have HB5 := Lib.hid hb5
  have hx := (HRG.out _ hb5).box
  have u0 := obj_cell hx 0
  have u1 := obj_cell hx 1
  have u2 := obj_cell hx 2
  simp at u0 u1 u2
  clear hb5 hx s0 s1 s2
  go_wp2_with fail
  refine (HB.out _ HB5.out).mono ?_
  rintro e w6 ⟨rfl, hb6⟩
  have HB6 := Lib.hid (HB5.out.trans (hb6.mono HB5.out.size))
  have hx := (HRG.out _ HB6.out).box
  have s0 := obj_cell hx 0
  have s1 := obj_cell hx 1
  have s2 := obj_cell hx 2
  simp at s0 s1 s2
  clear hb6 hx u0 u1 u2 HB5
  go_wp2_with fail
  refine (HD.out _ HB6.out).mono ?_
  rintro e w7 ⟨rfl, hb7⟩
  have HB7 := Lib.hid (HB6.out.trans (hb7.mono HB6.out.size))
  clear hb7 s0 s1 s2 HB6
  go_wp2_with fail
  refine (HSA.out _ HB7.out).mono ?_
  rintro e w8 ⟨u, rfl, hu, hb8⟩
  have HB8 := Lib.hid (HB7.out.trans (hb8.mono HB7.out.size))
  have HU := Lib.hid hu
  clear hu hb8 HB7
  go_wp2_with fail
  refine (HP.out _ _ _ HU.out).mono ?_
  rintro e w9 ⟨rfl, hb9⟩
  have HB9 := Lib.hid (HB8.out.trans (hb9.mono HB8.out.size))
  clear hb9 HB8 HU
  go_wp2_with fail
  refine (HSD.out _ HB9.out).mono ?_
  rintro e w10 ⟨u2, rfl, hu, hb10⟩
  have HB10 := Lib.hid (HB9.out.trans (hb10.mono HB9.out.size))
  have HU := Lib.hid hu
  clear hu hb10 HB9
  go_wp2_with fail
  refine (HP.out _ _ _ HU.out).mono ?_
  rintro e w11 ⟨rfl, hb11⟩
  have HB11 := Lib.hid (HB10.out.trans (hb11.mono HB10.out.size))
  clear hb11 HB10 HU
  go_wp2_with fail
  refine (HSN.out _).mono ?_
  rintro e w12 ⟨rfl, hb12⟩
  have HE := Lib.hid (HFIN.out _ (HRG.out _ (HB11.out.trans (hb12.mono HB11.out.size))).si)
  clear hb12
  go_wp2
  go_ret
  exact ⟨rfl, HE.out⟩

end Go.Proofs.Ytblidmkkbcobgaa
