/- An older claim has no smaller provision, none is more than the claim, and a paid claim has none: for every tape and day. -/
import Derived.Test.YtdnbbahapgkdgaaDoorAaQ
import Derived.Test.YtdnbbahapgkdgaaDoorSrcI
set_option linter.unusedSimpArgs false
set_option linter.unusedVariables false
namespace Go.Proofs.YtdnbbahapgkdgaaDoor
open Go.RowKit Go.Lib Go.Proofs

theorem list_newA {α : Type} {f : α → List Value} {m : Nat} (hf : Fields f m) (w : World) (l : List α) (T : TypeId) : ListAt f m (w.alloc (.cells (cellsL f l).toArray T)) (.slice (some ⟨w.heap.size, 0, none⟩) l.length l.length) l := by
  refine ⟨cellsL_len hf l, _, _, rfl, Nat.le_refl _, Or.inr ⟨w.heap.size, 0, rfl, by simp, fun j hj => ?_⟩⟩
  rw [Nat.zero_add, obj_cell (heap_alloc_new w (.cells (cellsL f l).toArray T)) j]
  simp
theorem saneC_ok : ClmOk (⟨1, 1, 1000, 1000, 0, ⟨#[49]⟩⟩ : Clm) := ⟨by simp, by simp, by simp, by simp, by simp, rfl⟩

set_option maxRecDepth 100000 in
set_option maxHeartbeats 4000000 in
theorem sane41_true (w : World) (hL : Lay w) : Calls Tryd.prog 7 #[] w fun e w' => e = .returned (.bool true) ∧ Below w.heap.size w w' := by
  obtain ⟨w1, hw1⟩ : ∃ W, W = w.alloc (.cells #[.int .i64 1, .int .i64 1, .int .i64 1000, .int .i64 1000, .int .i64 0, .string ⟨#[49]⟩] 28) := ⟨_, rfl⟩
  have HB1 : Hid (Below w.heap.size w w1) := Lib.hid (by rw [hw1]; exact below_alloc _ _)
  have HL1 : Hid (ListAt clmC 6 w1 (.slice (some ⟨w.heap.size, 0, none⟩) 1 1) [(⟨1, 1, 1000, 1000, 0, ⟨#[49]⟩⟩ : Clm)]) := Lib.hid (by rw [hw1]; exact list_newA clmF w ([⟨1, 1, 1000, 1000, 0, ⟨#[49]⟩⟩] : List Clm) 28)
  have HPV := Lib.hid (aaprov_one saneC_ok 100 ⟨by decide, by decide⟩ _ w1 (hL.below HB1.out (Nat.le_refl _)) HL1.out)
  rw [show ((⟨1, 1, 1000, 1000, 0, ⟨#[49]⟩⟩ : Clm).opn * pctA (100 - (⟨1, 1, 1000, 1000, 0, ⟨#[49]⟩⟩ : Clm).day) / 100) = 250 by decide] at HPV
  have HW1 := Lib.hid hw1
  clear hw1 hL
  go_enter Tryd.func7, Tryd.ntmps7
  go_wp2_with fail
  rw [← HW1.out]
  refine (HPV.out).mono ?_
  rintro e w2 ⟨rfl, hb2⟩
  have HB2 := Lib.hid (HB1.out.trans (hb2.mono HB1.out.size))
  clear hb2
  go_wp2
  go_ret
  exact ⟨rfl, HB2.out⟩

set_option maxRecDepth 100000 in
set_option maxHeartbeats 16000000 in
theorem accages_any (v : Value) (n : Nat) (a b : Int) (w : World) (hi : IntsAt w v n w.heap.size) (hn : n ≤ 9223372036854775807) (ha : 0 ≤ a) (ha1 : a ≤ 65535) (hb : 0 ≤ b) (hb1 : b ≤ 65535) (hL : Lay w) :
    Calls Tryd.prog 3 #[v, .int .u16 a, .int .u16 b] w fun e w' => e = .returned (.bool true) ∧ Below w.heap.size w w' := by
  have HNEW := Lib.hid (sNew_any v n w hi hn)
  have HLAY := Lib.hid (fun W (hW : Below w.heap.size w W) => hL.below hW (Nat.le_refl _))
  obtain ⟨ka, hka⟩ : ∃ m, a.tmod 500 = m := ⟨_, rfl⟩
  have hka0 : 0 ≤ ka := by rw [← hka]; exact Int.tmod_nonneg _ ha
  have hka1 : ka < 500 := by rw [← hka]; exact Int.tmod_lt_of_pos _ (by omega)
  obtain ⟨kb, hkb⟩ : ∃ m, b.tmod 500 = m := ⟨_, rfl⟩
  have hkb0 : 0 ≤ kb := by rw [← hkb]; exact Int.tmod_nonneg _ hb
  have hkb1 : kb < 500 := by rw [← hkb]; exact Int.tmod_lt_of_pos _ (by omega)
  have hwa : IntKind.i64.wrap a = a := IntWalk.i64_in _ (by omega)
  have hwb : IntKind.i64.wrap b = b := IntWalk.i64_in _ (by omega)
  have hwka : IntKind.i64.wrap ka = ka := IntWalk.i64_in _ (by omega)
  have hwkb : IntKind.i64.wrap kb = kb := IntWalk.i64_in _ (by omega)
  obtain ⟨dy, hdy⟩ : ∃ m, m = 500 + ka := ⟨_, rfl⟩
  obtain ⟨dz, hdz⟩ : ∃ m, m = dy + kb := ⟨_, rfl⟩
  have hwdy : IntKind.i64.wrap (500 + ka) = dy := by rw [hdy]; exact IntWalk.i64_in _ (by omega)
  have hwdz : IntKind.i64.wrap (dy + kb) = dz := by rw [hdz]; exact IntWalk.i64_in _ (by omega)
  have HDY := Lib.hid hdy
  have HDZ := Lib.hid hdz
  clear hi hn hL hdy hdz
  go_enter Tryd.func3, Tryd.ntmps3
  go_wp2_with fail
  refine (HNEW.out).mono ?_
  rintro e w1 ⟨rfl, t1, b1⟩
  obtain ⟨tb, htb⟩ : ∃ tb, tb = w.heap.size := ⟨_, rfl⟩
  rw [← htb] at t1 ⊢
  have HSI := Lib.hid (si_start t1)
  have HFIN : Hid (∀ W, SI w1 tb W → Below w.heap.size w W) := Lib.hid fun W hW => b1.grown hW.old b1.size (fun q e => by injection e with e; omega)
  clear t1 b1 HNEW htb
  go_wp2_with fail
  refine (n_in HSI.out 100000 (by omega) (by omega)).mono ?_
  rintro e w2 ⟨r, rfl, hr0, hr1, hi2, -⟩
  have HB2 := Lib.hid (HFIN.out _ hi2)
  obtain ⟨nn, hnn⟩ : ∃ m, m = 1 + r := ⟨_, rfl⟩
  have hwn : IntKind.i64.wrap (1 + r) = nn := by rw [hnn]; exact IntWalk.i64_in _ (by omega)
  have hnb : 1 ≤ nn ∧ nn ≤ 100000 := by omega
  have HOK : Hid (ClmOk (⟨1, 1, nn, nn, 500, ⟨#[49]⟩⟩ : Clm)) := Lib.hid ⟨by simp, by simp, by simp only; omega, by simp only; omega, by simp, rfl⟩
  have HOK0 : Hid (ClmOk (⟨1, 1, nn, 0, 500, ⟨#[49]⟩⟩ : Clm)) := Lib.hid ⟨by simp, by simp, by simp only; omega, by simp only; omega, by simp, rfl⟩
  obtain ⟨p, hp⟩ : ∃ z, z = nn * pctA (dy - 500) / 100 := ⟨_, rfl⟩
  obtain ⟨q, hq⟩ : ∃ z, z = nn * pctA (dz - 500) / 100 := ⟨_, rfl⟩
  have hpq : 0 ≤ p ∧ p ≤ q ∧ q ≤ nn := by
    have e1 := pctA_mono (show dy - 500 ≤ dz - 500 by rw [HDZ.out]; omega)
    have e2 := pctA_in (dy - 500)
    have e3 := pctA_in (dz - 500)
    have m1 := Int.mul_le_mul_of_nonneg_left e1 (show (0 : Int) ≤ nn by omega)
    have m2 := Int.mul_le_mul_of_nonneg_left e3.2 (show (0 : Int) ≤ nn by omega)
    have m3 := Int.mul_nonneg (show (0 : Int) ≤ nn by omega) e2.1
    rw [hp, hq]
    generalize nn * pctA (dy - 500) = x at *
    generalize nn * pctA (dz - 500) = y at *
    omega
  have hdy5 : 500 ≤ dy ∧ dy < 1000 := by rw [HDY.out]; omega
  have hdz5 : 500 ≤ dz ∧ dz < 1500 := by rw [HDZ.out]; omega
  have HPV1 := Lib.hid (fun u W (hW : Below w.heap.size w W) (hl : ListAt clmC 6 W u [(⟨1, 1, nn, nn, 500, ⟨#[49]⟩⟩ : Clm)]) => aaprov_one HOK.out dy ⟨by omega, by omega⟩ u W (HLAY.out W hW) hl)
  have HPV2 := Lib.hid (fun u W (hW : Below w.heap.size w W) (hl : ListAt clmC 6 W u [(⟨1, 1, nn, nn, 500, ⟨#[49]⟩⟩ : Clm)]) => aaprov_one HOK.out dz ⟨by omega, by omega⟩ u W (HLAY.out W hW) hl)
  have HPV3 := Lib.hid (fun u W (hW : Below w.heap.size w W) (hl : ListAt clmC 6 W u [(⟨1, 1, nn, 0, 500, ⟨#[49]⟩⟩ : Clm)]) => aaprov_one HOK0.out dy ⟨by omega, by omega⟩ u W (HLAY.out W hW) hl)
  simp only [← hp] at HPV1
  simp only [← hq] at HPV2
  simp only [Int.zero_mul, Int.zero_ediv] at HPV3
  obtain ⟨bX, hbX⟩ : ∃ z, z = w2.heap.size := ⟨_, rfl⟩
  obtain ⟨w3, hw3⟩ : ∃ W, W = w2.alloc (.cells #[.int .i64 1, .int .i64 1, .int .i64 nn, .int .i64 nn, .int .i64 500, .string ⟨#[49]⟩] 28) := ⟨_, rfl⟩
  have HX3 : Hid (w3.heap[bX]? = some (.cells #[.int .i64 1, .int .i64 1, .int .i64 nn, .int .i64 nn, .int .i64 500, .string ⟨#[49]⟩] 28 (0, 0))) := Lib.hid (by rw [hw3, hbX]; exact heap_alloc_new _ _)
  have HB3 : Hid (Below w.heap.size w w3) := Lib.hid (by rw [hw3]; exact HB2.out.alloc HB2.out.size _)
  have hbx : w.heap.size ≤ bX := by rw [hbX]; exact HB2.out.size
  have HW3 := Lib.hid hw3
  have HBX := Lib.hid hbX
  clear hnn hp hq hw3 hbX hi2 HSI HFIN
  go_upto_region 4 with fail
  rw [← HW3.out, ← HBX.out]
  have hx := HX3.out
  have y0 := obj_cell hx 0
  have y1 := obj_cell hx 1
  have y2 := obj_cell hx 2
  have y3 := obj_cell hx 3
  have y4 := obj_cell hx 4
  have y5 := obj_cell hx 5
  simp at y0 y1 y2 y3 y4 y5
  clear hx
  obtain ⟨g1, hg1⟩ : ∃ z, z = w3.heap.size := ⟨_, rfl⟩
  obtain ⟨w4, hw4⟩ : ∃ W, W = w3.alloc (.cells #[.int .i64 1, .int .i64 1, .int .i64 nn, .int .i64 nn, .int .i64 500, .string ⟨#[49]⟩] 28) := ⟨_, rfl⟩
  have HX4 : Hid (w4.heap[bX]? = some (.cells #[.int .i64 1, .int .i64 1, .int .i64 nn, .int .i64 nn, .int .i64 500, .string ⟨#[49]⟩] 28 (0, 0))) := Lib.hid (by rw [hw4]; exact obj_below HX3.out (below_alloc _ _))
  have HB4 : Hid (Below w.heap.size w w4) := Lib.hid (by rw [hw4]; exact HB3.out.alloc HB3.out.size _)
  have HL4 : Hid (ListAt clmC 6 w4 (.slice (some ⟨g1, 0, none⟩) 1 1) [(⟨1, 1, nn, nn, 500, ⟨#[49]⟩⟩ : Clm)]) := Lib.hid (by rw [hw4, hg1]; exact list_newA clmF w3 ([(⟨1, 1, nn, nn, 500, ⟨#[49]⟩⟩ : Clm)] : List Clm) 28)
  have HW4 := Lib.hid hw4
  have HG1 := Lib.hid hg1
  clear hw4 hg1
  go_wp2_with fail
  rw [← HW4.out, ← HG1.out]
  refine (HPV1.out _ _ HB4.out HL4.out).mono ?_
  rintro e w5 ⟨rfl, hb5⟩
  have HB5 := Lib.hid (HB4.out.trans (hb5.mono HB4.out.size))
  have HX5 := Lib.hid (obj_below HX4.out hb5)
  clear hb5 y0 y1 y2 y3 y4 y5 HX3 HX4 HL4 HB3 HB4
  go_upto_region 6 with fail
  have hx := HX5.out
  have y0 := obj_cell hx 0
  have y1 := obj_cell hx 1
  have y2 := obj_cell hx 2
  have y3 := obj_cell hx 3
  have y4 := obj_cell hx 4
  have y5 := obj_cell hx 5
  simp at y0 y1 y2 y3 y4 y5
  clear hx
  obtain ⟨g2, hg2⟩ : ∃ z, z = w5.heap.size := ⟨_, rfl⟩
  obtain ⟨w6, hw6⟩ : ∃ W, W = w5.alloc (.cells #[.int .i64 1, .int .i64 1, .int .i64 nn, .int .i64 nn, .int .i64 500, .string ⟨#[49]⟩] 28) := ⟨_, rfl⟩
  have HX6 : Hid (w6.heap[bX]? = some (.cells #[.int .i64 1, .int .i64 1, .int .i64 nn, .int .i64 nn, .int .i64 500, .string ⟨#[49]⟩] 28 (0, 0))) := Lib.hid (by rw [hw6]; exact obj_below HX5.out (below_alloc _ _))
  have HB6 : Hid (Below w.heap.size w w6) := Lib.hid (by rw [hw6]; exact HB5.out.alloc HB5.out.size _)
  have HL6 : Hid (ListAt clmC 6 w6 (.slice (some ⟨g2, 0, none⟩) 1 1) [(⟨1, 1, nn, nn, 500, ⟨#[49]⟩⟩ : Clm)]) := Lib.hid (by rw [hw6, hg2]; exact list_newA clmF w5 ([(⟨1, 1, nn, nn, 500, ⟨#[49]⟩⟩ : Clm)] : List Clm) 28)
  have HW6 := Lib.hid hw6
  have HG2 := Lib.hid hg2
  clear hw6 hg2
  go_wp2_with fail
  rw [← HW6.out, ← HG2.out]
  refine (HPV2.out _ _ HB6.out HL6.out).mono ?_
  rintro e w7 ⟨rfl, hb7⟩
  have HB7 := Lib.hid (HB6.out.trans (hb7.mono HB6.out.size))
  have HX7 := Lib.hid (obj_below HX6.out hb7)
  clear hb7 y0 y1 y2 y3 y4 y5 HX5 HX6 HL6 HB5 HB6
  obtain ⟨w8, hw8⟩ : ∃ W, W = w7.setCell ⟨bX, 3, none⟩ (.int .i64 0) := ⟨_, rfl⟩
  have HX8 : Hid (w8.heap[bX]? = some (.cells #[.int .i64 1, .int .i64 1, .int .i64 nn, .int .i64 0, .int .i64 500, .string ⟨#[49]⟩] 28 (0, 0))) := Lib.hid (by rw [hw8]; have := obj_set HX7.out 3 (.int .i64 0); simpa using this)
  have HB8 : Hid (Below w.heap.size w w8) := Lib.hid (by rw [hw8]; exact HB7.out.setCell hbx _)
  have HW8 := Lib.hid hw8
  have hx := HX7.out
  have y0 := obj_cell hx 0
  have y1 := obj_cell hx 1
  have y2 := obj_cell hx 2
  have y3 := obj_cell hx 3
  have y4 := obj_cell hx 4
  have y5 := obj_cell hx 5
  simp at y0 y1 y2 y3 y4 y5
  have f3 := obj_free hx 3
  clear hx hw8
  go_upto_region 8 with fail
  rw [← HW8.out]
  clear y0 y1 y2 y3 y4 y5 f3
  have hx := HX8.out
  have y0 := obj_cell hx 0
  have y1 := obj_cell hx 1
  have y2 := obj_cell hx 2
  have y3 := obj_cell hx 3
  have y4 := obj_cell hx 4
  have y5 := obj_cell hx 5
  simp at y0 y1 y2 y3 y4 y5
  clear hx
  obtain ⟨g3, hg3⟩ : ∃ z, z = w8.heap.size := ⟨_, rfl⟩
  obtain ⟨w9, hw9⟩ : ∃ W, W = w8.alloc (.cells #[.int .i64 1, .int .i64 1, .int .i64 nn, .int .i64 0, .int .i64 500, .string ⟨#[49]⟩] 28) := ⟨_, rfl⟩
  have HB9 : Hid (Below w.heap.size w w9) := Lib.hid (by rw [hw9]; exact HB8.out.alloc HB8.out.size _)
  have HL9 : Hid (ListAt clmC 6 w9 (.slice (some ⟨g3, 0, none⟩) 1 1) [(⟨1, 1, nn, 0, 500, ⟨#[49]⟩⟩ : Clm)]) := Lib.hid (by rw [hw9, hg3]; exact list_newA clmF w8 ([(⟨1, 1, nn, 0, 500, ⟨#[49]⟩⟩ : Clm)] : List Clm) 28)
  have HW9 := Lib.hid hw9
  have HG3 := Lib.hid hg3
  clear hw9 hg3
  go_wp2_with fail
  rw [← HW9.out, ← HG3.out]
  refine (HPV3.out _ _ HB9.out HL9.out).mono ?_
  rintro e w10 ⟨rfl, hb10⟩
  have HB10 := Lib.hid (HB9.out.trans (hb10.mono HB9.out.size))
  have HSN := Lib.hid (sane41_true w10 (HLAY.out _ HB10.out))
  obtain ⟨hp0, hp1, hp2⟩ := hpq
  clear hb10 y0 y1 y2 y3 y4 y5
  go_wp2_with fail
  refine (HSN.out).mono ?_
  rintro e w11 ⟨rfl, hb11⟩
  have HB11 := Lib.hid (HB10.out.trans (hb11.mono HB10.out.size))
  clear hb11
  go_wp2
  go_ret
  exact ⟨rfl, HB11.out⟩

end Go.Proofs.YtdnbbahapgkdgaaDoor
