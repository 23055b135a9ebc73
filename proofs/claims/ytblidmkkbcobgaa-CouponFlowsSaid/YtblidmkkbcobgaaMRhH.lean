/- register.fault: the first error of a move on holdings. -/
import Derived.Test.YtblidmkkbcobgaaMRhG
import Derived.Test.YtblidmkkbcobgaaMG2
import Derived.Deep.RegionHeld3
set_option linter.unusedSimpArgs false
set_option linter.unusedVariables false
set_option linter.unusedSimpArgs false
set_option linter.unusedVariables false
namespace Go.Proofs.Ytblidmkkbcobgaa
open Go.RowKit Go.Lib Go.Proofs

theorem alloc3_at (w : World) (a b c : Obj) : (((w.alloc a).alloc b).alloc c).heap[w.heap.size + 2]? = some c := by
  have := heap_alloc_new ((w.alloc a).alloc b) c
  rwa [World.size_alloc, World.size_alloc] at this
theorem alloc3_at1 (w : World) (a b c : Obj) : (((w.alloc a).alloc b).alloc c).heap[w.heap.size + 1]? = some b := (Below.heap_alloc _ _ _ (by simp only [World.size_alloc]; omega)).trans (alloc2_at w a b)
theorem alloc3_at0 (w : World) (a b c : Obj) : (((w.alloc a).alloc b).alloc c).heap[w.heap.size]? = some a := (Below.heap_alloc _ _ _ (by simp only [World.size_alloc]; omega)).trans (alloc1_at w a b)
theorem below3 (w : World) (a b c : Obj) : Below w.heap.size w (((w.alloc a).alloc b).alloc c) := (below2 w a b).alloc (by simp only [World.size_alloc]; omega) _

theorem faultS_L {s : Sec} {l : List Hld} {bd L : Int} {m : Mv} (hL : (if m.kind = 3 then 36000 else s.mat) = L) : faultS s l bd m = (if m.day < bd ∨ m.day < s.iss ∨ L < m.day then 8
  else if m.amt < 1 ∨ 1000000000000 < m.amt ∨ m.amt.tmod s.unit ≠ 0 then 79
  else if endsB m = false then 6
  else if m.kind ≠ 1 ∧ heldM l m.sec m.frm < m.amt then 77
  else if m.kind = 1 ∧ 1000000000000 < outM l m.sec + m.amt then 2
  else 0) := by unfold faultS; rw [hL]

set_option maxHeartbeats 16000000 in
set_option maxRecDepth 100000 in
theorem rxfault_any (secs : List Sec) (l : List Hld) (b m : Mv) (x y z v : Value) (w : World) (hs : ListAt Sec.cells 7 w x secs) (hsl : secs.length ≤ 1000000) (hu : ∀ s ∈ secs, 1 ≤ s.unit)
    (hl : ListAt hldC 3 w v l) (hll : l.length ≤ 1000000) (hok : ∀ h ∈ l, HldOk h) :
    Calls Try.prog 125 #[.agg #[x, y, z], v, .agg (mvC b).toArray, .agg (mvC m).toArray] w fun e w' => e = .returned (.int .i64 (faultM secs l b.day m)) ∧ Below w.heap.size w w' := by
  obtain ⟨res, hres⟩ : ∃ res, res = faultM secs l b.day m := ⟨_, rfl⟩
  rw [← hres]
  obtain ⟨W1, hW1⟩ : ∃ W1, W1 = ((w.alloc (.cells #[x, y, z] 29)).alloc (.cells (mvC b).toArray 104)).alloc (.cells (mvC m).toArray 104) := ⟨_, rfl⟩
  have hB1 : Below w.heap.size w W1 := by rw [hW1]; exact below3 w _ _ _
  have A0 : W1.heap[w.heap.size]? = some (.cells #[x, y, z] 29 (0, 0)) := by rw [hW1]; exact alloc3_at0 w _ _ _
  have A1 : W1.heap[w.heap.size + 1]? = some (.cells (mvC b).toArray 104 (0, 0)) := by rw [hW1]; exact alloc3_at1 w _ _ _
  have A2 : W1.heap[w.heap.size + 2]? = some (.cells (mvC m).toArray 104 (0, 0)) := by rw [hW1]; exact alloc3_at w _ _ _
  have HFI := Lib.hid (rxFind_any secs m.sec x y z W1 (hs.below hB1) hsl)
  have HHA := Lib.hid (fun W (hW : Below w.heap.size w W) => rxhas_any l m v W (hl.below hW) hll (sumB_ok hok hll))
  have HOU := Lib.hid (fun W (hW : Below w.heap.size w W) => rxoutstanding_any l m.sec v W (hl.below hW) hll (sumB_ok hok hll))
  have HEN := Lib.hid (fun W => rxends_any m W)
  obtain ⟨hm0, hm1⟩ : 0 ≤ heldM l m.sec m.frm ∧ heldM l m.sec m.frm ≤ 1000000000000000000 := by
    have := sumH_bound (p := isAt m.sec m.frm) hok; unfold heldM; omega
  obtain ⟨ho0, ho1⟩ : 0 ≤ outM l m.sec ∧ outM l m.sec ≤ 1000000000000000000 := by
    have := sumH_bound (p := isOf m.sec) hok; unfold outM; omega
  obtain ⟨held, hheld⟩ : ∃ held, held = heldM l m.sec m.frm := ⟨_, rfl⟩
  obtain ⟨outs, houts⟩ : ∃ outs, outs = outM l m.sec := ⟨_, rfl⟩
  obtain ⟨en, hen⟩ : ∃ en, en = endsB m := ⟨_, rfl⟩
  rw [← hheld] at HHA hm0 hm1
  rw [← houts] at HOU ho0 ho1
  rw [← hen] at HEN
  have HWE := Lib.hid hW1
  have HB1 := Lib.hid hB1
  have HM : Hid (∀ W, Below W1.heap.size W1 W → W.heap[w.heap.size + 2]? = some (.cells (mvC m).toArray 104 (0, 0)) ∧ W.heap[w.heap.size + 1]? = some (.cells (mvC b).toArray 104 (0, 0))) := Lib.hid fun W hW => ⟨obj_below A2 hW, obj_below A1 hW⟩
  unfold faultM at hres
  obtain ⟨b0, b1, b2, b3, b4, b5, b6⟩ := b
  obtain ⟨nu, da, ki, se, fr, tt, am⟩ := m
  simp only [mvC] at hW1 A1 A2 HM HEN HHA ⊢
  simp only at hres HFI HOU hheld houts
  have a00 := obj_cell A0 0
  have a01 := obj_cell A0 1
  have a02 := obj_cell A0 2
  have a23 := obj_cell A2 3
  simp at a00 a01 a02 a23
  clear A0 A1 A2 hs hl hll hok hsl hB1
  generalize hf : findS se secs = fo at hres HFI
  cases fo with
  | none =>
    simp only at hres
    simp only [Option.getD_none, Option.isSome_none, Sec.zero, Sec.cells] at HFI
    have HRES := Lib.hid hres
    clear hf hres hu hheld houts hen
    go_enter Try.func125, Try.ntmps125
    go_upto_region 1 with fail
    rw [← hW1]
    clear hW1
    go_wp2_with fail
    refine Calls.mono HFI.out ?_
    rintro e x7 ⟨rfl, b7⟩
    obtain ⟨W2, hW2⟩ : ∃ W2, W2 = x7.alloc (.cells #[.int .i64 0, .int .i64 0, .int .i64 0, .int .i64 0, .int .i64 0, .int .i64 0, .bool false] 55) := ⟨_, rfl⟩
    have hB2 : Below W1.heap.size W1 W2 := by rw [hW2]; exact b7.alloc b7.size _
    have hS : W2.heap[x7.heap.size]? = some (.cells #[.int .i64 0, .int .i64 0, .int .i64 0, .int .i64 0, .int .i64 0, .int .i64 0, .bool false] 55 (0, 0)) := by rw [hW2]; exact heap_alloc_new x7 _
    obtain ⟨hm2, hm3⟩ := HM.out _ hB2
    have u2 := obj_cell hm2 2
    have u3 := obj_cell hS 3
    simp at u2 u3
    have HJ2 : Hid (Below w.heap.size w W2) := Lib.hid (HB1.out.trans (hB2.mono HB1.out.size))
    obtain rfl : res = 76 := HRES.out
    clear hm2 hm3 b7 a00 a01 a02 a23 hS hB2
    go_upto_region 2 with fail
    rw [← hW2]
    clear hW2
    by_cases k3 : ki = 3
    · subst k3
      go_wp2
      go_ret
      exact ⟨rfl, HJ2.out⟩
    · go_wp2
      go_ret
      exact ⟨rfl, HJ2.out⟩
  | some s =>
    have hu1 := hu s (findS_id hf).2
    obtain ⟨s0, s1, s2, s3, s4, s5, s6⟩ := s
    simp only at hres hu1
    simp only [Option.getD_some, Option.isSome_some, Sec.cells] at HFI
    clear hf hu
    have hne : s1 ≠ 0 := by omega
    obtain ⟨L, hL⟩ : ∃ L, L = (if ki = 3 then (36000 : Int) else s3) := ⟨_, rfl⟩
    rw [faultS_L (L := L) hL.symm] at hres
    simp only at hres
    rw [← hheld, ← houts, ← hen] at hres
    have HRES := Lib.hid hres
    clear hres hheld houts hen
    have HIN := Lib.hid (fun W => rgwithin_any da s2 L W)
    have HVA := Lib.hid (fun W => Valid_any am W)
    obtain ⟨inn, hinn⟩ : ∃ inn, inn = inB da s2 L := ⟨_, rfl⟩
    rw [← hinn] at HIN
    obtain ⟨va, hva⟩ : ∃ va, va = inB am 0 1000000000000 := ⟨_, rfl⟩
    rw [← hva] at HVA
    have HINN := Lib.hid hinn
    have HVAA := Lib.hid hva
    clear hinn hva
    go_enter Try.func125, Try.ntmps125
    go_upto_region 1 with fail
    rw [← hW1]
    clear hW1
    go_wp2_with fail
    refine Calls.mono HFI.out ?_
    rintro e x7 ⟨rfl, b7⟩
    obtain ⟨W2, hW2⟩ : ∃ W2, W2 = x7.alloc (.cells #[.int .i64 s0, .int .i64 s1, .int .i64 s2, .int .i64 s3, .int .i64 s4, .int .i64 s5, .bool s6] 55) := ⟨_, rfl⟩
    have hB2 : Below W1.heap.size W1 W2 := by rw [hW2]; exact b7.alloc b7.size _
    have HJ2 : Hid (Below w.heap.size w W2) := Lib.hid (HB1.out.trans (hB2.mono HB1.out.size))
    have hS : W2.heap[x7.heap.size]? = some (.cells #[.int .i64 s0, .int .i64 s1, .int .i64 s2, .int .i64 s3, .int .i64 s4, .int .i64 s5, .bool s6] 55 (0, 0)) := by rw [hW2]; exact heap_alloc_new x7 _
    have HCE : Hid (∀ W, Below W2.heap.size W2 W → (W.cell? ⟨w.heap.size + 2, 0, none⟩ = some (.int .i64 nu) ∧ W.cell? ⟨w.heap.size + 2, 1, none⟩ = some (.int .i64 da) ∧ W.cell? ⟨w.heap.size + 2, 2, none⟩ = some (.int .i64 ki) ∧ W.cell? ⟨w.heap.size + 2, 3, none⟩ = some (.int .i64 se) ∧ W.cell? ⟨w.heap.size + 2, 4, none⟩ = some (.int .i64 fr) ∧ W.cell? ⟨w.heap.size + 2, 5, none⟩ = some (.int .i64 tt) ∧ W.cell? ⟨w.heap.size + 2, 6, none⟩ = some (.int .i64 am)) ∧ W.cell? ⟨w.heap.size + 1, 1, none⟩ = some (.int .i64 b1) ∧ W.cell? ⟨x7.heap.size, 1, none⟩ = some (.int .i64 s1) ∧ W.cell? ⟨x7.heap.size, 2, none⟩ = some (.int .i64 s2) ∧ W.cell? ⟨x7.heap.size, 3, none⟩ = some (.int .i64 s3)) := Lib.hid fun W hW => by
      have h1 := HM.out W (hB2.trans (hW.mono hB2.size))
      have h2 := obj_below hS hW
      exact ⟨⟨obj_cell h1.1 0, obj_cell h1.1 1, obj_cell h1.1 2, obj_cell h1.1 3, obj_cell h1.1 4, obj_cell h1.1 5, obj_cell h1.1 6⟩, obj_cell h1.2 1, obj_cell h2 1, obj_cell h2 2, obj_cell h2 3⟩
    obtain ⟨⟨m0, m1, m2, m3, m4, m5, m6⟩, p1, q1, q2, q3⟩ := HCE.out W2 (Below.refl _ _)
    clear hS hB2 b7 a00 a01 a02 a23
    go_upto_region 2 with fail
    rw [← hW2]
    clear hW2
    by_cases k3 : ki = 3
    · obtain rfl : L = 36000 := hL.trans (if_pos k3)
      clear hL
      subst k3
      go_upto_region 7 with fail
      by_cases d1 : da < b1
      · obtain rfl : res = 8 := by
          rw [HRES.out]
          exact if_pos (Or.inl d1)
        go_wp2
        go_ret
        exact ⟨rfl, HJ2.out⟩
      · cases inn with
        | false =>
          obtain rfl : res = 8 := by
            rw [HRES.out]
            refine if_pos ?_
            have h := inB_false.1 HINN.out.symm
            omega
          go_wp2_with (go_at_call 113; with_reducible refine Calls.mono (HIN.out _) ?_; rintro e w9 ⟨rfl, rfl⟩)
          go_ret
          exact ⟨rfl, HJ2.out⟩
        | true =>
          have hin := inB_true.1 HINN.out.symm
          rw [if_neg (by omega)] at HRES
          go_upto_region 9 with (go_at_call 113; with_reducible refine Calls.mono (HIN.out _) ?_; rintro e w9 ⟨rfl, rfl⟩)
          by_cases a1 : am ≤ 0
          · obtain rfl : res = 79 := by
              rw [HRES.out]
              exact if_pos (by omega)
            go_wp2
            go_ret
            exact ⟨rfl, HJ2.out⟩
          · cases va with
            | false =>
              obtain rfl : res = 79 := by
                rw [HRES.out]
                refine if_pos ?_
                have h := inB_false.1 HVAA.out.symm
                omega
              go_wp2_with (go_at_call 118; with_reducible refine Calls.mono (HVA.out _) ?_; rintro e w9 ⟨rfl, rfl⟩)
              go_ret
              exact ⟨rfl, HJ2.out⟩
            | true =>
              have hvb := inB_true.1 HVAA.out.symm
              have hrb : 0 ≤ am.tmod s1 ∧ am.tmod s1 ≤ am := ⟨Int.tmod_nonneg s1 (by omega), by
                rw [Int.tmod_eq_emod_of_nonneg (by omega)]
                have h1 := Int.mul_ediv_add_emod am s1
                have h2 : 0 ≤ s1 * (am / s1) := Int.mul_nonneg (by omega) (Int.ediv_nonneg (by omega) (by omega))
                omega⟩
              have hrw : IntKind.i64.wrap (am.tmod s1) = am.tmod s1 := by rw [IntKind.wrap_i64]; omega
              by_cases r1 : am.tmod s1 = 0
              · rw [if_neg (fun h => h.elim (fun h => by omega) (fun h => h.elim (fun h => by omega) (fun h => h r1)))] at HRES
                go_upto_region 11 with (go_at_call 118; with_reducible refine Calls.mono (HVA.out _) ?_; rintro e w9 ⟨rfl, rfl⟩)
                cases en with
                | false =>
                  obtain rfl : res = 6 := by
                    rw [HRES.out]
                    exact if_pos rfl
                  go_wp2_with (go_at_call 137; with_reducible refine Calls.mono (HEN.out _) ?_; rintro e x8 ⟨rfl, b8⟩; have HB8 : Hid (Below W2.heap.size W2 x8) := Lib.hid b8; clear b8)
                  go_ret
                  exact ⟨rfl, HJ2.out.trans (HB8.out.mono HJ2.out.size)⟩
                | true =>
                  rw [if_neg (by simp)] at HRES
                  go_upto_region 13 with (go_at_call 137; with_reducible refine Calls.mono (HEN.out _) ?_; rintro e x8 ⟨rfl, b8⟩; have HB8 : Hid (Below W2.heap.size W2 x8) := Lib.hid b8; clear b8)
                  have HJ8 : Hid (Below w.heap.size w x8) := Lib.hid (HJ2.out.trans (HB8.out.mono HJ2.out.size))
                  have hcs := (HCE.out _ HB8.out).1
                  obtain ⟨n0, n1, n2, n3, n4, n5, n6⟩ := hcs
                  have hcs : (fun W : World => W.cell? ⟨w.heap.size + 2, 0, none⟩ = some (.int .i64 nu) ∧ W.cell? ⟨w.heap.size + 2, 1, none⟩ = some (.int .i64 da) ∧ W.cell? ⟨w.heap.size + 2, 2, none⟩ = some (.int .i64 3) ∧ W.cell? ⟨w.heap.size + 2, 3, none⟩ = some (.int .i64 se) ∧ W.cell? ⟨w.heap.size + 2, 4, none⟩ = some (.int .i64 fr) ∧ W.cell? ⟨w.heap.size + 2, 5, none⟩ = some (.int .i64 tt) ∧ W.cell? ⟨w.heap.size + 2, 6, none⟩ = some (.int .i64 am)) x8 := ⟨n0, n1, n2, n3, n4, n5, n6⟩
                  simp only at hcs
                  clear m0 m1 m2 m3 m4 m5 m6 p1 q1 q2 q3
                  by_cases k1 : (3 : Int) = 1
                  · exact absurd k1 (by decide)
                  · go_region_held3 (fun W => W.cell? ⟨w.heap.size + 2, 0, none⟩ = some (.int .i64 nu) ∧ W.cell? ⟨w.heap.size + 2, 1, none⟩ = some (.int .i64 da) ∧ W.cell? ⟨w.heap.size + 2, 2, none⟩ = some (.int .i64 3) ∧ W.cell? ⟨w.heap.size + 2, 3, none⟩ = some (.int .i64 se) ∧ W.cell? ⟨w.heap.size + 2, 4, none⟩ = some (.int .i64 fr) ∧ W.cell? ⟨w.heap.size + 2, 5, none⟩ = some (.int .i64 tt) ∧ W.cell? ⟨w.heap.size + 2, 6, none⟩ = some (.int .i64 am)) (first | exact hcs | exact (HCE.out _ HB9.out).1) (first | (go_at_call 138; with_reducible refine Calls.mono (HHA.out _ (HJ8.out.drew)) ?_; rintro e x9 ⟨rfl, b9⟩; have HB9 : Hid (Below W2.heap.size W2 x9) := Lib.hid ((HB8.out.drew).trans (b9.mono (HB8.out.drew).size)); clear b9))
                    all_goals (
                      by_cases o1 : held < am
                      · obtain rfl : res = 77 := by
                          rw [HRES.out]
                          exact if_pos ⟨fun q => k1 q, o1⟩
                        go_wp2
                        go_ret
                        exact ⟨rfl, HJ2.out.trans (HB9.out.mono HJ2.out.size)⟩
                      · obtain rfl : res = 0 := by
                          rw [HRES.out, if_neg (fun h => o1 h.2)]
                          exact if_neg (fun h => k1 h.1)
                        obtain ⟨⟨z0, z1, z2, z3, z4, z5, z6⟩, -⟩ := HCE.out _ HB9.out
                        go_upto_region 15 with fail
                        go_region
                        go_wp2
                        go_ret
                        exact ⟨rfl, HJ2.out.trans ((HB9.out.drew).mono HJ2.out.size)⟩)
              · have hbn : (am.tmod s1 != 0) = true := by simpa using r1
                have hbo : (am % s1 != 0) = true := by rw [← Int.tmod_eq_emod_of_nonneg (by omega)]; exact hbn
                obtain rfl : res = 79 := by
                  rw [HRES.out]
                  exact if_pos (Or.inr (Or.inr r1))
                go_wp2_with (go_at_call 118; with_reducible refine Calls.mono (HVA.out _) ?_; rintro e w9 ⟨rfl, rfl⟩)
                go_ret
                exact ⟨rfl, HJ2.out⟩
    · obtain rfl : L = s3 := hL.trans (if_neg k3)
      clear hL
      go_upto_region 7 with fail
      by_cases d1 : da < b1
      · obtain rfl : res = 8 := by
          rw [HRES.out]
          exact if_pos (Or.inl d1)
        go_wp2
        go_ret
        exact ⟨rfl, HJ2.out⟩
      · cases inn with
        | false =>
          obtain rfl : res = 8 := by
            rw [HRES.out]
            refine if_pos ?_
            have h := inB_false.1 HINN.out.symm
            omega
          go_wp2_with (go_at_call 113; with_reducible refine Calls.mono (HIN.out _) ?_; rintro e w9 ⟨rfl, rfl⟩)
          go_ret
          exact ⟨rfl, HJ2.out⟩
        | true =>
          have hin := inB_true.1 HINN.out.symm
          rw [if_neg (by omega)] at HRES
          go_upto_region 9 with (go_at_call 113; with_reducible refine Calls.mono (HIN.out _) ?_; rintro e w9 ⟨rfl, rfl⟩)
          by_cases a1 : am ≤ 0
          · obtain rfl : res = 79 := by
              rw [HRES.out]
              exact if_pos (by omega)
            go_wp2
            go_ret
            exact ⟨rfl, HJ2.out⟩
          · cases va with
            | false =>
              obtain rfl : res = 79 := by
                rw [HRES.out]
                refine if_pos ?_
                have h := inB_false.1 HVAA.out.symm
                omega
              go_wp2_with (go_at_call 118; with_reducible refine Calls.mono (HVA.out _) ?_; rintro e w9 ⟨rfl, rfl⟩)
              go_ret
              exact ⟨rfl, HJ2.out⟩
            | true =>
              have hvb := inB_true.1 HVAA.out.symm
              have hrb : 0 ≤ am.tmod s1 ∧ am.tmod s1 ≤ am := ⟨Int.tmod_nonneg s1 (by omega), by
                rw [Int.tmod_eq_emod_of_nonneg (by omega)]
                have h1 := Int.mul_ediv_add_emod am s1
                have h2 : 0 ≤ s1 * (am / s1) := Int.mul_nonneg (by omega) (Int.ediv_nonneg (by omega) (by omega))
                omega⟩
              have hrw : IntKind.i64.wrap (am.tmod s1) = am.tmod s1 := by rw [IntKind.wrap_i64]; omega
              by_cases r1 : am.tmod s1 = 0
              · rw [if_neg (fun h => h.elim (fun h => by omega) (fun h => h.elim (fun h => by omega) (fun h => h r1)))] at HRES
                go_upto_region 11 with (go_at_call 118; with_reducible refine Calls.mono (HVA.out _) ?_; rintro e w9 ⟨rfl, rfl⟩)
                cases en with
                | false =>
                  obtain rfl : res = 6 := by
                    rw [HRES.out]
                    exact if_pos rfl
                  go_wp2_with (go_at_call 137; with_reducible refine Calls.mono (HEN.out _) ?_; rintro e x8 ⟨rfl, b8⟩; have HB8 : Hid (Below W2.heap.size W2 x8) := Lib.hid b8; clear b8)
                  go_ret
                  exact ⟨rfl, HJ2.out.trans (HB8.out.mono HJ2.out.size)⟩
                | true =>
                  rw [if_neg (by simp)] at HRES
                  go_upto_region 13 with (go_at_call 137; with_reducible refine Calls.mono (HEN.out _) ?_; rintro e x8 ⟨rfl, b8⟩; have HB8 : Hid (Below W2.heap.size W2 x8) := Lib.hid b8; clear b8)
                  have HJ8 : Hid (Below w.heap.size w x8) := Lib.hid (HJ2.out.trans (HB8.out.mono HJ2.out.size))
                  have hcs := (HCE.out _ HB8.out).1
                  obtain ⟨n0, n1, n2, n3, n4, n5, n6⟩ := hcs
                  have hcs : (fun W : World => W.cell? ⟨w.heap.size + 2, 0, none⟩ = some (.int .i64 nu) ∧ W.cell? ⟨w.heap.size + 2, 1, none⟩ = some (.int .i64 da) ∧ W.cell? ⟨w.heap.size + 2, 2, none⟩ = some (.int .i64 ki) ∧ W.cell? ⟨w.heap.size + 2, 3, none⟩ = some (.int .i64 se) ∧ W.cell? ⟨w.heap.size + 2, 4, none⟩ = some (.int .i64 fr) ∧ W.cell? ⟨w.heap.size + 2, 5, none⟩ = some (.int .i64 tt) ∧ W.cell? ⟨w.heap.size + 2, 6, none⟩ = some (.int .i64 am)) x8 := ⟨n0, n1, n2, n3, n4, n5, n6⟩
                  simp only at hcs
                  clear m0 m1 m2 m3 m4 m5 m6 p1 q1 q2 q3
                  by_cases k1 : (ki : Int) = 1
                  · subst k1
                    rw [if_neg (fun h => h.1 rfl)] at HRES
                    have how : IntKind.i64.wrap (outs + am) = outs + am := by rw [IntKind.wrap_i64]; omega
                    go_region
                    go_upto_region 15 with fail
                    go_region_held3 (fun W => W.cell? ⟨w.heap.size + 2, 0, none⟩ = some (.int .i64 nu) ∧ W.cell? ⟨w.heap.size + 2, 1, none⟩ = some (.int .i64 da) ∧ W.cell? ⟨w.heap.size + 2, 2, none⟩ = some (.int .i64 1) ∧ W.cell? ⟨w.heap.size + 2, 3, none⟩ = some (.int .i64 se) ∧ W.cell? ⟨w.heap.size + 2, 4, none⟩ = some (.int .i64 fr) ∧ W.cell? ⟨w.heap.size + 2, 5, none⟩ = some (.int .i64 tt) ∧ W.cell? ⟨w.heap.size + 2, 6, none⟩ = some (.int .i64 am)) (first | exact hcs | exact (HCE.out _ HB9.out).1) (first | (go_at_call 139; with_reducible refine Calls.mono (HOU.out _ ((HJ8.out.drew).drew)) ?_; rintro e x9 ⟨rfl, b9⟩; have HB9 : Hid (Below W2.heap.size W2 x9) := Lib.hid (((HB8.out.drew).drew).trans (b9.mono ((HB8.out.drew).drew).size)); clear b9))
                    all_goals (
                      by_cases o1 : 1000000000000 < outs + am
                      · obtain rfl : res = 2 := by
                          rw [HRES.out]
                          exact if_pos ⟨by first | rfl | trivial, o1⟩
                        go_wp2
                        go_ret
                        exact ⟨rfl, HJ2.out.trans (HB9.out.mono HJ2.out.size)⟩
                      · obtain rfl : res = 0 := by
                          rw [HRES.out]
                          exact if_neg (fun h => o1 h.2)
                        go_wp2
                        go_ret
                        exact ⟨rfl, HJ2.out.trans (HB9.out.mono HJ2.out.size)⟩)
                  · have hbk : (ki != 1) = true := by simpa using k1
                    have hbe : (ki == 1) = false := by simpa using k1
                    go_region_held3 (fun W => W.cell? ⟨w.heap.size + 2, 0, none⟩ = some (.int .i64 nu) ∧ W.cell? ⟨w.heap.size + 2, 1, none⟩ = some (.int .i64 da) ∧ W.cell? ⟨w.heap.size + 2, 2, none⟩ = some (.int .i64 ki) ∧ W.cell? ⟨w.heap.size + 2, 3, none⟩ = some (.int .i64 se) ∧ W.cell? ⟨w.heap.size + 2, 4, none⟩ = some (.int .i64 fr) ∧ W.cell? ⟨w.heap.size + 2, 5, none⟩ = some (.int .i64 tt) ∧ W.cell? ⟨w.heap.size + 2, 6, none⟩ = some (.int .i64 am)) (first | exact hcs | exact (HCE.out _ HB9.out).1) (first | (go_at_call 138; with_reducible refine Calls.mono (HHA.out _ (HJ8.out.drew)) ?_; rintro e x9 ⟨rfl, b9⟩; have HB9 : Hid (Below W2.heap.size W2 x9) := Lib.hid ((HB8.out.drew).trans (b9.mono (HB8.out.drew).size)); clear b9))
                    all_goals (
                      by_cases o1 : held < am
                      · obtain rfl : res = 77 := by
                          rw [HRES.out]
                          exact if_pos ⟨fun q => k1 q, o1⟩
                        go_wp2
                        go_ret
                        exact ⟨rfl, HJ2.out.trans (HB9.out.mono HJ2.out.size)⟩
                      · obtain rfl : res = 0 := by
                          rw [HRES.out, if_neg (fun h => o1 h.2)]
                          exact if_neg (fun h => k1 h.1)
                        obtain ⟨⟨z0, z1, z2, z3, z4, z5, z6⟩, -⟩ := HCE.out _ HB9.out
                        go_upto_region 15 with fail
                        go_region
                        go_wp2
                        go_ret
                        exact ⟨rfl, HJ2.out.trans ((HB9.out.drew).mono HJ2.out.size)⟩)
              · have hbn : (am.tmod s1 != 0) = true := by simpa using r1
                have hbo : (am % s1 != 0) = true := by rw [← Int.tmod_eq_emod_of_nonneg (by omega)]; exact hbn
                obtain rfl : res = 79 := by
                  rw [HRES.out]
                  exact if_pos (Or.inr (Or.inr r1))
                go_wp2_with (go_at_call 118; with_reducible refine Calls.mono (HVA.out _) ?_; rintro e w9 ⟨rfl, rfl⟩)
                go_ret
                exact ⟨rfl, HJ2.out⟩

end Go.Proofs.Ytblidmkkbcobgaa
