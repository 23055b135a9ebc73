/- The walks of IndexChains and IndexGrows. -/
import Derived.Test.YthajkhonapjihabIxT
import Derived.Deep.RegionHeld3
import Derived.Deep.DeepCutAuto
set_option linter.unusedSimpArgs false
set_option linter.unusedVariables false
namespace Go.Proofs.Ythajkhonapjihab
open Go.RowKit Go.Lib Go.Proofs

/-- A world within the laws: the source, the security in block b, the index in block c, its values in a row of the call's own. -/
structure IxI (w : World) (tb b c g cap : Nat) (L : List Int) (W : World) : Prop where
  si : SI w tb W
  sec : W.heap[b]? = some (.cells #[.int .i64 1, .int .i64 1, .int .i64 90, .int .i64 450, .int .i64 5000, .int .i64 6, .bool true] 27 (0, 0))
  ix : W.heap[c]? = some (.cells #[.int .i64 0, .slice (some ⟨g, 0, none⟩) 14 cap] 29 (0, 0))
  own : W.ownsRow w.heap.size 3 1 (.slice (some ⟨g, 0, none⟩) 14 cap) 14 (cellsI L)
  bd : ∀ x ∈ L, 50 ≤ x ∧ x ≤ 150
  nb : b ≠ tb
  nc : c ≠ tb
  gb : g ≠ b
  gc : g ≠ c
theorem IxI.below {w : World} {tb b c g cap : Nat} {L : List Int} {A B : World} (h : IxI w tb b c g cap L A) (hb : Below A.heap.size A B) : IxI w tb b c g cap L B :=
  ⟨h.si.below hb, obj_below h.sec hb, obj_below h.ix hb, ownsRow_below h.own hb, h.bd, h.nb, h.nc, h.gb, h.gc⟩
theorem IxI.drew {w : World} {tb b c g cap : Nat} {L : List Int} {A : World} (h : IxI w tb b c g cap L A) : IxI w tb b c g cap L A.drew := h.below ((Below.refl _ _).drew)
theorem IxI.turn {w : World} {tb b c g cap : Nat} {L : List Int} {A B : World} (h : IxI w tb b c g cap L A) (hi : SI w tb B) (hg : A.grownBy B (some tb)) : IxI w tb b c g cap L B :=
  ⟨hi, obj_turn h.sec hg h.nb, obj_turn h.ix hg h.nc, h.own.kept hg (ownBlock_ne h.own tb hi.lt), h.bd, h.nb, h.nc, h.gb, h.gc⟩
theorem IxI.len {w : World} {tb b c g cap : Nat} {L : List Int} {A : World} (h : IxI w tb b c g cap L A) : L.length = 14 := by have := h.own.1; simpa [cellsI] using this
theorem IxI.set {w : World} {tb b c g cap : Nat} {L : List Int} {A : World} (h : IxI w tb b c g cap L A) (k : Nat) {x : Int} (hx : 50 ≤ x ∧ x ≤ 150) : IxI w tb b c g cap (L.set k x) (A.setCell ⟨g, k, none⟩ (.int .i64 x)) := by
  obtain ⟨h1, h2⟩ := h.own.stored k (.int .i64 x)
  refine ⟨h.si.set (ownBlock_le h.own g rfl) _ _, (Below.heap_setCell A _ _ b (by show b ≠ g; exact fun e => h.gb e.symm)).trans h.sec, (Below.heap_setCell A _ _ c (by show c ≠ g; exact fun e => h.gc e.symm)).trans h.ix, by rw [← cellsI_set]; exact h1, fun y hy => ?_, h.nb, h.nc, h.gb, h.gc⟩
  rcases List.mem_or_eq_of_mem_set hy with hy | rfl
  · exact h.bd y hy
  · exact hx
theorem IxI.idx {w : World} {tb b c g cap : Nat} {L : List Int} {A : World} (h : IxI w tb b c g cap L A) : IdxAt A g L ∧ 14 ≤ cap := idx_own h.own fun x hx => by have := h.bd x hx; omega

set_option maxHeartbeats 8000000 in
theorem ixchains_any (v : Value) (n : Nat) (a : Int) (w : World) (hi : IntsAt w v n w.heap.size) (hn : n ≤ 9223372036854775807) (ha : 0 ≤ a) (ha1 : a ≤ 65535) :
    Calls Try.prog 4 #[v, .int .u16 a] w fun e w' => e = .returned (.bool true) ∧ Below w.heap.size w w' := by
  have HNEW := Lib.hid (sNew_any v n w hi hn)
  have HSN := Lib.hid sane36_any
  have HT := Lib.hid tenth36_any
  have HBD := Lib.hid (show ∀ x ∈ tenthL, 50 ≤ x ∧ x ≤ 150 by decide)
  clear hi hn
  go_enter Try.func4, Try.ntmps4
  go_wp2_with fail
  refine (HNEW.out).mono ?_
  rintro e w1 ⟨rfl, t1, b1⟩
  have HW1 := Lib.hid b1
  have HT1 := Lib.hid t1
  have hlt1 := t1.lt
  clear t1 b1 HNEW
  go_wp2_with fail
  refine (HT.out _).mono ?_
  rintro e w2 ⟨g, rfl, hg, ho, b2⟩
  have hgl := obj_lt ho
  have hI : IxI w1 w.heap.size w2.heap.size (w2.heap.size + 1) g 14 tenthL ((w2.alloc (.cells #[.int .i64 1, .int .i64 1, .int .i64 90, .int .i64 450, .int .i64 5000, .int .i64 6, .bool true] 27)).alloc (.cells #[.int .i64 0, .slice (some ⟨g, 0, none⟩) 14 14] 29)) :=
    ⟨((si_start HT1.out).below b2).below (below2 w2 _ _), alloc1_at w2 _ _, alloc2_at w2 _ _, ownsRow_below (own_of_cells ho (by decide) (by decide) w1.heap.size hg) (below2 w2 _ _), HBD.out, by have := b2.size; omega, by have := b2.size; omega, by omega, by omega⟩
  have HI := Lib.hid hI
  clear hI ho b2 HT HBD
  go_wp2
  generalize (w2.alloc (.cells #[.int .i64 1, .int .i64 1, .int .i64 90, .int .i64 450, .int .i64 5000, .int .i64 6, .bool true] 27)).alloc (.cells #[.int .i64 0, .slice (some ⟨g, 0, none⟩) 14 14] 29) = w3 at *
  obtain ⟨cc, hcc⟩ : ∃ cc, cc = w2.heap.size + 1 := ⟨_, rfl⟩
  obtain ⟨bb, hbb⟩ : ∃ bb, bb = w2.heap.size := ⟨_, rfl⟩
  rw [← hcc]
  rw [← hcc] at HI
  rw [← hbb]
  rw [← hbb] at HI
  clear hcc hbb hgl
  go_loopw [30] (fun iv wr => ∃ (k : Nat) (L : List Int), iv = .int .i64 k ∧ k ≤ 14 ∧ Hid (IxI w1 w.heap.size bb cc g 14 L wr)) (fun iv _ => 14 - (RowKit.intOf iv).toNat)
  case atStart => exact ⟨0, tenthL, rfl, by omega, HI⟩
  case round =>
    clear HI
    obtain ⟨k, L, rfl, hk, HI⟩ := hrel
    by_cases hlt : k < 14
    · have hk0 : (0 : Int) ≤ (k : Int) := by omega
      have hk1 : (k : Int) < 14 := by omega
      have HRG := Lib.hid (fun W (h : SI w1 w.heap.size W) => range_in h 50 150 (by omega) (by omega) (by omega))
      go_upto_region 6 with fail
      have hcs : ∀ j, wr.cell? ⟨cc, j, none⟩ = #[.int .i64 0, .slice (some ⟨g, 0, none⟩) 14 14][j]? := obj_cell HI.out.ix
      go_region_held3 (fun W => ∀ j, W.cell? ⟨cc, j, none⟩ = #[.int .i64 0, .slice (some ⟨g, 0, none⟩) 14 14][j]?) (first | exact hcs | exact hct | exact hcu) (first | (go_at_call 9; refine Calls.mono (HRG.out _ (by first | exact HI.out.si | exact HI.out.drew.si)) ?_; rintro e x6 ⟨r, rfl, r0, r1, hi6, hg6⟩; (have HJ : Hid (IxI w1 w.heap.size bb cc g 14 L x6) := Lib.hid (by first | exact HI.out.turn hi6 hg6 | exact HI.out.drew.turn hi6 hg6)); (have hct : ∀ j, x6.cell? ⟨cc, j, none⟩ = #[.int .i64 0, .slice (some ⟨g, 0, none⟩) 14 14][j]? := obj_cell HJ.out.ix); (have hcl := HJ.out.own.cellAt k (by omega)); (rw [cellsI_get _ k (by rw [HJ.out.len]; omega)] at hcl); (have hfr := HJ.out.own.frozenAt k); (have HJ2 : Hid (IxI w1 w.heap.size bb cc g 14 (L.set k r) (x6.setCell ⟨g, k, none⟩ (.int .i64 r))) := Lib.hid (HJ.out.set k ⟨r0, r1⟩)); (have hcu : ∀ j, (x6.setCell ⟨g, k, none⟩ (.int .i64 r)).cell? ⟨cc, j, none⟩ = #[.int .i64 0, .slice (some ⟨g, 0, none⟩) 14 14][j]? := obj_cell HJ2.out.ix); clear hi6 hg6))
      go_wp2
      go_roundw
      case rel => exact ⟨k + 1, L.set k r, by first | rfl | go_num, by omega, HJ2⟩
      case measure => simp [RowKit.intOf]; omega
    · obtain rfl : k = 14 := by omega
      have HRG := Lib.hid (range_in HI.out.si 90 450 (by omega) (by omega) (by omega))
      have HGB := Lib.hid (show g ≠ bb ∧ g ≠ cc from ⟨HI.out.gb, HI.out.gc⟩)
      go_wp2_with fail
      with_reducible refine Calls.mono (HRG.out) ?_
      rintro e x7 ⟨d, rfl, d0, d1, hi7, hg7⟩
      have HI7 := Lib.hid (HI.out.turn hi7 hg7)
      clear hi7 hg7 HI HRG
      have hs7 := HI7.out.sec
      have hx7 := HI7.out.ix
      have v0 := obj_cell hs7 0
      have v1 := obj_cell hs7 1
      have v2 := obj_cell hs7 2
      have v3 := obj_cell hs7 3
      have v4 := obj_cell hs7 4
      have v5 := obj_cell hs7 5
      have v6 := obj_cell hs7 6
      have u0 := obj_cell hx7 0
      have u1 := obj_cell hx7 1
      simp at v0 v1 v2 v3 v4 v5 v6 u0 u1
      clear hs7 hx7
      have HFI := Lib.hid (fun W (hW : IxI w1 w.heap.size bb cc g 14 L W) => hW.idx)
      have S1 := Lib.hid (fun W (hW : IxI w1 w.heap.size bb cc g 14 L W) => ixScaled_ok hW.idx.1 (Nat.le_refl 14) ha ha1 (show (90 : Int) ≤ 90 by decide) (show (90 : Int) ≤ 450 by decide))
      have S2 := Lib.hid (fun W (hW : IxI w1 w.heap.size bb cc g 14 L W) => ixScaled_ok hW.idx.1 (Nat.le_refl 14) ha ha1 d0 d1)
      have S3 := Lib.hid (fun W (hW : IxI w1 w.heap.size bb cc g 14 L W) => ixCoupon_ok hW.idx.1 (Nat.le_refl 14) ha ha1 d0 d1)
      have S5 := Lib.hid (fun W (hW : IxI w1 w.heap.size bb cc g 14 L W) => ixRatio_ok hW.idx.1 (Nat.le_refl 14) d d0 d1)
      obtain ⟨z0, z1⟩ := HI7.out.idx.1.scale ha ha1 (show (d / 30 - 3).toNat < 14 by omega) (show 0 < 14 by omega)
      have S4 := Lib.hid (fun W => r34Coupon_tenth (a := scaledI L a d) z0 z1 W)
      have hself : scaledI L a 90 = a := by
        have h1 := HI7.out.idx.1.bd 0 (by omega)
        unfold scaledI scaleI
        rw [show ((90 : Int) / 30 - 3).toNat = 0 by decide]
        generalize L.getD 0 0 = y at *
        rw [show 2 * a * y + y = y + a * (2 * y) by rw [Int.mul_comm a (2 * y), Int.mul_assoc 2 y a, Int.mul_comm y a, ← Int.mul_assoc]; omega, Int.add_mul_ediv_right _ _ (show 2 * y ≠ 0 by omega)]
        have : y / (2 * y) = 0 := Int.ediv_eq_zero_of_lt (by omega) (by omega)
        omega
      rw [hself] at S1
      obtain ⟨k, hk⟩ : ∃ k : Nat, d / 30 - 3 = k := ⟨(d / 30 - 3).toNat, by omega⟩
      have hk13 : k < 14 := by omega
      have hki : (k : Int) < 14 := by omega
      have hk0 : (0 : Int) ≤ (k : Int) := by omega
      have HC0 := Lib.hid (fun W (hW : IxI w1 w.heap.size bb cc g 14 L W) => hW.idx.1.at_ 0 (by omega))
      have HCK := Lib.hid (fun W (hW : IxI w1 w.heap.size bb cc g 14 L W) => hW.idx.1.at_ k hk13)
      rw [hk, Int.toNat_natCast] at S5
      generalize scaledI L a d = z at *
      generalize couponI tenthS z = q at *
      generalize L.getD k 0 = vk at *
      generalize L.getD 0 0 = vz at *
      have d30 : d / 30 = (k : Int) + 3 := by omega
      clear hself z0 z1 hk HFI
      go_wp2_with fail
      with_reducible refine Calls.mono (S1.out _ HI7.out) ?_
      rintro e y8 ⟨rfl, by8⟩
      have HI8 := Lib.hid (HI7.out.below by8)
      clear by8 HI7 v0 v1 v2 v3 v4 v5 v6 u0 u1
      have hs8 := HI8.out.sec
      have hx8 := HI8.out.ix
      have v0 := obj_cell hs8 0
      have v1 := obj_cell hs8 1
      have v2 := obj_cell hs8 2
      have v3 := obj_cell hs8 3
      have v4 := obj_cell hs8 4
      have v5 := obj_cell hs8 5
      have v6 := obj_cell hs8 6
      have u0 := obj_cell hx8 0
      have u1 := obj_cell hx8 1
      simp at v0 v1 v2 v3 v4 v5 v6 u0 u1
      clear hs8 hx8
      go_wp2_with fail
      with_reducible refine Calls.mono (S2.out _ HI8.out) ?_
      rintro e y9 ⟨rfl, by9⟩
      have HI9 := Lib.hid (HI8.out.below by9)
      clear by9 HI8 v0 v1 v2 v3 v4 v5 v6 u0 u1
      have hs9 := HI9.out.sec
      have hx9 := HI9.out.ix
      have v0 := obj_cell hs9 0
      have v1 := obj_cell hs9 1
      have v2 := obj_cell hs9 2
      have v3 := obj_cell hs9 3
      have v4 := obj_cell hs9 4
      have v5 := obj_cell hs9 5
      have v6 := obj_cell hs9 6
      have u0 := obj_cell hx9 0
      have u1 := obj_cell hx9 1
      simp at v0 v1 v2 v3 v4 v5 v6 u0 u1
      clear hs9 hx9
      go_wp2_with fail
      with_reducible refine Calls.mono (S3.out _ HI9.out) ?_
      rintro e y10 ⟨rfl, by10⟩
      have HI10 := Lib.hid (HI9.out.below by10)
      clear by10 HI9 v0 v1 v2 v3 v4 v5 v6 u0 u1
      have hs10 := HI10.out.sec
      have hx10 := HI10.out.ix
      have v0 := obj_cell hs10 0
      have v1 := obj_cell hs10 1
      have v2 := obj_cell hs10 2
      have v3 := obj_cell hs10 3
      have v4 := obj_cell hs10 4
      have v5 := obj_cell hs10 5
      have v6 := obj_cell hs10 6
      have u0 := obj_cell hx10 0
      have u1 := obj_cell hx10 1
      simp at v0 v1 v2 v3 v4 v5 v6 u0 u1
      clear hs10 hx10
      go_wp2_with fail
      with_reducible refine Calls.mono (S4.out _) ?_
      rintro e y11 ⟨rfl, by11⟩
      have HI11 := Lib.hid (HI10.out.below by11)
      clear by11 HI10 v0 v1 v2 v3 v4 v5 v6 u0 u1
      have hs11 := HI11.out.sec
      have hx11 := HI11.out.ix
      have v0 := obj_cell hs11 0
      have v1 := obj_cell hs11 1
      have v2 := obj_cell hs11 2
      have v3 := obj_cell hs11 3
      have v4 := obj_cell hs11 4
      have v5 := obj_cell hs11 5
      have v6 := obj_cell hs11 6
      have u0 := obj_cell hx11 0
      have u1 := obj_cell hx11 1
      simp at v0 v1 v2 v3 v4 v5 v6 u0 u1
      clear hs11 hx11
      go_wp2_with fail
      with_reducible refine Calls.mono (S5.out _ HI11.out) ?_
      rintro e y12 ⟨rfl, by12⟩
      have HI12 := Lib.hid (HI11.out.below by12)
      clear by12 HI11 v0 v1 v2 v3 v4 v5 v6 u0 u1
      have hs12 := HI12.out.sec
      have hx12 := HI12.out.ix
      have v0 := obj_cell hs12 0
      have v1 := obj_cell hs12 1
      have v2 := obj_cell hs12 2
      have v3 := obj_cell hs12 3
      have v4 := obj_cell hs12 4
      have v5 := obj_cell hs12 5
      have v6 := obj_cell hs12 6
      have u0 := obj_cell hx12 0
      have u1 := obj_cell hx12 1
      simp at v0 v1 v2 v3 v4 v5 v6 u0 u1
      clear hs12 hx12
      have e0 := HC0.out _ HI12.out
      have ek := HCK.out _ HI12.out
      have HW12 := Lib.hid (HW1.out.grown HI12.out.si.old HW1.out.size (by simp))
      clear S1 S2 S3 S4 S5 HC0 HCK
      go_wp2_with (go_at_call 12; refine (HSN.out _).mono ?_; rintro e w6 ⟨rfl, b6⟩)
      go_ret
      exact ⟨rfl, HW12.out.trans (b6.mono HW12.out.size)⟩

end Go.Proofs.Ythajkhonapjihab
