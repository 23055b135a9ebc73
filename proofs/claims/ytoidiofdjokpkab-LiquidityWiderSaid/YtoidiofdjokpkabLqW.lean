/- The walk of LiquidityWider: a wider band, smaller lots that divide the old ones, or more that can be raised or placed never makes a day impossible that was possible, and never needs more; for every tape. -/
import Derived.Test.YtoidiofdjokpkabLqD
namespace Go.Proofs.Ytoidiofdjokpkab
open Go.RowKit Go.Lib Go.Proofs

/-- What is decided is small enough to add. -/
theorem okB_sum {b : Bnd} (h : BndOk b) (a : Int) (hk : okB b a = true) : 0 ≤ raiseI b a ∧ raiseI b a ≤ 1000000000000 ∧ 0 ≤ placeI b a ∧ placeI b a ≤ 1000000000000 := by
  unfold okB at hk
  obtain ⟨h1, h2, _⟩ := enoughB_iff.1 hk
  have := h.mr1
  have := h.mp1
  omega
theorem dec_of_ok {b : Bnd} {a : Int} (h : okB b a = true) : decR b a = raiseI b a ∧ decP b a = placeI b a := by
  unfold decR decP; rw [if_pos h, if_pos h]; exact ⟨rfl, rfl⟩

set_option maxHeartbeats 8000000 in
theorem lqwider_any (v : Value) (n : Nat) (x : Int) (w : World) (hi : IntsAt w v n w.heap.size) (hn : n ≤ 9223372036854775807) (x0 : 0 ≤ x) (x1 : x ≤ 255) :
    Calls Try.prog 4 #[v, .int .u8 x] w fun e w' => e = .returned (.bool true) ∧ Below w.heap.size w w' := by
  have HNEW := Lib.hid (sNew_any v n w hi hn)
  have HSN := Lib.hid sane30_any
  clear hi hn
  go_enter Try.func4, Try.ntmps4
  go_wp2_with fail
  refine (HNEW.out).mono ?_
  rintro e w1 ⟨rfl, t1, b1⟩
  have HS := Lib.hid (sBand_any w.heap.size w1 t1)
  have B1 := Lib.hid b1
  clear t1 b1 HNEW
  go_wp2_with fail
  refine (HS.out).mono ?_
  rintro e w2 ⟨b, rfl, hok, hlo, hhi, hlt, hmr, hmp, hl4, t2, g2⟩
  have HX := Lib.hid (show BInv w w2.heap.size b (w2.alloc (.cells b.cells.toArray 26)) from ⟨heap_alloc_new w2 _, (B1.out.grown g2 B1.out.size (by simp)).alloc (B1.out.grown g2 B1.out.size (by simp)).size _⟩)
  have HRG := Lib.hid (range_in ((si_start t2).alloc (.cells b.cells.toArray 26)) (-300) 300 (by omega) (by omega) (by omega))
  have hbne : w2.heap.size ≠ w.heap.size := by have := t2.lt; omega
  have hwl : w.heap.size < w2.heap.size := t2.lt
  have HNE := Lib.hid hbne
  have HWL := Lib.hid hwl
  have HOK := Lib.hid hok
  have k0 := hok.lo0
  have k1 := hok.le
  have k2 := hok.lot0
  have k3 := hok.mr0
  have k4 := hok.mp0
  have HD := Lib.hid (fun a (h0 : -1000000000000000 ≤ a) (h1 : a ≤ 1000000000000000) W => lqDecide_any hok a h0 h1 W)
  clear t2 g2 HS B1 hbne hwl hok
  obtain ⟨lo, hi, lt, mr, mp⟩ := b
  simp only [Bnd.cells] at HX HRG HD hlo hhi hlt hmr hmp hl4 k0 k1 k2 k3 k4 ⊢
  go_wp2_with fail
  with_reducible refine (HRG.out).mono ?_
  rintro e w3 ⟨a, rfl, a0, a1, hi3, hg3⟩
  have HX3 : Hid (BInv w w2.heap.size ⟨lo, hi, lt, mr, mp⟩ w3) := Lib.hid ⟨obj_turn HX.out.box hg3 HNE.out, HX.out.old.grown hg3 HX.out.old.size (by simp)⟩
  have hc3 := HX3.out.box
  have v0 := obj_cell hc3 0
  have v1 := obj_cell hc3 1
  have v2 := obj_cell hc3 2
  have v3 := obj_cell hc3 3
  have v4 := obj_cell hc3 4
  simp [Bnd.cells] at v0 v1 v2 v3 v4
  have HDA := Lib.hid (fun W => HD.out a (by omega) (by omega) W)
  clear hc3 hi3 hg3 HX HRG
  go_wp2_with fail
  with_reducible refine (HDA.out _).mono ?_
  rintro e w4 ⟨rfl, b4⟩
  have HX4 := Lib.hid (HX3.out.below b4)
  have hc4 := HX4.out.box
  clear v0 v1 v2 v3 v4
  have v0 := obj_cell hc4 0
  have v1 := obj_cell hc4 1
  have v2 := obj_cell hc4 2
  have v3 := obj_cell hc4 3
  have v4 := obj_cell hc4 4
  simp [Bnd.cells] at v0 v1 v2 v3 v4
  clear b4 HX3 HDA
  clear hc4
  have y0 := Int.emod_nonneg x (show (7 : Int) ≠ 0 by decide)
  have y1 := Int.emod_lt_of_pos x (show (0 : Int) < 7 by decide)
  have hraw : 0 ≤ raiseI ⟨lo, hi, lt, mr, mp⟩ a ∧ 0 ≤ placeI ⟨lo, hi, lt, mr, mp⟩ a ∧ 0 ≤ decR ⟨lo, hi, lt, mr, mp⟩ a ∧ 0 ≤ decP ⟨lo, hi, lt, mr, mp⟩ a := by
    obtain ⟨r0, p0, _⟩ := raise_place HOK.out a
    refine ⟨r0, p0, ?_, ?_⟩
    · unfold decR; split <;> omega
    · unfold decP; split <;> omega
  have HK := Lib.hid (okB_sum HOK.out a)
  clear HD
  rcases hl4 with rfl | rfl | rfl | rfl
  · have hokc : BndOk ⟨lo - x % 7, hi + x, 1, mr + x, mp + x⟩ := bnd_ok_mk (by omega) (by omega) (by omega) (by omega) (by omega) (by omega) (by omega) (by omega) (by omega)
    have HW := Lib.hid (fun (h : okB ⟨lo, hi, 1, mr, mp⟩ a = true) => wider hokc (b := ⟨lo, hi, 1, mr, mp⟩) (show lo - x % 7 ≤ lo by omega) (show hi ≤ hi + x by omega) (show mr ≤ mr + x by omega) (show mp ≤ mp + x by omega) (show (1 : Int) ∣ 1 by decide) h)
    have HD2 := Lib.hid (fun W => lqDecide_any hokc a (by omega) (by omega) W)
    have HK2 := Lib.hid (okB_sum hokc a)
    have HRT := Lib.hid (fun (h : okB ⟨lo, hi, 1, mr, mp⟩ a = true) => dec_of_ok h)
    have HRT2 := Lib.hid (fun (h : okB ⟨lo - x % 7, hi + x, 1, mr + x, mp + x⟩ a = true) => dec_of_ok h)
    simp only [Bnd.cells] at HD2
    generalize raiseI ⟨lo, hi, 1, mr, mp⟩ a = r at *
    generalize placeI ⟨lo, hi, 1, mr, mp⟩ a = p at *
    generalize decR ⟨lo, hi, 1, mr, mp⟩ a = R at *
    generalize decP ⟨lo, hi, 1, mr, mp⟩ a = P at *
    generalize okB ⟨lo, hi, 1, mr, mp⟩ a = k at *
    generalize raiseI ⟨lo - x % 7, hi + x, 1, mr + x, mp + x⟩ a = r2 at *
    generalize placeI ⟨lo - x % 7, hi + x, 1, mr + x, mp + x⟩ a = p2 at *
    generalize decR ⟨lo - x % 7, hi + x, 1, mr + x, mp + x⟩ a = R2 at *
    generalize decP ⟨lo - x % 7, hi + x, 1, mr + x, mp + x⟩ a = P2 at *
    generalize okB ⟨lo - x % 7, hi + x, 1, mr + x, mp + x⟩ a = k2' at *
    have HX5 := Lib.hid (HX4.out.below (below_alloc w4 (.cells #[.int .i64 (lo - x % 7), .int .i64 (hi + x), .int .i64 1, .int .i64 (mr + x), .int .i64 (mp + x)] 26)))
    clear HX4 hokc HOK
    go_wp2_with fail
    with_reducible refine (HD2.out _).mono ?_
    rintro e w5 ⟨rfl, b5⟩
    have HX6 := Lib.hid (HX5.out.below b5)
    clear b5 HX5 HD2 v0 v1 v2 v3 v4
    cases k with
    | false =>
      clear HW HRT HRT2 HK HK2
      go_wp2_with (go_at_call 11; refine (HSN.out _).mono ?_; rintro e w6 ⟨rfl, b6⟩)
      go_ret
      exact ⟨rfl, (HX6.out.below b6).old⟩
    | true =>
      obtain ⟨rfl, hle⟩ := HW.out rfl
      obtain ⟨rfl, rfl⟩ := HRT.out rfl
      obtain ⟨rfl, rfl⟩ := HRT2.out rfl
      have hs1 := HK.out rfl
      have hs2 := HK2.out rfl
      clear HW HRT HRT2 HK HK2
      go_wp2_with (go_at_call 11; refine (HSN.out _).mono ?_; rintro e w6 ⟨rfl, b6⟩)
      go_ret
      exact ⟨rfl, (HX6.out.below b6).old⟩
  · have hokc : BndOk ⟨lo - x % 7, hi + x, 4, mr + x, mp + x⟩ := bnd_ok_mk (by omega) (by omega) (by omega) (by omega) (by omega) (by omega) (by omega) (by omega) (by omega)
    have HW := Lib.hid (fun (h : okB ⟨lo, hi, 4, mr, mp⟩ a = true) => wider hokc (b := ⟨lo, hi, 4, mr, mp⟩) (show lo - x % 7 ≤ lo by omega) (show hi ≤ hi + x by omega) (show mr ≤ mr + x by omega) (show mp ≤ mp + x by omega) (show (4 : Int) ∣ 4 by decide) h)
    have HD2 := Lib.hid (fun W => lqDecide_any hokc a (by omega) (by omega) W)
    have HK2 := Lib.hid (okB_sum hokc a)
    have HRT := Lib.hid (fun (h : okB ⟨lo, hi, 4, mr, mp⟩ a = true) => dec_of_ok h)
    have HRT2 := Lib.hid (fun (h : okB ⟨lo - x % 7, hi + x, 4, mr + x, mp + x⟩ a = true) => dec_of_ok h)
    simp only [Bnd.cells] at HD2
    generalize raiseI ⟨lo, hi, 4, mr, mp⟩ a = r at *
    generalize placeI ⟨lo, hi, 4, mr, mp⟩ a = p at *
    generalize decR ⟨lo, hi, 4, mr, mp⟩ a = R at *
    generalize decP ⟨lo, hi, 4, mr, mp⟩ a = P at *
    generalize okB ⟨lo, hi, 4, mr, mp⟩ a = k at *
    generalize raiseI ⟨lo - x % 7, hi + x, 4, mr + x, mp + x⟩ a = r2 at *
    generalize placeI ⟨lo - x % 7, hi + x, 4, mr + x, mp + x⟩ a = p2 at *
    generalize decR ⟨lo - x % 7, hi + x, 4, mr + x, mp + x⟩ a = R2 at *
    generalize decP ⟨lo - x % 7, hi + x, 4, mr + x, mp + x⟩ a = P2 at *
    generalize okB ⟨lo - x % 7, hi + x, 4, mr + x, mp + x⟩ a = k2' at *
    have HX5 := Lib.hid (HX4.out.below (below_alloc w4 (.cells #[.int .i64 (lo - x % 7), .int .i64 (hi + x), .int .i64 4, .int .i64 (mr + x), .int .i64 (mp + x)] 26)))
    clear HX4 hokc HOK
    go_wp2_with fail
    with_reducible refine (HD2.out _).mono ?_
    rintro e w5 ⟨rfl, b5⟩
    have HX6 := Lib.hid (HX5.out.below b5)
    clear b5 HX5 HD2 v0 v1 v2 v3 v4
    cases k with
    | false =>
      clear HW HRT HRT2 HK HK2
      go_wp2_with (go_at_call 11; refine (HSN.out _).mono ?_; rintro e w6 ⟨rfl, b6⟩)
      go_ret
      exact ⟨rfl, (HX6.out.below b6).old⟩
    | true =>
      obtain ⟨rfl, hle⟩ := HW.out rfl
      obtain ⟨rfl, rfl⟩ := HRT.out rfl
      obtain ⟨rfl, rfl⟩ := HRT2.out rfl
      have hs1 := HK.out rfl
      have hs2 := HK2.out rfl
      clear HW HRT HRT2 HK HK2
      go_wp2_with (go_at_call 11; refine (HSN.out _).mono ?_; rintro e w6 ⟨rfl, b6⟩)
      go_ret
      exact ⟨rfl, (HX6.out.below b6).old⟩
  · have hokc : BndOk ⟨lo - x % 7, hi + x, 2, mr + x, mp + x⟩ := bnd_ok_mk (by omega) (by omega) (by omega) (by omega) (by omega) (by omega) (by omega) (by omega) (by omega)
    have HW := Lib.hid (fun (h : okB ⟨lo, hi, 10, mr, mp⟩ a = true) => wider hokc (b := ⟨lo, hi, 10, mr, mp⟩) (show lo - x % 7 ≤ lo by omega) (show hi ≤ hi + x by omega) (show mr ≤ mr + x by omega) (show mp ≤ mp + x by omega) (show (2 : Int) ∣ 10 by decide) h)
    have HD2 := Lib.hid (fun W => lqDecide_any hokc a (by omega) (by omega) W)
    have HK2 := Lib.hid (okB_sum hokc a)
    have HRT := Lib.hid (fun (h : okB ⟨lo, hi, 10, mr, mp⟩ a = true) => dec_of_ok h)
    have HRT2 := Lib.hid (fun (h : okB ⟨lo - x % 7, hi + x, 2, mr + x, mp + x⟩ a = true) => dec_of_ok h)
    simp only [Bnd.cells] at HD2
    generalize raiseI ⟨lo, hi, 10, mr, mp⟩ a = r at *
    generalize placeI ⟨lo, hi, 10, mr, mp⟩ a = p at *
    generalize decR ⟨lo, hi, 10, mr, mp⟩ a = R at *
    generalize decP ⟨lo, hi, 10, mr, mp⟩ a = P at *
    generalize okB ⟨lo, hi, 10, mr, mp⟩ a = k at *
    generalize raiseI ⟨lo - x % 7, hi + x, 2, mr + x, mp + x⟩ a = r2 at *
    generalize placeI ⟨lo - x % 7, hi + x, 2, mr + x, mp + x⟩ a = p2 at *
    generalize decR ⟨lo - x % 7, hi + x, 2, mr + x, mp + x⟩ a = R2 at *
    generalize decP ⟨lo - x % 7, hi + x, 2, mr + x, mp + x⟩ a = P2 at *
    generalize okB ⟨lo - x % 7, hi + x, 2, mr + x, mp + x⟩ a = k2' at *
    have HX5 := Lib.hid (HX4.out.below (below_alloc w4 (.cells #[.int .i64 (lo - x % 7), .int .i64 (hi + x), .int .i64 2, .int .i64 (mr + x), .int .i64 (mp + x)] 26)))
    clear HX4 hokc HOK
    go_wp2_with fail
    with_reducible refine (HD2.out _).mono ?_
    rintro e w5 ⟨rfl, b5⟩
    have HX6 := Lib.hid (HX5.out.below b5)
    clear b5 HX5 HD2 v0 v1 v2 v3 v4
    cases k with
    | false =>
      clear HW HRT HRT2 HK HK2
      go_wp2_with (go_at_call 11; refine (HSN.out _).mono ?_; rintro e w6 ⟨rfl, b6⟩)
      go_ret
      exact ⟨rfl, (HX6.out.below b6).old⟩
    | true =>
      obtain ⟨rfl, hle⟩ := HW.out rfl
      obtain ⟨rfl, rfl⟩ := HRT.out rfl
      obtain ⟨rfl, rfl⟩ := HRT2.out rfl
      have hs1 := HK.out rfl
      have hs2 := HK2.out rfl
      clear HW HRT HRT2 HK HK2
      go_wp2_with (go_at_call 11; refine (HSN.out _).mono ?_; rintro e w6 ⟨rfl, b6⟩)
      go_ret
      exact ⟨rfl, (HX6.out.below b6).old⟩
  · have hokc : BndOk ⟨lo - x % 7, hi + x, 5, mr + x, mp + x⟩ := bnd_ok_mk (by omega) (by omega) (by omega) (by omega) (by omega) (by omega) (by omega) (by omega) (by omega)
    have HW := Lib.hid (fun (h : okB ⟨lo, hi, 25, mr, mp⟩ a = true) => wider hokc (b := ⟨lo, hi, 25, mr, mp⟩) (show lo - x % 7 ≤ lo by omega) (show hi ≤ hi + x by omega) (show mr ≤ mr + x by omega) (show mp ≤ mp + x by omega) (show (5 : Int) ∣ 25 by decide) h)
    have HD2 := Lib.hid (fun W => lqDecide_any hokc a (by omega) (by omega) W)
    have HK2 := Lib.hid (okB_sum hokc a)
    have HRT := Lib.hid (fun (h : okB ⟨lo, hi, 25, mr, mp⟩ a = true) => dec_of_ok h)
    have HRT2 := Lib.hid (fun (h : okB ⟨lo - x % 7, hi + x, 5, mr + x, mp + x⟩ a = true) => dec_of_ok h)
    simp only [Bnd.cells] at HD2
    generalize raiseI ⟨lo, hi, 25, mr, mp⟩ a = r at *
    generalize placeI ⟨lo, hi, 25, mr, mp⟩ a = p at *
    generalize decR ⟨lo, hi, 25, mr, mp⟩ a = R at *
    generalize decP ⟨lo, hi, 25, mr, mp⟩ a = P at *
    generalize okB ⟨lo, hi, 25, mr, mp⟩ a = k at *
    generalize raiseI ⟨lo - x % 7, hi + x, 5, mr + x, mp + x⟩ a = r2 at *
    generalize placeI ⟨lo - x % 7, hi + x, 5, mr + x, mp + x⟩ a = p2 at *
    generalize decR ⟨lo - x % 7, hi + x, 5, mr + x, mp + x⟩ a = R2 at *
    generalize decP ⟨lo - x % 7, hi + x, 5, mr + x, mp + x⟩ a = P2 at *
    generalize okB ⟨lo - x % 7, hi + x, 5, mr + x, mp + x⟩ a = k2' at *
    have HX5 := Lib.hid (HX4.out.below (below_alloc w4 (.cells #[.int .i64 (lo - x % 7), .int .i64 (hi + x), .int .i64 5, .int .i64 (mr + x), .int .i64 (mp + x)] 26)))
    clear HX4 hokc HOK
    go_wp2_with fail
    with_reducible refine (HD2.out _).mono ?_
    rintro e w5 ⟨rfl, b5⟩
    have HX6 := Lib.hid (HX5.out.below b5)
    clear b5 HX5 HD2 v0 v1 v2 v3 v4
    cases k with
    | false =>
      clear HW HRT HRT2 HK HK2
      go_wp2_with (go_at_call 11; refine (HSN.out _).mono ?_; rintro e w6 ⟨rfl, b6⟩)
      go_ret
      exact ⟨rfl, (HX6.out.below b6).old⟩
    | true =>
      obtain ⟨rfl, hle⟩ := HW.out rfl
      obtain ⟨rfl, rfl⟩ := HRT.out rfl
      obtain ⟨rfl, rfl⟩ := HRT2.out rfl
      have hs1 := HK.out rfl
      have hs2 := HK2.out rfl
      clear HW HRT HRT2 HK HK2
      go_wp2_with (go_at_call 11; refine (HSN.out _).mono ?_; rintro e w6 ⟨rfl, b6⟩)
      go_ret
      exact ⟨rfl, (HX6.out.below b6).old⟩

end Go.Proofs.Ytoidiofdjokpkab
