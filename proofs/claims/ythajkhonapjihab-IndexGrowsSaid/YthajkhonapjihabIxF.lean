/- Contracts of package index at the statements' indexed security and an index of 14 values from the month 0 on. -/
import Derived.Test.YthajkhonapjihabCoup
import Derived.Test.YthajkhonapjihabMonF
import Derived.Test.YthajkhonapjihabCal
import Derived.Test.YthajkhonapjihabSfInt
import Derived.Shelf.Abstract
import Derived.Deep.RegionHeld3
import Derived.Deep.DeepCutAuto
set_option linter.unusedSimpArgs false
set_option linter.unusedVariables false
namespace Go.Proofs.Ythajkhonapjihab
open Go.RowKit Go.Lib Go.Proofs

set_option maxHeartbeats 400000 in
theorem ixwithin_any (n lo hi : Int) (w : World) :
    Calls Try.prog 33 #[.int .i64 n, .int .i64 lo, .int .i64 hi] w fun e w' => e = .returned (.bool (inB n lo hi)) ∧ w = w' := by
  by_cases h1 : lo ≤ n
  · by_cases h2 : n ≤ hi
    · rw [show inB n lo hi = true from inB_true.2 ⟨h1, h2⟩]
      go_enter Try.func33, Try.ntmps33
      go_wp2
      go_ret
      exact ⟨rfl, rfl⟩
    · rw [show inB n lo hi = false from inB_false.2 (fun q => h2 q.2)]
      go_enter Try.func33, Try.ntmps33
      go_wp2
      go_ret
      exact ⟨rfl, rfl⟩
  · rw [show inB n lo hi = false from inB_false.2 (fun q => h1 q.1)]
    go_enter Try.func33, Try.ntmps33
    go_wp2
    go_ret
    exact ⟨rfl, rfl⟩
theorem ixwithin_yes {n lo hi : Int} (w : World) (h1 : lo ≤ n) (h2 : n ≤ hi) : Calls Try.prog 33 #[.int .i64 n, .int .i64 lo, .int .i64 hi] w fun e w' => e = .returned (.bool true) ∧ w = w' := by
  have := ixwithin_any n lo hi w; rw [inB_true.2 ⟨h1, h2⟩] at this; exact this
theorem ixwithin_no {n lo hi : Int} (w : World) (h : ¬ (lo ≤ n ∧ n ≤ hi)) : Calls Try.prog 33 #[.int .i64 n, .int .i64 lo, .int .i64 hi] w fun e w' => e = .returned (.bool false) ∧ w = w' := by
  have := ixwithin_any n lo hi w; rw [inB_false.2 h] at this; exact this
theorem ixwithin_eq {n lo hi : Int} {c : Bool} (h : inB n lo hi = c) (w : World) : Calls Try.prog 33 #[.int .i64 n, .int .i64 lo, .int .i64 hi] w fun e w' => e = .returned (.bool c) ∧ w = w' := by
  have := ixwithin_any n lo hi w; rw [h] at this; exact this

set_option maxHeartbeats 400000 in
theorem weight_any (n : Int) (w : World) : Calls Try.prog 60 #[.int .i64 n] w fun e w' => e = .returned (.bool (inB n (0) 1000000)) ∧ w = w' := by
  go_enter Try.func60, Try.ntmps60
  go_wp2_with (go_at_call 61; refine (within_any _ _ _ _).mono ?_; rintro e w' ⟨rfl, rfl⟩)
  go_ret
  exact ⟨rfl, rfl⟩
theorem weight_yes {n : Int} (w : World) (h0 : 0 ≤ n) (h1 : n ≤ 1000000) : Calls Try.prog 60 #[.int .i64 n] w fun e w' => e = .returned (.bool true) ∧ w = w' := by
  have := weight_any n w; rw [inB_true.2 ⟨h0, h1⟩] at this; exact this

/-- An index of 14 values, in block g. -/
structure IdxAt (w : World) (g : Nat) (L : List Int) : Prop where
  len : L.length = 14
  bd : ∀ i, i < 14 → 1 ≤ L.getD i 0 ∧ L.getD i 0 ≤ 1000000
  lt : g < w.heap.size
  at_ : ∀ i, i < 14 → w.cell? ⟨g, i, none⟩ = some (.int .i64 (L.getD i 0))
theorem IdxAt.below {w w' : World} {g : Nat} {L : List Int} (h : IdxAt w g L) (hb : Below w.heap.size w w') : IdxAt w' g L :=
  ⟨h.len, h.bd, Nat.lt_of_lt_of_le h.lt hb.size, fun i hi => (hb.cell (p := ⟨g, i, none⟩) h.lt).trans (h.at_ i hi)⟩
theorem IdxAt.drew {w : World} {g : Nat} {L : List Int} (h : IdxAt w g L) : IdxAt w.drew g L := h.below ((Below.refl _ _).drew)
theorem IdxAt.list {w : World} {g cap : Nat} {L : List Int} (h : IdxAt w g L) (hc : 14 ≤ cap) : ListAt intC 1 w (.slice (some ⟨g, 0, none⟩) 14 cap) L := by
  refine ⟨by rw [cellsL_len intF], _, cap, by rw [h.len], by rw [h.len]; exact hc, Or.inr ⟨g, 0, rfl, h.lt, fun j hj => ?_⟩⟩
  rw [h.len, Nat.mul_one] at hj
  rw [Nat.zero_add, h.at_ j hj, cellsL_int, cellsI_get L j (by rw [h.len]; exact hj)]

set_option maxHeartbeats 400000 in
theorem ixCheckC_any (x : Int) (w : World) : Calls Try.prog 63 #[.int .i64 x] w fun e w' => e = .returned (.bool (!inB x 1 1000000)) ∧ Below w.heap.size w w' := by
  go_enter Try.func63, Try.ntmps63
  go_wp2_with (go_at_call 33; refine (ixwithin_any _ _ _ _).mono ?_; rintro e w' ⟨rfl, rfl⟩)
  go_ret
  exact ⟨rfl, Below.refl _ _⟩

set_option maxHeartbeats 1000000 in
theorem ixCheck_ok {w : World} {g cap : Nat} {L : List Int} (h : IdxAt w g L) (hc : 14 ≤ cap) : Calls Try.prog 28 #[.agg #[.int .i64 0, .slice (some ⟨g, 0, none⟩) 14 cap]] w fun e w' => e = .returned (.int .i64 0) ∧ Below w.heap.size w w' := by
  have hb := below_alloc w (.cells #[.int .i64 0, .slice (some ⟨g, 0, none⟩) 14 cap] 29)
  have HC := Lib.hid (intContains_any 63 #[] (enters_of Try.func63 (by kernel_rfl) rfl) (fun x => !inB x 1 1000000) L (.slice (some ⟨g, 0, none⟩) 14 cap) (w.alloc (.cells #[.int .i64 0, .slice (some ⟨g, 0, none⟩) 14 cap] 29)) ((h.below hb).list hc) (by rw [h.len]; omega) fun x hx W _ => by
    have := ixCheckC_any x W
    simpa using this)
  rw [show (L.any fun x => !inB x 1 1000000) = false from List.any_eq_false.2 fun x hx => by
    obtain ⟨i, hi, rfl⟩ := List.getElem_of_mem hx
    have := h.bd i (by rw [← h.len]; exact hi)
    rw [getD_eq hi] at this
    rw [inB_true.2 this]; simp] at HC
  have HB := Lib.hid hb
  clear h hb
  go_enter Try.func28, Try.ntmps28
  go_wp2_with (first | (go_at_call 33; refine (ixwithin_yes _ (by omega) (by omega)).mono ?_; rintro e w' ⟨rfl, rfl⟩) | (go_at_call 62; refine (HC.out).mono ?_; rintro e w2 ⟨rfl, hb2⟩))
  go_ret
  exact ⟨rfl, HB.out.trans (hb2.mono HB.out.size)⟩

set_option maxHeartbeats 1000000 in
theorem ixValue_ok {w : World} {g cap : Nat} {L : List Int} (h : IdxAt w g L) (hc : 14 ≤ cap) (k : Nat) (hk : k < 14) : Calls Try.prog 34 #[.agg #[.int .i64 0, .slice (some ⟨g, 0, none⟩) 14 cap], .int .i64 (k : Int)] w fun e w' => e = .returned (.tuple #[.int .i64 (L.getD k 0), .bool true]) ∧ Below w.heap.size w w' := by
  have hb := below_alloc w (.cells #[.int .i64 0, .slice (some ⟨g, 0, none⟩) 14 cap] 29)
  have HK := Lib.hid (ixCheck_ok (h.below hb) hc)
  have HI := Lib.hid (h.below hb)
  have HB := Lib.hid hb
  have HC := Lib.hid (heap_alloc_new w (.cells #[.int .i64 0, .slice (some ⟨g, 0, none⟩) 14 cap] 29))
  have hk0 : (0 : Int) ≤ (k : Int) := by omega
  have hk1 : (k : Int) < 14 := by omega
  have hk2 : ¬ (14 : Int) ≤ (k : Int) := by omega
  obtain ⟨x, hx⟩ : ∃ x, x = L.getD k 0 := ⟨_, rfl⟩
  have HXX := Lib.hid hx
  rw [← hx]
  clear h hb hx
  go_enter Try.func34, Try.ntmps34
  go_wp2_with fail
  with_reducible refine (HK.out).mono ?_
  rintro e w2 ⟨rfl, hb2⟩
  have hc2 := obj_below HC.out hb2
  have v0 := obj_cell hc2 0
  have v1 := obj_cell hc2 1
  simp at v0 v1
  have hcl := (HI.out.below hb2).at_ k hk
  have HB2 := Lib.hid (HB.out.trans (hb2.mono HB.out.size))
  rw [← HXX.out] at hcl
  clear hb2 hc2 HB HK HI HC
  go_wp2
  go_ret2
  exact ⟨rfl, HB2.out⟩

def tenthS : Sec := ⟨1, 1, 90, 450, 5000, 6, true⟩
theorem tenth_ok : SecOk tenthS 6 2 := ⟨by decide, by decide, by decide, by decide, by decide, by decide, by decide, by decide, by decide, by decide, by decide, by decide, by decide⟩

/-- A world within Ratio: the index and the security in their boxes. -/
structure RtI (w : World) (g cap : Nat) (L : List Int) (W : World) : Prop where
  ix : W.heap[w.heap.size]? = some (.cells #[.int .i64 0, .slice (some ⟨g, 0, none⟩) 14 cap] 29 (0, 0))
  sec : W.heap[w.heap.size + 1]? = some (.cells #[.int .i64 1, .int .i64 1, .int .i64 90, .int .i64 450, .int .i64 5000, .int .i64 6, .bool true] 27 (0, 0))
  at_ : IdxAt W g L
  old : Below w.heap.size w W
theorem RtI.below {w : World} {g cap : Nat} {L : List Int} {A B : World} (h : RtI w g cap L A) (hb : Below A.heap.size A B) : RtI w g cap L B :=
  ⟨obj_below h.ix hb, obj_below h.sec hb, h.at_.below hb, h.old.trans (hb.mono h.old.size)⟩
theorem RtI.drew {w : World} {g cap : Nat} {L : List Int} {A : World} (h : RtI w g cap L A) : RtI w g cap L A.drew := h.below ((Below.refl _ _).drew)
theorem RtI.row {w : World} {g cap : Nat} {L : List Int} {A : World} (h : RtI w g cap L A) : (∀ j, A.cell? ⟨w.heap.size, j, none⟩ = #[.int .i64 0, .slice (some ⟨g, 0, none⟩) 14 cap][j]?) ∧ (∀ j, A.cell? ⟨w.heap.size + 1, j, none⟩ = #[.int .i64 1, .int .i64 1, .int .i64 90, .int .i64 450, .int .i64 5000, .int .i64 6, .bool true][j]?) := ⟨obj_cell h.ix, obj_cell h.sec⟩

set_option maxHeartbeats 4000000 in
theorem ixRatio_ok {w : World} {g cap : Nat} {L : List Int} (h : IdxAt w g L) (hc : 14 ≤ cap) (d : Int) (d0 : 90 ≤ d) (d1 : d ≤ 450) :
    Calls Try.prog 15 #[.agg #[.int .i64 0, .slice (some ⟨g, 0, none⟩) 14 cap], .agg #[.int .i64 1, .int .i64 1, .int .i64 90, .int .i64 450, .int .i64 5000, .int .i64 6, .bool true], .int .i64 d] w fun e w' => e = .returned (.tuple #[.int .i64 (L.getD (d / 30 - 3).toNat 0), .int .i64 (L.getD 0 0), .int .i64 0]) ∧ Below w.heap.size w w' := by
  have HX := Lib.hid (show RtI w g cap L ((w.alloc (.cells #[.int .i64 0, .slice (some ⟨g, 0, none⟩) 14 cap] 29)).alloc (.cells #[.int .i64 1, .int .i64 1, .int .i64 90, .int .i64 450, .int .i64 5000, .int .i64 6, .bool true] 27)) from ⟨alloc1_at w _ _, alloc2_at w _ _, h.below (below2 w _ _), below2 w _ _⟩)
  have HS := Lib.hid (fun W => rgSecurity_ok tenth_ok W)
  simp only [Sec.cells, tenthS] at HS
  have HM1 := Lib.hid (fun W => cMonth_yes d W (dayB_true.2 ⟨by omega, by omega⟩))
  have HM2 := Lib.hid (fun W => cMonth_yes 90 W (dayB_true.2 ⟨by omega, by omega⟩))
  obtain ⟨k, hk⟩ : ∃ k : Nat, d / 30 - 3 = k := ⟨(d / 30 - 3).toNat, by omega⟩
  have hk13 : k < 13 := by omega
  have hk3 : d / 30 = (k : Int) + 3 := by omega
  rw [hk3] at HM1
  rw [hk, Int.toNat_natCast]
  rw [show (90 : Int) / 30 = 3 by decide] at HM2
  have HV := Lib.hid (fun W (hW : IdxAt W g L) => ixValue_ok hW hc k (by omega))
  have HV0 := Lib.hid (fun W (hW : IdxAt W g L) => show Calls Try.prog 34 #[.agg #[.int .i64 0, .slice (some ⟨g, 0, none⟩) 14 cap], .int .i64 0] W (fun e w' => e = .returned (.tuple #[.int .i64 (L.getD 0 0), .bool true]) ∧ Below W.heap.size W w') from ixValue_ok hW hc 0 (by omega))
  have HCK := Lib.hid (ixCheck_ok HX.out.at_ hc)
  generalize L.getD k 0 = now at *
  generalize L.getD 0 0 = thn at *
  clear h hk hk3
  go_enter Try.func15, Try.ntmps15
  go_wp2_with fail
  with_reducible refine (HCK.out).mono ?_
  rintro e w2 ⟨rfl, hb2⟩
  have HX2 := Lib.hid (HX.out.below hb2)
  have hx2 := HX2.out.sec
  have v0 := obj_cell hx2 0
  have v1 := obj_cell hx2 1
  have v2 := obj_cell hx2 2
  have v3 := obj_cell hx2 3
  have v4 := obj_cell hx2 4
  have v5 := obj_cell hx2 5
  have v6 := obj_cell hx2 6
  simp at v0 v1 v2 v3 v4 v5 v6
  clear hb2 hx2 HX HCK
  go_wp2_with fail
  with_reducible refine (HS.out _).mono ?_
  rintro e w3 ⟨rfl, hb3⟩
  have HX3 := Lib.hid (HX2.out.below hb3)
  have hx3 := HX3.out.sec
  clear v0 v1 v2 v3 v4 v5 v6
  have v0 := obj_cell hx3 0
  have v1 := obj_cell hx3 1
  have v2 := obj_cell hx3 2
  have v3 := obj_cell hx3 3
  have v4 := obj_cell hx3 4
  have v5 := obj_cell hx3 5
  have v6 := obj_cell hx3 6
  simp at v0 v1 v2 v3 v4 v5 v6
  clear hb3 hx3 HX2 HS
  go_upto_region 10 with (go_at_call 33; refine (ixwithin_yes _ (by omega) (by omega)).mono ?_; rintro e w' ⟨rfl, rfl⟩)
  clear v0 v1 v2 v3 v4 v5 v6
  have hwr10 : IntKind.i64.wrap ((k : Int) + 3 - 3) = (k : Int) := by rw [show (k : Int) + 3 - 3 = (k : Int) by omega]; exact IntWalk.i64_in _ (by omega)
  have hwr10b : IntKind.i64.wrap (k : Int) = (k : Int) := IntWalk.i64_in _ (by omega)
  have hwr11 : IntKind.i64.wrap (3 - 3) = 0 := by decide
  have hwr11b : IntKind.i64.wrap 0 = 0 := by decide
  have hcs10 := HX3.out.row
  go_region_held3 (fun W => (∀ j, W.cell? ⟨w.heap.size, j, none⟩ = #[.int .i64 0, .slice (some ⟨g, 0, none⟩) 14 cap][j]?) ∧ (∀ j, W.cell? ⟨w.heap.size + 1, j, none⟩ = #[.int .i64 1, .int .i64 1, .int .i64 90, .int .i64 450, .int .i64 5000, .int .i64 6, .bool true][j]?)) (first | exact hcs10 | exact HX4.out.row) (first | (go_at_call 35; with_reducible refine Calls.mono (HM1.out _) ?_; rintro e x10 ⟨rfl, rfl⟩) | (go_at_call 34; (try rw [hwr10]); with_reducible refine Calls.mono (HV.out _ (by first | exact HX3.out.at_ | exact HX3.out.drew.at_)) ?_; rintro e z10 ⟨rfl, bz10⟩; (have HX4 : Hid (RtI w g cap L z10) := Lib.hid (by first | exact HX3.out.below bz10 | exact HX3.out.drew.below bz10)); clear bz10))
  go_upto_region 11 with fail
  have hcs11 := HX4.out.row
  go_region_held3 (fun W => (∀ j, W.cell? ⟨w.heap.size, j, none⟩ = #[.int .i64 0, .slice (some ⟨g, 0, none⟩) 14 cap][j]?) ∧ (∀ j, W.cell? ⟨w.heap.size + 1, j, none⟩ = #[.int .i64 1, .int .i64 1, .int .i64 90, .int .i64 450, .int .i64 5000, .int .i64 6, .bool true][j]?)) (first | exact hcs11 | exact HX5.out.row) (first | (go_at_call 35; with_reducible refine Calls.mono (HM2.out _) ?_; rintro e x11 ⟨rfl, rfl⟩) | (go_at_call 34; (first | rw [hwr11] | rw [hwr11b] | skip); with_reducible refine Calls.mono (HV0.out _ (by first | exact HX4.out.at_ | exact HX4.out.drew.at_)) ?_; rintro e z11 ⟨rfl, bz11⟩; (have HX5 : Hid (RtI w g cap L z11) := Lib.hid (by first | exact HX4.out.below bz11 | exact HX4.out.drew.below bz11)); clear bz11))
  go_wp2
  go_ret3
  exact ⟨rfl, HX5.out.old⟩

def scaleI (a n d : Int) : Int := (2 * a * n + d) / (2 * d)
theorem scale_in {a n d : Int} (a0 : 0 ≤ a) (a1 : a ≤ 10000000) (n0 : 0 ≤ n) (n1 : n ≤ 1000000) (d0 : 1 ≤ d) (d1 : d ≤ 1000000) : 0 ≤ 2 * a * n ∧ 2 * a * n ≤ 20000000000000 ∧ 0 ≤ scaleI a n d ∧ scaleI a n d ≤ 20000001000000 ∧ 0 ≤ 2 * d := by
  have h0 : 0 ≤ 2 * a * n := Int.mul_nonneg (by omega) n0
  have h1 : 2 * a * n ≤ 20000000 * 1000000 := Int.mul_le_mul (by omega) n1 n0 (by decide)
  refine ⟨h0, by omega, Int.ediv_nonneg (by omega) (by omega), Int.le_trans (Int.ediv_le_self _ (by omega)) (by omega), by omega⟩

set_option maxHeartbeats 1000000 in
theorem mShare_ok {a n d : Int} (a0 : 0 ≤ a) (a1 : a ≤ 10000000) (n0 : 0 ≤ n) (n1 : n ≤ 1000000) (d0 : 1 ≤ d) (d1 : d ≤ 1000000) (hv : scaleI a n d ≤ 1000000000000) (w : World) :
    Calls Try.prog 27 #[.int .i64 a, .int .i64 n, .int .i64 d] w fun e w' => e = .returned (.tuple #[.int .i64 (scaleI a n d), .int .i64 0]) ∧ w = w' := by
  obtain ⟨h0, h1, h2, h3, h4⟩ := scale_in a0 a1 n0 n1 d0 d1
  have hq : scaleI a n d = (2 * a * n + d) / (2 * d) := rfl
  rw [hq] at h2 h3 hv ⊢
  have h5 : 0 ≤ 2 * a * n + d := by omega
  have h6 : (2 * d) ≠ 0 := by omega
  clear hq
  go_enter Try.func27, Try.ntmps27
  go_wp2_with (first | (go_at_call 39; refine (Valid_yes _ (by omega) (by omega)).mono ?_; rintro e w' ⟨rfl, rfl⟩) | (go_at_call 60; refine (weight_yes _ (by omega) (by omega)).mono ?_; rintro e w' ⟨rfl, rfl⟩) | (go_at_call 61; refine (within_yes _ (by omega) (by omega)).mono ?_; rintro e w' ⟨rfl, rfl⟩))
  go_ret2
  exact ⟨rfl, rfl⟩

/-- The statements' values, at least. -/
theorem IdxAt.scale {w : World} {g : Nat} {L : List Int} (h : IdxAt w g L) {a : Int} (a0 : 0 ≤ a) (a1 : a ≤ 65535) {i j : Nat} (hi : i < 14) (hj : j < 14) : 0 ≤ scaleI a (L.getD i 0) (L.getD j 0) ∧ scaleI a (L.getD i 0) (L.getD j 0) ≤ 1000000000000 := by
  have n := h.bd i hi
  have d := h.bd j hj
  have h0 : 0 ≤ 2 * a * (L.getD i 0) := Int.mul_nonneg (by omega) (by omega)
  have h1 : 2 * a * (L.getD i 0) ≤ 131070 * 1000000 := Int.mul_le_mul (by omega) n.2 (by omega) (by decide)
  exact ⟨Int.ediv_nonneg (by omega) (by omega), Int.le_trans (Int.ediv_le_self _ (by omega)) (by omega)⟩

/-- What an amount is scaled to on a day. -/
def scaledI (L : List Int) (a d : Int) : Int := scaleI a (L.getD (d / 30 - 3).toNat 0) (L.getD 0 0)

set_option maxHeartbeats 1000000 in
theorem ixScaled_ok {w : World} {g cap : Nat} {L : List Int} (h : IdxAt w g L) (hc : 14 ≤ cap) {a d : Int} (a0 : 0 ≤ a) (a1 : a ≤ 65535) (d0 : 90 ≤ d) (d1 : d ≤ 450) :
    Calls Try.prog 10 #[.agg #[.int .i64 0, .slice (some ⟨g, 0, none⟩) 14 cap], .agg #[.int .i64 1, .int .i64 1, .int .i64 90, .int .i64 450, .int .i64 5000, .int .i64 6, .bool true], .int .i64 a, .int .i64 d] w fun e w' => e = .returned (.tuple #[.int .i64 (scaledI L a d), .int .i64 0]) ∧ Below w.heap.size w w' := by
  have HB := Lib.hid (below2 w (.cells #[.int .i64 0, .slice (some ⟨g, 0, none⟩) 14 cap] 29) (.cells #[.int .i64 1, .int .i64 1, .int .i64 90, .int .i64 450, .int .i64 5000, .int .i64 6, .bool true] 27))
  have HR := Lib.hid (ixRatio_ok (h.below HB.out) hc d d0 d1)
  have hk : (d / 30 - 3).toNat < 14 := by omega
  obtain ⟨_, sc⟩ := h.scale a0 a1 hk (show 0 < 14 by omega)
  have n := h.bd _ hk
  have t := h.bd 0 (by omega)
  have HS := Lib.hid (fun W => mShare_ok a0 (show a ≤ 10000000 by omega) (by omega) n.2 t.1 t.2 sc W)
  unfold scaledI
  generalize L.getD (d / 30 - 3).toNat 0 = x at *
  generalize L.getD 0 0 = y at *
  generalize scaleI a x y = z at *
  clear h n t sc hk
  go_enter Try.func10, Try.ntmps10
  go_wp2_with fail
  with_reducible refine (HR.out).mono ?_
  rintro e w3 ⟨rfl, b3⟩
  have HB3 := Lib.hid (HB.out.trans (b3.mono HB.out.size))
  clear b3 HB HR
  go_wp2_with fail
  with_reducible refine (HS.out _).mono ?_
  rintro e w4 ⟨rfl, rfl⟩
  go_wp2
  go_ret2
  exact ⟨rfl, HB3.out⟩

/-- What is paid in the end. -/
def finalI (L : List Int) (a : Int) : Int := if scaledI L a 450 < a then a else scaledI L a 450

set_option maxHeartbeats 1000000 in
theorem ixFinal_ok {w : World} {g cap : Nat} {L : List Int} (h : IdxAt w g L) (hc : 14 ≤ cap) {a : Int} (a0 : 0 ≤ a) (a1 : a ≤ 65535) :
    Calls Try.prog 11 #[.agg #[.int .i64 0, .slice (some ⟨g, 0, none⟩) 14 cap], .agg #[.int .i64 1, .int .i64 1, .int .i64 90, .int .i64 450, .int .i64 5000, .int .i64 6, .bool true], .int .i64 a] w fun e w' => e = .returned (.tuple #[.int .i64 (finalI L a), .int .i64 0]) ∧ Below w.heap.size w w' := by
  have HB := Lib.hid (below2 w (.cells #[.int .i64 0, .slice (some ⟨g, 0, none⟩) 14 cap] 29) (.cells #[.int .i64 1, .int .i64 1, .int .i64 90, .int .i64 450, .int .i64 5000, .int .i64 6, .bool true] 27))
  have HS := Lib.hid (ixScaled_ok (h.below HB.out) hc a0 a1 (show (90 : Int) ≤ 450 by decide) (show (450 : Int) ≤ 450 by decide))
  unfold finalI
  generalize scaledI L a 450 = z at *
  clear h
  by_cases hz : z < a
  · rw [if_pos hz]
    go_enter Try.func11, Try.ntmps11
    go_wp2_with fail
    with_reducible refine (HS.out).mono ?_
    rintro e w3 ⟨rfl, b3⟩
    have HB3 := Lib.hid (HB.out.trans (b3.mono HB.out.size))
    clear b3 HB HS
    go_wp2
    go_ret2
    exact ⟨rfl, HB3.out⟩
  · rw [if_neg hz]
    have hz2 : a ≤ z := by omega
    go_enter Try.func11, Try.ntmps11
    go_wp2_with fail
    with_reducible refine (HS.out).mono ?_
    rintro e w3 ⟨rfl, b3⟩
    have HB3 := Lib.hid (HB.out.trans (b3.mono HB.out.size))
    clear b3 HB HS
    go_wp2
    go_ret2
    exact ⟨rfl, HB3.out⟩

set_option maxHeartbeats 1000000 in
theorem ixCoupon_ok {w : World} {g cap : Nat} {L : List Int} (h : IdxAt w g L) (hc : 14 ≤ cap) {a d : Int} (a0 : 0 ≤ a) (a1 : a ≤ 65535) (d0 : 90 ≤ d) (d1 : d ≤ 450) :
    Calls Try.prog 13 #[.agg #[.int .i64 0, .slice (some ⟨g, 0, none⟩) 14 cap], .agg #[.int .i64 1, .int .i64 1, .int .i64 90, .int .i64 450, .int .i64 5000, .int .i64 6, .bool true], .int .i64 a, .int .i64 d] w fun e w' => e = .returned (.tuple #[.int .i64 (couponI tenthS (scaledI L a d)), .int .i64 0]) ∧ Below w.heap.size w w' := by
  have HC := Lib.hid (heap_alloc_new (w.alloc (.cells #[.int .i64 0, .slice (some ⟨g, 0, none⟩) 14 cap] 29)) (.cells #[.int .i64 1, .int .i64 1, .int .i64 90, .int .i64 450, .int .i64 5000, .int .i64 6, .bool true] 27))
  have HC1 := Lib.hid (alloc2_at w (.cells #[.int .i64 0, .slice (some ⟨g, 0, none⟩) 14 cap] 29) (.cells #[.int .i64 1, .int .i64 1, .int .i64 90, .int .i64 450, .int .i64 5000, .int .i64 6, .bool true] 27))
  have HB := Lib.hid (below2 w (.cells #[.int .i64 0, .slice (some ⟨g, 0, none⟩) 14 cap] 29) (.cells #[.int .i64 1, .int .i64 1, .int .i64 90, .int .i64 450, .int .i64 5000, .int .i64 6, .bool true] 27))
  have HS := Lib.hid (ixScaled_ok (h.below HB.out) hc a0 a1 d0 d1)
  obtain ⟨s0, s1⟩ := h.scale a0 a1 (show (d / 30 - 3).toNat < 14 by omega) (show 0 < 14 by omega)
  have HP := Lib.hid (fun W => cpCoupon_ok tenth_ok (scaledI L a d) s0 s1 W)
  simp only [Sec.cells, tenthS] at HP
  have hco : couponI tenthS (scaledI L a d) = couponI ⟨1, 1, 90, 450, 5000, 6, true⟩ (scaledI L a d) := rfl
  rw [hco]
  generalize couponI ⟨1, 1, 90, 450, 5000, 6, true⟩ (scaledI L a d) = q at *
  generalize scaledI L a d = z at *
  clear h s0 s1 hco
  go_enter Try.func13, Try.ntmps13
  go_wp2_with fail
  with_reducible refine (HS.out).mono ?_
  rintro e w3 ⟨rfl, b3⟩
  have HB3 := Lib.hid (HB.out.trans (b3.mono HB.out.size))
  have hc3 := obj_below HC1.out b3
  have v0 := obj_cell hc3 0
  have v1 := obj_cell hc3 1
  have v2 := obj_cell hc3 2
  have v3 := obj_cell hc3 3
  have v4 := obj_cell hc3 4
  have v5 := obj_cell hc3 5
  have v6 := obj_cell hc3 6
  simp at v0 v1 v2 v3 v4 v5 v6
  clear b3 HB HS hc3
  go_wp2_with fail
  with_reducible refine (HP.out _).mono ?_
  rintro e w4 ⟨rfl, b4⟩
  have HB4 := Lib.hid (HB3.out.trans (b4.mono HB3.out.size))
  clear b4 HB3 HP v0 v1 v2 v3 v4 v5 v6
  go_wp2
  go_ret2
  exact ⟨rfl, HB4.out⟩

set_option maxHeartbeats 400000 in
theorem rvValid_yes {n : Int} (n0 : 0 ≤ n) (n1 : n ≤ 1000000000000) (w : World) : Calls Try.prog 31 #[.int .i64 n] w fun e w' => e = .returned (.bool true) ∧ w = w' := by
  go_enter Try.func31, Try.ntmps31
  go_wp2
  go_ret
  exact ⟨rfl, rfl⟩

set_option maxHeartbeats 1000000 in
theorem r33Security_tenth (w : World) : Calls Try.prog 30 #[.agg #[.int .i64 1, .int .i64 1, .int .i64 90, .int .i64 450, .int .i64 5000, .int .i64 6, .bool true]] w fun e w' => e = .returned (.bool true) ∧ Below w.heap.size w w' := by
  go_enter Try.func30, Try.ntmps30
  go_wp2
  go_ret
  exact ⟨rfl, below_alloc w _⟩

set_option maxHeartbeats 1000000 in
theorem r34Coupon_tenth {a : Int} (a0 : 0 ≤ a) (a1 : a ≤ 1000000000000) (w : World) : Calls Try.prog 14 #[.agg #[.int .i64 1, .int .i64 1, .int .i64 90, .int .i64 450, .int .i64 5000, .int .i64 6, .bool true], .int .i64 a] w fun e w' => e = .returned (.tuple #[.int .i64 (couponI tenthS a), .int .i64 0]) ∧ Below w.heap.size w w' := by
  have HS := Lib.hid r33Security_tenth
  have HB := Lib.hid (below_alloc w (.cells #[.int .i64 1, .int .i64 1, .int .i64 90, .int .i64 450, .int .i64 5000, .int .i64 6, .bool true] 27))
  have HC := Lib.hid (heap_alloc_new w (.cells #[.int .i64 1, .int .i64 1, .int .i64 90, .int .i64 450, .int .i64 5000, .int .i64 6, .bool true] 27))
  have hq : couponI tenthS a = (a * 5000 * 6 + 600000) / 1200000 := rfl
  rw [hq]
  have h0 : 0 ≤ a * 5000 * 6 + 600000 := by omega
  have h1 : a * 5000 ≤ 5000000000000000 := by omega
  clear hq
  go_enter Try.func14, Try.ntmps14
  go_wp2_with fail
  with_reducible refine (HS.out _).mono ?_
  rintro e w3 ⟨rfl, b3⟩
  have HB3 := Lib.hid (HB.out.trans (b3.mono HB.out.size))
  have hc3 := obj_below HC.out b3
  have v0 := obj_cell hc3 0
  have v1 := obj_cell hc3 1
  have v2 := obj_cell hc3 2
  have v3 := obj_cell hc3 3
  have v4 := obj_cell hc3 4
  have v5 := obj_cell hc3 5
  have v6 := obj_cell hc3 6
  simp at v0 v1 v2 v3 v4 v5 v6
  clear b3 HB HS hc3
  go_wp2_with (go_at_call 31; refine (rvValid_yes a0 a1 _).mono ?_; rintro e w' ⟨rfl, rfl⟩)
  go_ret2
  exact ⟨rfl, HB3.out⟩

end Go.Proofs.Ythajkhonapjihab
