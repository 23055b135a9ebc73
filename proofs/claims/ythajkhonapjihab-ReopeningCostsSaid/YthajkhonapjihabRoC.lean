/- The walk of ReopeningCosts: a later day, a greater price, a greater amount never cost less; for every tape and numbers. -/
import Derived.Test.YthajkhonapjihabRoF
import Derived.Test.YthajkhonapjihabSecS
import Derived.Deep.RegionHeld3
set_option linter.unusedSimpArgs false
set_option linter.unusedVariables false
namespace Go.Proofs.Ythajkhonapjihab
open Go.RowKit Go.Lib Go.Proofs

theorem last_early {s : Sec} {z r : Int} (h : SecOk s z r) {d : Int} (d0 : s.iss ≤ d) (d1 : d ≤ s.iss + 29) : lastI s d = s.iss := by
  unfold lastI
  rcases h.ev with h | h | h | h | h
  · rw [if_pos h.1]
  · rw [if_neg (by omega), h.1]; omega
  · rw [if_neg (by omega), h.1]; omega
  · rw [if_neg (by omega), h.1]; omega
  · rw [if_neg (by omega), h.1]; omega
theorem accrued_early {s : Sec} {z r : Int} (h : SecOk s z r) {a d : Int} (a0 : 0 ≤ a) (a1 : a ≤ 100000) (d0 : s.iss ≤ d) (d1 : d ≤ s.iss + 29) : accruedI s a d = shareI (a * s.rate * (d - s.iss)) 36000000 ∧ 0 ≤ accruedI s a d ∧ accruedI s a d ≤ 1000000000 := by
  have e : accruedI s a d = shareI (a * s.rate * (d - s.iss)) 36000000 := by unfold accruedI; rw [last_early h d0 d1]
  obtain ⟨m1, m2, m3, m4⟩ := mul3_le a0 a1 h.rate0 h.rate1 (show 0 ≤ d - s.iss by omega) (show d - s.iss ≤ 29 by omega)
  refine ⟨e, ?_, ?_⟩ <;> (rw [e]; unfold shareI; omega)
/-- The costs of a later day, a greater price, a greater amount. -/
theorem cost_facts {s : Sec} {z r : Int} (h : SecOk s z r) {d a p x y : Int} (a0 : 0 ≤ a) (a1 : a + y ≤ 100000) (d0 : s.iss ≤ d) (d1 : d + 1 ≤ s.iss + 29) (p0 : 0 ≤ p) (p1 : p + x ≤ 200000) (x0 : 0 ≤ x) (y0 : 0 ≤ y) :
    costI s d a p ≤ costI s (d + 1) a p ∧ costI s d a p ≤ costI s d a (p + x) ∧ costI s d a p ≤ costI s d (a + y) p := by
  obtain ⟨e1, _, _⟩ := accrued_early h a0 (show a ≤ 100000 by omega) d0 (show d ≤ s.iss + 29 by omega)
  obtain ⟨e2, _, _⟩ := accrued_early h a0 (show a ≤ 100000 by omega) (show s.iss ≤ d + 1 by omega) d1
  obtain ⟨e3, _, _⟩ := accrued_early h (show 0 ≤ a + y by omega) a1 d0 (show d ≤ s.iss + 29 by omega)
  have q0 : 0 ≤ a * s.rate := Int.mul_nonneg a0 h.rate0
  have k1 : a * s.rate * (d - s.iss) ≤ a * s.rate * (d + 1 - s.iss) := Int.mul_le_mul_of_nonneg_left (by omega) q0
  have k2 : 2 * a * p ≤ 2 * a * (p + x) := Int.mul_le_mul_of_nonneg_left (by omega) (by omega)
  have k3 : 2 * a * p ≤ 2 * (a + y) * p := Int.mul_le_mul_of_nonneg_right (by omega) p0
  have k4 : a * s.rate ≤ (a + y) * s.rate := Int.mul_le_mul_of_nonneg_right (by omega) h.rate0
  have k5 : a * s.rate * (d - s.iss) ≤ (a + y) * s.rate * (d - s.iss) := Int.mul_le_mul_of_nonneg_right k4 (by omega)
  unfold costI payI
  rw [e1, e2, e3]
  unfold shareI
  omega

/-- A world within the law: its source, and the security in block b. -/
structure RcI (w : World) (tb b : Nat) (s : Sec) (W : World) : Prop where
  si : SI w tb W
  box : W.heap[b]? = some (.cells s.cells.toArray 27 (0, 0))
  ne : b ≠ tb
theorem RcI.below {w : World} {tb b : Nat} {s : Sec} {A B : World} (h : RcI w tb b s A) (hb : Below A.heap.size A B) : RcI w tb b s B := ⟨h.si.below hb, obj_below h.box hb, h.ne⟩
theorem RcI.drew {w : World} {tb b : Nat} {s : Sec} {A : World} (h : RcI w tb b s A) : RcI w tb b s A.drew := h.below ((Below.refl _ _).drew)
theorem RcI.turn {w : World} {tb b : Nat} {s : Sec} {A B : World} (h : RcI w tb b s A) (hi : SI w tb B) (hg : A.grownBy B (some tb)) : RcI w tb b s B := ⟨hi, obj_turn h.box hg h.ne, h.ne⟩
theorem RcI.row {w : World} {tb b : Nat} {i un bb m qq ee : Int} {xx : Bool} {A : World} (h : RcI w tb b ⟨i, un, bb, m, qq, ee, xx⟩ A) (j : Nat) : A.cell? ⟨b, j, none⟩ = #[.int .i64 i, .int .i64 un, .int .i64 bb, .int .i64 m, .int .i64 qq, .int .i64 ee, .bool xx][j]? := obj_cell h.box j

set_option maxHeartbeats 8000000 in
theorem rocosts_any (v : Value) (n : Nat) (a b : Int) (w : World) (hi : IntsAt w v n w.heap.size) (hn : n ≤ 9223372036854775807) (ha : 0 ≤ a) (ha1 : a ≤ 65535) (hb : 0 ≤ b) (hb1 : b ≤ 65535) :
    Calls Try.prog 5 #[v, .int .u16 a, .int .u16 b] w fun e w' => e = .returned (.bool true) ∧ Below w.heap.size w w' := by
  have HNEW := Lib.hid (sNew_any v n w hi hn)
  have HSN := Lib.hid sane35_any
  have r0 := Int.emod_nonneg a (show (20 : Int) ≠ 0 by decide)
  have r1 := Int.emod_lt_of_pos a (show (0 : Int) < 20 by decide)
  clear hi hn
  go_enter Try.func5, Try.ntmps5
  go_wp2_with fail
  refine (HNEW.out).mono ?_
  rintro e w1 ⟨rfl, t1, b1⟩
  have HS := Lib.hid (sSecurity_any w.heap.size 1 w1 t1 (by decide) (by decide))
  have HW1 := Lib.hid b1
  have HT := Lib.hid t1
  clear t1 b1 HNEW
  go_wp2_with fail
  refine (HS.out).mono ?_
  rintro e w2 ⟨s, z, r, rfl, hok, hid, hr5, hiss, hrate, t2, g2⟩
  have hmat : s.iss + 30 ≤ s.mat := by
    have := hok.term
    rcases hok.ev with h | h | h | h | h <;> have := hok.r0 <;> (obtain ⟨_, h⟩ := h; first | (obtain ⟨_, h⟩ := h; subst h; omega) | (subst h; omega))
  have HX := Lib.hid (show RcI w1 w.heap.size w2.heap.size s (w2.alloc (.cells s.cells.toArray 27)) from ⟨(((si_start HT.out).turn t2 g2).alloc _), heap_alloc_new w2 _, by have := t2.lt; omega⟩)
  have HOK := Lib.hid hok
  have iss0 := hok.iss0
  clear t2 g2 HS hid hr5 hrate hok
  have HCO := Lib.hid (fun d a p (h1 : s.iss ≤ d) (h2 : d ≤ s.iss + 29) (h3 : 0 ≤ a) (h4 : a ≤ 100000) (h5 : 0 ≤ p) (h6 : p ≤ 200000) W => roCost_ok HOK.out h3 h4 h1 (by omega) h5 h6 (accrued_early HOK.out h3 h4 h1 h2).2 W)
  have HFA := Lib.hid (fun d a p x y (a0 : 0 ≤ a) (a1 : a + y ≤ 100000) (d0 : s.iss ≤ d) (d1 : d + 1 ≤ s.iss + 29) (p0 : 0 ≤ p) (p1 : p + x ≤ 200000) (x0 : 0 ≤ x) (y0 : 0 ≤ y) => cost_facts HOK.out (d := d) (a := a) (p := p) (x := x) (y := y) a0 a1 d0 d1 p0 p1 x0 y0)
  have HCB := Lib.hid (fun d a p (h1 : s.iss ≤ d) (h2 : d ≤ s.iss + 29) (h3 : 0 ≤ a) (h4 : a ≤ 100000) (h5 : 0 ≤ p) (h6 : p ≤ 200000) => show 0 ≤ costI s d a p ∧ costI s d a p ≤ 2000000000 from by
    have h7 := (accrued_early HOK.out h3 h4 h1 h2).2
    have h8 := pay_in h3 (show a ≤ 1000000 by omega) h5 h6
    unfold costI
    omega)
  obtain ⟨i, un, bb, m, qq, ee, xx⟩ := s
  simp only [Sec.cells] at HX HCO HFA HCB iss0 hiss hmat ⊢
  have hx := HX.out.box
  have v0 := obj_cell hx 0
  have v1 := obj_cell hx 1
  have v2 := obj_cell hx 2
  have v3 := obj_cell hx 3
  have v4 := obj_cell hx 4
  have v5 := obj_cell hx 5
  have v6 := obj_cell hx 6
  simp [Sec.cells] at v0 v1 v2 v3 v4 v5 v6
  clear hx
  have HN1 := Lib.hid (n_in HX.out.si 20000 (by omega) (by omega))
  go_wp2_with fail
  with_reducible refine Calls.mono (HN1.out) ?_
  rintro e w3 ⟨p, rfl, p0, p1, hi3, hg3⟩
  have HX3 := Lib.hid (HX.out.turn hi3 hg3)
  have hx3 := HX3.out.box
  clear hi3 hg3 HX HN1 v0 v1 v2 v3 v4 v5 v6
  have v0 := obj_cell hx3 0
  have v1 := obj_cell hx3 1
  have v2 := obj_cell hx3 2
  have v3 := obj_cell hx3 3
  have v4 := obj_cell hx3 4
  have v5 := obj_cell hx3 5
  have v6 := obj_cell hx3 6
  simp [Sec.cells] at v0 v1 v2 v3 v4 v5 v6
  clear hx3
  obtain ⟨d, hd⟩ : ∃ d, d = bb + a % 20 := ⟨_, rfl⟩
  obtain ⟨am, ham⟩ : ∃ am, am = 1000 + b := ⟨_, rfl⟩
  obtain ⟨pr, hpr⟩ : ∃ pr, pr = 90000 + p := ⟨_, rfl⟩
  have HD := Lib.hid hd
  have HAM := Lib.hid ham
  have HPR := Lib.hid hpr
  have D0 : bb ≤ d := by omega
  have D1 : d ≤ bb + 19 := by omega
  have A0 : 1000 ≤ am := by omega
  have A1 : am ≤ 66535 := by omega
  have P0 : 90000 ≤ pr := by omega
  have P1 : pr ≤ 109999 := by omega
  have C1 := Lib.hid (fun W => HCO.out d am pr D0 (by omega) (by omega) (by omega) (by omega) (by omega) W)
  have C2 := Lib.hid (fun W => HCO.out (d + 1) am pr (by omega) (by omega) (by omega) (by omega) (by omega) (by omega) W)
  obtain ⟨n0, n1⟩ := HCB.out d am pr D0 (by omega) (by omega) (by omega) (by omega) (by omega)
  obtain ⟨m0, m1⟩ := HCB.out (d + 1) am pr (by omega) (by omega) (by omega) (by omega) (by omega) (by omega)
  clear hd ham hpr
  go_wp2_with fail
  rw [← HD.out, ← HAM.out, ← HPR.out]
  with_reducible refine Calls.mono (C1.out _) ?_
  rintro e w4 ⟨rfl, b4⟩
  have HX4 := Lib.hid (HX3.out.below b4)
  have hx4 := HX4.out.box
  clear b4 HX3 C1 v0 v1 v2 v3 v4 v5 v6
  have v0 := obj_cell hx4 0
  have v1 := obj_cell hx4 1
  have v2 := obj_cell hx4 2
  have v3 := obj_cell hx4 3
  have v4 := obj_cell hx4 4
  have v5 := obj_cell hx4 5
  have v6 := obj_cell hx4 6
  simp [Sec.cells] at v0 v1 v2 v3 v4 v5 v6
  clear hx4
  go_wp2_with fail
  with_reducible refine Calls.mono (C2.out _) ?_
  rintro e w5 ⟨rfl, b5⟩
  have HX5 := Lib.hid (HX4.out.below b5)
  have hx5 := HX5.out.box
  clear b5 HX4 C2 v0 v1 v2 v3 v4 v5 v6
  have v0 := obj_cell hx5 0
  have v1 := obj_cell hx5 1
  have v2 := obj_cell hx5 2
  have v3 := obj_cell hx5 3
  have v4 := obj_cell hx5 4
  have v5 := obj_cell hx5 5
  have v6 := obj_cell hx5 6
  simp [Sec.cells] at v0 v1 v2 v3 v4 v5 v6
  clear hx5
  go_upto_region 8 with fail
  have hcs : ∀ j, w5.cell? ⟨w2.heap.size, j, none⟩ = #[.int .i64 i, .int .i64 un, .int .i64 bb, .int .i64 m, .int .i64 qq, .int .i64 ee, .bool xx][j]? := HX5.out.row
  have HNN := Lib.hid (fun W (h : SI w1 w.heap.size W) => n_in h 500 (by omega) (by omega))
  clear v0 v1 v2 v3 v4 v5 v6
  go_region_held3 (fun W => ∀ j, W.cell? ⟨w2.heap.size, j, none⟩ = #[.int .i64 i, .int .i64 un, .int .i64 bb, .int .i64 m, .int .i64 qq, .int .i64 ee, .bool xx][j]?) (first | exact hcs | exact hcs8 | exact hct8) (first | (go_at_call 17; refine Calls.mono (HNN.out _ (by first | exact HX5.out.si | exact HX5.out.drew.si)) ?_; rintro e x8 ⟨y8, rfl, ya8, yb8, hi8, hg8⟩; (have hw8 : IntKind.i64.wrap (pr + y8) = pr + y8 := IntWalk.i64_in _ (by omega)); (have HY8 : Hid (RcI w1 w.heap.size w2.heap.size ⟨i, un, bb, m, qq, ee, xx⟩ x8) := Lib.hid (by first | exact HX5.out.turn hi8 hg8 | exact HX5.out.drew.turn hi8 hg8)); (have hcs8 : ∀ j, x8.cell? ⟨w2.heap.size, j, none⟩ = #[.int .i64 i, .int .i64 un, .int .i64 bb, .int .i64 m, .int .i64 qq, .int .i64 ee, .bool xx][j]? := HY8.out.row); clear hi8 hg8) | (go_at_call 18; (try rw [hw8]); with_reducible refine Calls.mono (HCO.out d am (pr + y8) (by omega) (by omega) (by omega) (by omega) (by omega) (by omega) _) ?_; rintro e z8 ⟨rfl, bz8⟩; (have HZ8 : Hid (RcI w1 w.heap.size w2.heap.size ⟨i, un, bb, m, qq, ee, xx⟩ z8) := Lib.hid (by first | exact HY8.out.below bz8 | exact HY8.out.drew.below bz8)); (have hct8 : ∀ j, z8.cell? ⟨w2.heap.size, j, none⟩ = #[.int .i64 i, .int .i64 un, .int .i64 bb, .int .i64 m, .int .i64 qq, .int .i64 ee, .bool xx][j]? := HZ8.out.row); clear bz8))
  go_upto_region 9 with fail
  have hcs : ∀ j, z8.cell? ⟨w2.heap.size, j, none⟩ = #[.int .i64 i, .int .i64 un, .int .i64 bb, .int .i64 m, .int .i64 qq, .int .i64 ee, .bool xx][j]? := HZ8.out.row
  have HNN := Lib.hid (fun W (h : SI w1 w.heap.size W) => n_in h 500 (by omega) (by omega))
  clear hcs8 hct8 HY8
  go_region_held3 (fun W => ∀ j, W.cell? ⟨w2.heap.size, j, none⟩ = #[.int .i64 i, .int .i64 un, .int .i64 bb, .int .i64 m, .int .i64 qq, .int .i64 ee, .bool xx][j]?) (first | exact hcs | exact hcs9 | exact hct9) (first | (go_at_call 17; refine Calls.mono (HNN.out _ (by first | exact HZ8.out.si | exact HZ8.out.drew.si)) ?_; rintro e x9 ⟨y9, rfl, ya9, yb9, hi9, hg9⟩; (have hw9 : IntKind.i64.wrap (am + y9) = am + y9 := IntWalk.i64_in _ (by omega)); (have HY9 : Hid (RcI w1 w.heap.size w2.heap.size ⟨i, un, bb, m, qq, ee, xx⟩ x9) := Lib.hid (by first | exact HZ8.out.turn hi9 hg9 | exact HZ8.out.drew.turn hi9 hg9)); (have hcs9 : ∀ j, x9.cell? ⟨w2.heap.size, j, none⟩ = #[.int .i64 i, .int .i64 un, .int .i64 bb, .int .i64 m, .int .i64 qq, .int .i64 ee, .bool xx][j]? := HY9.out.row); clear hi9 hg9) | (go_at_call 18; (try rw [hw9]); with_reducible refine Calls.mono (HCO.out d (am + y9) pr (by omega) (by omega) (by omega) (by omega) (by omega) (by omega) _) ?_; rintro e z9 ⟨rfl, bz9⟩; (have HZ9 : Hid (RcI w1 w.heap.size w2.heap.size ⟨i, un, bb, m, qq, ee, xx⟩ z9) := Lib.hid (by first | exact HY9.out.below bz9 | exact HY9.out.drew.below bz9)); (have hct9 : ∀ j, z9.cell? ⟨w2.heap.size, j, none⟩ = #[.int .i64 i, .int .i64 un, .int .i64 bb, .int .i64 m, .int .i64 qq, .int .i64 ee, .bool xx][j]? := HZ9.out.row); clear bz9))
  have HW9 := Lib.hid (HW1.out.grown HZ9.out.si.old HW1.out.size (by simp))
  obtain ⟨f1, _, _⟩ := HFA.out d am pr 0 0 (by omega) (by omega) D0 (by omega) (by omega) (by omega) (by omega) (by omega)
  obtain ⟨_, f2, _⟩ := HFA.out d am pr y8 0 (by omega) (by omega) D0 (by omega) (by omega) (by omega) (by omega) (by omega)
  obtain ⟨_, _, f3⟩ := HFA.out d am pr 0 y9 (by omega) (by omega) D0 (by omega) (by omega) (by omega) (by omega) (by omega)
  clear hcs9 hct9 HY9 HCO HFA HCB
  go_wp2_with (go_at_call 19; refine (HSN.out _).mono ?_; rintro e w6 ⟨rfl, b6⟩)
  go_ret
  exact ⟨rfl, HW9.out.trans (b6.mono HW9.out.size)⟩

end Go.Proofs.Ythajkhonapjihab
