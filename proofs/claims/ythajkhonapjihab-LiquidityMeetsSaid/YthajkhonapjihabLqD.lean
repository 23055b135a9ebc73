/- Decide on a band that is valid; the source's Band; the statements' example. -/
import Derived.Test.YthajkhonapjihabLqF
import Derived.Test.YthajkhonapjihabPut5
namespace Go.Proofs.Ythajkhonapjihab
open Go.RowKit Go.Lib Go.Proofs

/-- What Decide hands back. -/
def decR (b : Bnd) (a : Int) : Int := if okB b a then raiseI b a else 0
def decP (b : Bnd) (a : Int) : Int := if okB b a then placeI b a else 0

/-- A world within a call on a band in block b. -/
structure BInv (w : World) (g : Nat) (b : Bnd) (W : World) : Prop where
  box : W.heap[g]? = some (.cells b.cells.toArray 48 (0, 0))
  old : Below w.heap.size w W
theorem BInv.below {w : World} {g : Nat} {b : Bnd} {A B : World} (h : BInv w g b A) (hb : Below A.heap.size A B) : BInv w g b B :=
  ⟨obj_below h.box hb, h.old.trans (hb.mono h.old.size)⟩

set_option maxHeartbeats 4000000 in
theorem lqDecide_any {b : Bnd} (h : BndOk b) (a : Int) (a0 : -1000000000000000 ≤ a) (a1 : a ≤ 1000000000000000) (w : World) :
    Calls Try.prog 42 #[.agg b.cells.toArray, .int .i64 a] w fun e w' => e = .returned (.tuple #[.int .i64 (decR b a), .int .i64 (decP b a), .bool (okB b a)]) ∧ Below w.heap.size w w' := by
  have HC := Lib.hid (fun W => lqCheck_ok h W)
  have HT := Lib.hid (fun W => Total_yes (n := a) W a0 a1)
  have HL := Lib.hid (fun x (x0 : 0 ≤ x) (x1 : x ≤ 2000000000000000) W => lqlots_ok h x x0 x1 W)
  have HE := Lib.hid (fun r p W => lqenough_any h a r p a0 a1 W)
  have l0 := h.lo0
  have l1 := h.hi1
  have l2 := h.le
  have hR : decR b a = if okB b a then raiseI b a else 0 := rfl
  have hP : decP b a = if okB b a then placeI b a else 0 := rfl
  have hk : okB b a = enoughB b a (raiseI b a) (placeI b a) := rfl
  have hr : raiseI b a = if a < b.lo then lotsI b (b.lo - a) else 0 := rfl
  have hp : placeI b a = if a < b.lo then 0 else if b.hi < a then lotsI b (a - b.hi) else 0 := rfl
  have HX := Lib.hid (show BInv w w.heap.size b (w.alloc (.cells b.cells.toArray 48)) from ⟨heap_alloc_new w _, below_alloc w _⟩)
  obtain ⟨k, hkk⟩ : ∃ k, k = okB b a := ⟨_, rfl⟩
  rw [hR, hP, ← hkk]
  rw [← hkk] at hk
  have n1 : (a < b.lo ∧ raiseI b a = lotsI b (b.lo - a) ∧ placeI b a = 0) ∨ (¬ a < b.lo ∧ b.hi < a ∧ raiseI b a = 0 ∧ placeI b a = lotsI b (a - b.hi)) ∨ (¬ a < b.lo ∧ ¬ b.hi < a ∧ raiseI b a = 0 ∧ placeI b a = 0) := by
    by_cases h1 : a < b.lo
    · left; rw [hr, hp, if_pos h1, if_pos h1]; exact ⟨h1, rfl, rfl⟩
    · right
      by_cases h2 : b.hi < a
      · left; rw [hr, hp, if_neg h1, if_neg h1, if_pos h2]; exact ⟨h1, h2, rfl, rfl⟩
      · right; rw [hr, hp, if_neg h1, if_neg h1, if_neg h2]; exact ⟨h1, h2, rfl, rfl⟩
  obtain ⟨r, hrr⟩ : ∃ r, r = raiseI b a := ⟨_, rfl⟩
  obtain ⟨p, hpp⟩ : ∃ p, p = placeI b a := ⟨_, rfl⟩
  rw [← hrr, ← hpp] at n1 hk ⊢
  have HK := Lib.hid hk
  clear hR hP hr hp hkk hrr hpp hk h
  obtain ⟨lo, hi, lt, mr, mp⟩ := b
  simp only [Bnd.cells] at HC HL HE HX l0 l1 l2 n1 ⊢
  rcases n1 with ⟨h1, hr, hp⟩ | ⟨h1, h2, hr, hp⟩ | ⟨h1, h2, hr, hp⟩
  · subst hp
    have HQ := Lib.hid (fun W => HL.out (lo - a) (by omega) (by omega) W)
    rw [← hr] at HQ
    have HEE := Lib.hid (fun W => HE.out r 0 W)
    rw [← HK.out] at HEE
    clear hr
    clear HK HE HL
    go_enter Try.func42, Try.ntmps42
    go_wp2_with fail
    with_reducible refine (HC.out _).mono ?_
    rintro e w1 ⟨rfl, b1⟩
    have HX1 := Lib.hid (HX.out.below b1)
    have hc1 := HX1.out.box
    have v0 := obj_cell hc1 0
    have v1 := obj_cell hc1 1
    have v2 := obj_cell hc1 2
    have v3 := obj_cell hc1 3
    have v4 := obj_cell hc1 4
    simp [Bnd.cells] at v0 v1 v2 v3 v4
    clear b1 hc1 HX HC
    go_wp2_with (first | (go_at_call 73; refine (HT.out _).mono ?_; rintro e w' ⟨rfl, rfl⟩) | fail)
    with_reducible refine (HQ.out _).mono ?_
    rintro e w2 ⟨rfl, b2⟩
    have HX2 := Lib.hid (HX1.out.below b2)
    have hc2 := HX2.out.box
    clear v0 v1 v2 v3 v4
    have v0 := obj_cell hc2 0
    have v1 := obj_cell hc2 1
    have v2 := obj_cell hc2 2
    have v3 := obj_cell hc2 3
    have v4 := obj_cell hc2 4
    simp [Bnd.cells] at v0 v1 v2 v3 v4
    clear b2 hc2 HX1 HQ
    go_wp2_with fail
    with_reducible refine (HEE.out _).mono ?_
    rintro e w3 ⟨rfl, b3⟩
    have HX3 := Lib.hid (HX2.out.below b3)
    clear b3 HX2 HEE v0 v1 v2 v3 v4
    cases k with
    | true =>
      go_wp2
      go_ret3
      exact ⟨rfl, HX3.out.old⟩
    | false =>
      go_wp2
      go_ret3
      exact ⟨rfl, HX3.out.old⟩
  · subst hr
    have HQ := Lib.hid (fun W => HL.out (a - hi) (by omega) (by omega) W)
    rw [← hp] at HQ
    have HEE := Lib.hid (fun W => HE.out 0 p W)
    rw [← HK.out] at HEE
    clear hp
    clear HK HE HL
    go_enter Try.func42, Try.ntmps42
    go_wp2_with fail
    with_reducible refine (HC.out _).mono ?_
    rintro e w1 ⟨rfl, b1⟩
    have HX1 := Lib.hid (HX.out.below b1)
    have hc1 := HX1.out.box
    have v0 := obj_cell hc1 0
    have v1 := obj_cell hc1 1
    have v2 := obj_cell hc1 2
    have v3 := obj_cell hc1 3
    have v4 := obj_cell hc1 4
    simp [Bnd.cells] at v0 v1 v2 v3 v4
    clear b1 hc1 HX HC
    go_wp2_with (first | (go_at_call 73; refine (HT.out _).mono ?_; rintro e w' ⟨rfl, rfl⟩) | fail)
    with_reducible refine (HQ.out _).mono ?_
    rintro e w2 ⟨rfl, b2⟩
    have HX2 := Lib.hid (HX1.out.below b2)
    have hc2 := HX2.out.box
    clear v0 v1 v2 v3 v4
    have v0 := obj_cell hc2 0
    have v1 := obj_cell hc2 1
    have v2 := obj_cell hc2 2
    have v3 := obj_cell hc2 3
    have v4 := obj_cell hc2 4
    simp [Bnd.cells] at v0 v1 v2 v3 v4
    clear b2 hc2 HX1 HQ
    go_wp2_with fail
    with_reducible refine (HEE.out _).mono ?_
    rintro e w3 ⟨rfl, b3⟩
    have HX3 := Lib.hid (HX2.out.below b3)
    clear b3 HX2 HEE v0 v1 v2 v3 v4
    cases k with
    | true =>
      go_wp2
      go_ret3
      exact ⟨rfl, HX3.out.old⟩
    | false =>
      go_wp2
      go_ret3
      exact ⟨rfl, HX3.out.old⟩
  · subst hr hp
    have HEE := Lib.hid (fun W => HE.out 0 0 W)
    rw [← HK.out] at HEE
    clear HK HE HL
    go_enter Try.func42, Try.ntmps42
    go_wp2_with fail
    with_reducible refine (HC.out _).mono ?_
    rintro e w1 ⟨rfl, b1⟩
    have HX1 := Lib.hid (HX.out.below b1)
    have hc1 := HX1.out.box
    have v0 := obj_cell hc1 0
    have v1 := obj_cell hc1 1
    have v2 := obj_cell hc1 2
    have v3 := obj_cell hc1 3
    have v4 := obj_cell hc1 4
    simp [Bnd.cells] at v0 v1 v2 v3 v4
    clear b1 hc1 HX HC
    have HX2 := HX1
    go_wp2_with (first | (go_at_call 73; refine (HT.out _).mono ?_; rintro e w' ⟨rfl, rfl⟩) | fail)
    with_reducible refine (HEE.out _).mono ?_
    rintro e w3 ⟨rfl, b3⟩
    have HX3 := Lib.hid (HX2.out.below b3)
    clear b3 HX2 HEE v0 v1 v2 v3 v4
    cases k with
    | true =>
      go_wp2
      go_ret3
      exact ⟨rfl, HX3.out.old⟩
    | false =>
      go_wp2
      go_ret3
      exact ⟨rfl, HX3.out.old⟩

def lotsB : Bnd := ⟨0, 10, 4, 100, 100⟩
theorem lotsB_ok : BndOk lotsB := ⟨by decide, by decide, by decide, by decide, by decide, by decide, by decide, by decide, by decide⟩

set_option maxHeartbeats 400000 in
theorem lots30_any (w : World) : Calls Try.prog 45 #[] w fun e w' => e = .returned (.agg lotsB.cells.toArray) ∧ Below w.heap.size w w' := by
  go_enter Try.func45, Try.ntmps45
  go_wp2
  exact retB (heap_alloc_new w _) (fun F hF => by
    have q0 := obj_cell hF 0
    have q1 := obj_cell hF 1
    have q2 := obj_cell hF 2
    have q3 := obj_cell hF 3
    have q4 := obj_cell hF 4
    simp [results, Try.results45, go_sem, q0, q1, q2, q3, q4]
    rfl) rfl ⟨rfl, below_alloc w _⟩

set_option maxHeartbeats 1000000 in
theorem sane30_any (w : World) : Calls Try.prog 24 #[] w fun e w' => e = .returned (.bool true) ∧ Below w.heap.size w w' := by
  have HH := Lib.hid lots30_any
  have H1 := Lib.hid (fun W => lqDecide_any lotsB_ok (-5) (by decide) (by decide) W)
  have H2 := Lib.hid (fun W => lqDecide_any lotsB_ok 15 (by decide) (by decide) W)
  have HC := Lib.hid (fun W => lqCheck_ok lotsB_ok W)
  rw [show decR lotsB (-5) = 8 by decide, show decP lotsB (-5) = 0 by decide, show okB lotsB (-5) = true by decide] at H1
  rw [show decR lotsB 15 = 0 by decide, show decP lotsB 15 = 8 by decide, show okB lotsB 15 = true by decide] at H2
  go_enter Try.func24, Try.ntmps24
  go_wp2_with fail
  refine (HH.out _).mono ?_
  rintro e w1 ⟨rfl, b1⟩
  go_wp2_with fail
  refine (H1.out _).mono ?_
  rintro e w2 ⟨rfl, b2⟩
  have B2 := Lib.hid (b1.trans (b2.mono b1.size))
  clear b1 b2
  go_wp2_with fail
  refine (HH.out _).mono ?_
  rintro e w3 ⟨rfl, b3⟩
  have B3 := Lib.hid (B2.out.trans (b3.mono B2.out.size))
  clear b3 B2
  go_wp2_with fail
  refine (H2.out _).mono ?_
  rintro e w4 ⟨rfl, b4⟩
  have B4 := Lib.hid (B3.out.trans (b4.mono B3.out.size))
  clear b4 B3
  go_wp2_with fail
  refine (HH.out _).mono ?_
  rintro e w5 ⟨rfl, b5⟩
  have B5 := Lib.hid (B4.out.trans (b5.mono B4.out.size))
  clear b5 B4
  go_wp2_with fail
  refine (HC.out _).mono ?_
  rintro e w6 ⟨rfl, b6⟩
  have B6 := Lib.hid (B5.out.trans (b6.mono B5.out.size))
  clear b6 B5
  go_wp2
  go_ret
  exact ⟨rfl, B6.out⟩

theorem bnd_ok_mk {lo hi lot mr mp : Int} (h1 : -1000000000000 ≤ lo) (h2 : lo ≤ hi) (h3 : hi ≤ 1000000000000) (h4 : 1 ≤ lot) (h5 : lot ≤ 1000000000000) (h6 : 0 ≤ mr) (h7 : mr ≤ 1000000000000) (h8 : 0 ≤ mp) (h9 : mp ≤ 1000000000000) : BndOk ⟨lo, hi, lot, mr, mp⟩ := ⟨h1, h2, h3, h4, h5, h6, h7, h8, h9⟩

/-- What Band hands back. -/
def BandPost (tb : Nat) (w : World) (e : Ending) (w' : World) : Prop := ∃ b : Bnd, e = .returned (.agg b.cells.toArray) ∧ BndOk b ∧ -50 ≤ b.lo ∧ b.hi ≤ 120 ∧ b.lot ≤ 25 ∧ b.mr ≤ 1000 ∧ b.mp ≤ 1000 ∧ (b.lot = 1 ∨ b.lot = 4 ∨ b.lot = 10 ∨ b.lot = 25) ∧ SrcAt w' tb ∧ w.grownBy w' (some tb)

set_option maxHeartbeats 4000000 in
theorem sBand_any (tb : Nat) (w : World) (ht : SrcAt w tb) : Calls Try.prog 20 #[.pointer (some ⟨tb, 0, none⟩)] w (BandPost tb w) := by
  have HI0 := Lib.hid ((si_start ht).alloc (.cells #[.int .i64 0, .int .i64 0, .int .i64 0, .int .i64 0, .int .i64 0] 48))
  have HR0 := Lib.hid (heap_alloc_new w (.cells #[.int .i64 0, .int .i64 0, .int .i64 0, .int .i64 0, .int .i64 0] 48))
  have hne : w.heap.size ≠ tb := by have := ht.lt; omega
  have HNE := Lib.hid hne
  clear ht hne
  go_enter Try.func20, Try.ntmps20
  go_wp2_with fail
  with_reducible refine Calls.mono (pick_in _ [-50, 0, 0, 20] _ _ rfl HI0.out (by simp) (by simp) _ rfl _ (by simp)) ?_
  rintro e w1 ⟨x1, rfl, hx1, hi1, hg1⟩
  have HI1 := Lib.hid hi1
  have HR1 := Lib.hid (obj_turn (obj_below HR0.out (below_alloc _ _)) hg1 HNE.out)
  clear hi1 hg1 HI0 HR0
  go_wp2_with fail
  with_reducible refine Calls.mono (pick_in _ [0, 3, 10, 100] _ _ rfl HI1.out (by simp) (by simp) _ rfl _ (by simp)) ?_
  rintro e w2 ⟨x2, rfl, hx2, hi2, hg2⟩
  have HI2 := Lib.hid hi2
  have HR2 := Lib.hid (obj_turn (obj_below HR1.out (below_alloc _ _)) hg2 HNE.out)
  clear hi2 hg2 HI1 HR1
  have hx10 : -50 ≤ x1 ∧ x1 ≤ 20 := by simp at hx1; omega
  have hx20 : 0 ≤ x2 ∧ x2 ≤ 100 := by simp at hx2; omega
  go_wp2_with fail
  with_reducible refine Calls.mono (pick_in _ [1, 4, 10, 25] _ _ rfl HI2.out (by simp) (by simp) _ rfl _ (by simp)) ?_
  rintro e w3 ⟨x3, rfl, hx3, hi3, hg3⟩
  have HI3 := Lib.hid hi3
  have HR3 := Lib.hid (obj_turn (obj_below HR2.out (below_alloc _ _)) hg3 HNE.out)
  clear hi3 hg3 HI2 HR2
  go_wp2_with fail
  with_reducible refine Calls.mono (pick_in _ [0, 40, 500, 1000] _ _ rfl HI3.out (by simp) (by simp) _ rfl _ (by simp)) ?_
  rintro e w4 ⟨x4, rfl, hx4, hi4, hg4⟩
  have HI4 := Lib.hid hi4
  have HR4 := Lib.hid (obj_turn (obj_below HR3.out (below_alloc _ _)) hg4 HNE.out)
  clear hi4 hg4 HI3 HR3
  go_wp2_with fail
  with_reducible refine Calls.mono (pick_in _ [0, 40, 500, 1000] _ _ rfl HI4.out (by simp) (by simp) _ rfl _ (by simp)) ?_
  rintro e w5 ⟨x5, rfl, hx5, hi5, hg5⟩
  have HI5 := Lib.hid hi5
  have HR5 := Lib.hid (obj_turn (obj_below HR4.out (below_alloc _ _)) hg5 HNE.out)
  clear hi5 hg5 HI4 HR4
  have hx30 : x3 = 1 ∨ x3 = 4 ∨ x3 = 10 ∨ x3 = 25 := by simp at hx3; omega
  have hx40 : 0 ≤ x4 ∧ x4 ≤ 1000 := by simp at hx4; omega
  have hx50 : 0 ≤ x5 ∧ x5 ≤ 1000 := by simp at hx5; omega
  have hr := HR5.out
  have g0 := obj_free hr 0
  have g1 := obj_free hr 1
  have g2 := obj_free hr 2
  have g3 := obj_free hr 3
  have g4 := obj_free hr 4
  have d0 := obj_cell hr 0
  have d1 := obj_cell hr 1
  have d2 := obj_cell hr 2
  have d3 := obj_cell hr 3
  have d4 := obj_cell hr 4
  simp at d0 d1 d2 d3 d4
  clear hr hx1 hx2 hx3 hx4 hx5
  go_wp2
  show bodyPost Try.prog Try.f20 _ Exit.ret _ (put5 w5 w.heap.size (.int .i64 x1) (.int .i64 (x1 + x2)) (.int .i64 x3) (.int .i64 x4) (.int .i64 x5))
  have hf := HI5.out.put5 (b := w.heap.size) (Nat.le_refl _) (.int .i64 x1) (.int .i64 (x1 + x2)) (.int .i64 x3) (.int .i64 x4) (.int .i64 x5)
  refine ret5 HR5.out rfl _ _ _ _ _ (fun F hF => ?_) rfl ⟨⟨x1, x1 + x2, x3, x4, x5⟩, rfl, bnd_ok_mk (by omega) (by omega) (by omega) (by omega) (by omega) (by omega) (by omega) (by omega) (by omega), hx10.1, (by show x1 + x2 ≤ 120; omega), (by show x3 ≤ 25; omega), hx40.2, hx50.2, hx30, hf.src, hf.old⟩
  have q0 := obj_cell hF 0
  have q1 := obj_cell hF 1
  have q2 := obj_cell hF 2
  have q3 := obj_cell hF 3
  have q4 := obj_cell hF 4
  simp [results, Try.results20, go_sem, q0, q1, q2, q3, q4]
  rfl

end Go.Proofs.Ythajkhonapjihab
