/- Contract of package ledger's sum: what all accounts of a class have together in a map that the call owns. -/
import Derived.Test.YtoccnindkimjdaaMLgQ
set_option linter.unusedSimpArgs false
set_option linter.unusedVariables false
set_option linter.unusedSimpArgs false
set_option linter.unusedVariables false
namespace Go.Proofs.Ytoccnindkimjdaa
open Go.RowKit Go.Lib Go.Proofs Go.Maps

set_option maxRecDepth 100000 in
set_option maxHeartbeats 4000000 in
theorem lgsum_right (b n : Nat) (g : Int → Int) (K : Int → Bool) (c : Int) (w : World) (hm : MapZ w b n g K) (hr : ∀ x, K x = true → 100 ≤ x ∧ x ≤ 599) (hz : ∀ x, K x = false → g x = 0) (hg : ∀ x, -400000000000000 ≤ g x ∧ g x ≤ 400000000000000) :
    Calls Try.prog 77 #[.map (some b), .int .i64 c] w fun e w' => e = .returned (.int .i64 (sumZ (fun x => decide (classM x = c)) g 500)) ∧ Below w.heap.size w w' := by
  obtain ⟨D, hown, hat0, hK⟩ := hm
  have law3 := int_keyed (P := Try.prog) Try.underlying3
  have HR := Lib.hid hr
  have HG := Lib.hid hg
  obtain ⟨T, hT⟩ : ∃ T, T = sumZ (fun x => decide (classM x = c)) g 500 := ⟨_, rfl⟩
  have HT0 : Hid (sumZ (fun y => decide (classM y = c) && Maps.has D (.int .i64 y)) g 500 = T) := Lib.hid (by
    rw [hT]
    refine sumZ_congr fun i _ => ?_
    rw [hK]
    cases hk : K (100 + (i : Int)) with
    | true => rw [Bool.and_true]
    | false => rw [Bool.and_false, hz _ hk]; simp)
  have HB : Hid (∀ q, -200000000000000000 ≤ sumZ q g 500 ∧ sumZ q g 500 ≤ 200000000000000000) := Lib.hid fun q => by
    have h := sumZ_bound (q := q) (g := g) (B := 400000000000000) hg (by omega) 500
    omega
  have HTB := HB.out (fun x => decide (classM x = c))
  rw [← hT] at HTB
  rw [← hT]
  have HAT := Lib.hid hat0
  have HKH := Lib.hid hK
  clear hat0 hK hr hz hg hT
  go_enter Try.func77, Try.ntmps77
  go_wp2_with (first
    | (at_range; refine wpList_range_own _ rfl _ 97 rfl 3 3 law3 Try.underlying97 _ b n _ rfl hown ?_; intro w0 hrg0 hg0 hs0)
    | go_in)
  go_frame
  go_loopw [5] (fun sv wr => ∃ (left : Lit → Bool) (cnt : Nat) (acc : Int), sv = .int .i64 acc ∧ wr.ranges Try.prog 3 (plainElem Try.prog 3) b w.heap.size n D left cnt ∧ Hid (∀ y : Int, left (.int .i64 y) = true → 100 ≤ y ∧ y ≤ 599) ∧ Hid (acc + sumZ (fun y => decide (classM y = c) && left (.int .i64 y)) g 500 = T) ∧ Hid (Below w.heap.size w wr))
    (fun _ wr => wr.rangeLeft b w.heap.size)
  case atStart => exact ⟨_, _, 0, rfl, hrg0, Lib.hid (fun y hy => HR.out y (by rw [← HKH.out]; exact hy)), Lib.hid (by rw [HT0.out]; omega), Lib.hid ((Below.refl _ w).grown hg0 (Nat.le_refl _) (fun j e => by cases e))⟩
  case round =>
    obtain ⟨left, cnt, acc, rfl, hrg, HLR, HACC, HBW⟩ := hrel
    go_wp2_with (first
      | (at_next; refine wpList_next_ranges_ii _ rfl _ rfl 3 3 .i64 .i64 law3 Try.underlying3 Try.underlying3 b w.heap.size n _ _ _ rfl hrg ?_ ?_)
      | go_in)
    · intro _ hl0
      have hacc : acc = T := by
        have h := HACC.out
        rw [sumZ_none (n := 500) fun i _ => by rw [hl0, Bool.and_false]] at h
        omega
      clear hl0
      go_wp2
      go_ret
      exact ⟨by first | rfl | (rw [hacc]; rfl), HBW.out⟩
    · intro x v w1 cnt1 hwx hwc hlx hat hrg1 hlt hg1 hs1 hen
      have hv : v = g x := by
        have h := (hat (.lit (.int .i64 0))).symm.trans (HAT.out x)
        simp only [DataW.lit.injEq, Lit.int.injEq, true_and] at h
        exact h
      obtain ⟨hx1, hx2⟩ := HLR.out x hlx
      have HN1 : Hid (∀ y : Int, (left (.int .i64 y) && !(Lit.int .i64 y).sameKey (.int .i64 x)) = true → 100 ≤ y ∧ y ≤ 599) := Lib.hid fun y hy => HLR.out y (by rw [Bool.and_eq_true] at hy; exact hy.1)
      have hstr : sumZ (fun y => decide (classM y = c) && (left (.int .i64 y) && !(Lit.int .i64 y).sameKey (.int .i64 x))) g 500 = sumZ (fun y => decide (classM y = c) && left (.int .i64 y)) g 500 - (if classM x = c then g x else 0) := by
        have h := sumZ_strike (q := fun y => decide (classM y = c) && left (.int .i64 y)) (g := g) (x := x) (n := 500) hx1 (by omega)
        have h2 : sumZ (fun y => decide (classM y = c) && (left (.int .i64 y) && !(Lit.int .i64 y).sameKey (.int .i64 x))) g 500 = sumZ (fun y => (decide (classM y = c) && left (.int .i64 y)) && !decide (y = x)) g 500 := sumZ_congr fun i _ => by
          rw [show (Lit.int .i64 (100 + (i : Int))).sameKey (.int .i64 x) = decide (100 + (i : Int) = x) by simp [Lit.sameKey], Bool.and_assoc]
        rw [h2, h, hlx, Bool.and_true]
        simp only [decide_eq_true_eq]
      have HB1 : Hid (Below w.heap.size w w1) := Lib.hid (HBW.out.grown hg1 HBW.out.size (fun j e => by injection e with e; omega))
      have hb1 := HB.out (fun y => decide (classM y = c) && left (.int .i64 y))
      have hacc := HACC.out
      have hgx := HG.out x
      have hwr : IntKind.i64.wrap (acc + v) = acc + v := IntWalk.i64_in _ (by rw [hv]; omega)
      have HSTR := Lib.hid hstr
      have HV := Lib.hid hv
      obtain ⟨cx, hcx⟩ : ∃ cx, cx = classM x := ⟨_, rfl⟩
      have HCX := Lib.hid hcx
      have HCL := Lib.hid (fun W => lgClass_any x W)
      rw [← hcx] at HCL
      clear hstr hv hcx hat hlx hb1 hacc hgx
      by_cases hq : cx = c
      · have hqb : (cx == c) = true := by simp [hq]
        have HQ := Lib.hid hq
        clear hq
        go_wp2_with fail
        refine (HCL.out _).mono ?_
        rintro e w2 ⟨rfl, rfl⟩
        go_wp2
        go_roundw
        case rel => exact ⟨_, cnt1, acc + v, rfl, hrg1, HN1, Lib.hid (by
          have h := HSTR.out
          rw [if_pos (by rw [← HCX.out]; exact HQ.out)] at h
          rw [h, HV.out]
          have := HACC.out
          omega), HB1⟩
        case measure => rw [hrg1.left_eq, hrg.left_eq]; exact hlt
      · have hqb : (cx == c) = false := by rw [beq_eq_false_iff_ne]; exact hq
        have HQ := Lib.hid hq
        clear hq
        go_wp2_with fail
        refine (HCL.out _).mono ?_
        rintro e w2 ⟨rfl, rfl⟩
        go_wp2
        go_roundw
        case rel => exact ⟨_, cnt1, acc, rfl, hrg1, HN1, Lib.hid (by
          have h := HSTR.out
          rw [if_neg (by rw [← HCX.out]; exact HQ.out)] at h
          rw [h]
          have := HACC.out
          omega), HB1⟩
        case measure => rw [hrg1.left_eq, hrg.left_eq]; exact hlt

end Go.Proofs.Ytoccnindkimjdaa
