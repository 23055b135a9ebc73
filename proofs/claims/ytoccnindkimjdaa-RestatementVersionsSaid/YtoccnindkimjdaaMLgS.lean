/- slices.IndexFunc and ContainsFunc at Pst, for every predicate that returns; for rows of up to 10^6 elements. -/
import Derived.Test.YtoccnindkimjdaaMLgF
set_option linter.unusedSimpArgs false
set_option linter.unusedVariables false
set_option linter.unusedSimpArgs false
set_option linter.unusedVariables false
namespace Go.Proofs.Ytoccnindkimjdaa
open Go.RowKit Go.Lib Go.Proofs

/-- A predicate that is called with one Pst. -/
def pstPred (f : Nat) (lb : Array Value) (p : Pst → Bool) (xs : List Pst) (Old : World → Prop) : Prop :=
  ∀ x ∈ xs, ∀ W, Old W → Calls Try.prog f (#[.agg (pstC x).toArray] ++ lb) W fun e W' => e = .returned (.bool (p x)) ∧ Below W.heap.size W W'

set_option maxRecDepth 100000 in
set_option maxHeartbeats 4000000 in
theorem pstIndex_any (f : Nat) (lb : Array Value) (eg : ∀ args w, (callFunc f args).run Try.prog w = .ok (.enter f args) w) (p : Pst → Bool) (xs : List Pst) (v : Value) (w : World)
    (hr : ListAt pstC 8 w v xs) (hlen : xs.length ≤ 1000000) (hp : pstPred f lb p xs fun W => Below w.heap.size w W) :
    Calls Try.prog 68 #[v, .func (.func f) #[] lb] w (IndexPost p xs w) := by
  obtain ⟨ao, cap, rfl, hcap, hc⟩ := hr.shape pstF
  obtain ⟨n, hn⟩ : ∃ n, n = xs.length := ⟨_, rfl⟩
  have HN := Lib.hid hn
  have HP := Lib.hid hp
  rw [← hn] at hlen hcap ⊢
  have HC := Lib.hid hc
  clear hp hn hr hc
  go_enter Try.func68, Try.ntmps68
  go_wp2
  go_loopw [8] (fun i wr => ∃ k : Nat, i = .int .i64 k ∧ k ≤ n ∧ Hid (∀ x ∈ xs.take k, p x = false) ∧ Hid (Below w.heap.size w wr)) (fun i _ => n - (RowKit.intOf i).toNat)
  case atStart => exact ⟨0, rfl, by omega, Lib.hid (by simp), Lib.hid (Below.refl _ _)⟩
  case round =>
    obtain ⟨k, rfl, hkn, HF, HB⟩ := hrel
    by_cases hlt : k < n
    · have hlx : k < xs.length := by rw [← HN.out]; exact hlt
      obtain ⟨b, o, rfl, hb, hcc⟩ := HC.out (by omega)
      have hcell := fun j (hj : j < 8) => (HB.out.cell (p := ⟨b, o + k * 8 + j, none⟩) hb).trans (hcc k hlx j hj)
      have hcall := HP.out xs[k] (List.getElem_mem hlx) wr HB.out
      obtain ⟨x, hx⟩ : ∃ x, x = xs[k] := ⟨_, rfl⟩
      rw [← hx] at hcell hcall
      have HX := Lib.hid hx
      have hpx : Hid (∃ c, c = p x) := Lib.hid ⟨_, rfl⟩
      obtain ⟨c, hc⟩ := hpx.out
      have HPX := Lib.hid hc
      rw [← hc] at hcall
      clear hx hc hpx hcc
      obtain ⟨y0, y1, y2, y3, y4, y5, y6, y7⟩ := x
      have c0 := hcell 0 (by omega)
      have c1 := hcell 1 (by omega)
      have c2 := hcell 2 (by omega)
      have c3 := hcell 3 (by omega)
      have c4 := hcell 4 (by omega)
      have c5 := hcell 5 (by omega)
      have c6 := hcell 6 (by omega)
      have c7 := hcell 7 (by omega)
      simp [pstC] at c0 c1 c2 c3 c4 c5 c6 c7 hcall
      have HCALL := Lib.hid hcall
      have hk0 : (0 : Int) ≤ (k : Int) := by omega
      have hk1 : (k : Int) < (n : Int) := by omega
      clear hcell hcall HC
      cases c with
      | true =>
        go_wp2_with fail
        with_reducible refine (HCALL.out).mono ?_
        rintro e w1 ⟨rfl, hb1⟩
        go_wp2
        go_ret
        exact ⟨k, rfl, Or.inr ⟨k, rfl, hlx, by rw [← HX.out]; exact HPX.out.symm, HF.out⟩, HB.out.trans (hb1.mono HB.out.size)⟩
      | false =>
        go_wp2_with fail
        with_reducible refine (HCALL.out).mono ?_
        rintro e w1 ⟨rfl, hb1⟩
        go_wp2
        go_roundw
        case rel => exact ⟨k + 1, by first | rfl | go_num, by omega, Lib.hid (take_snoc_pred hlx HF.out (by rw [← HX.out]; exact HPX.out.symm)), Lib.hid (HB.out.trans (hb1.mono HB.out.size))⟩
        case measure => simp [RowKit.intOf]; omega
    · obtain rfl : k = n := by omega
      clear HC
      go_wp2
      go_ret
      exact ⟨-1, rfl, Or.inl ⟨rfl, fun x hx => HF.out x (by rw [HN.out, List.take_length]; exact hx)⟩, HB.out⟩

set_option maxHeartbeats 1000000 in
theorem pstContains_any (f : Nat) (lb : Array Value) (eg : ∀ args w, (callFunc f args).run Try.prog w = .ok (.enter f args) w) (p : Pst → Bool) (xs : List Pst) (v : Value) (w : World)
    (hr : ListAt pstC 8 w v xs) (hlen : xs.length ≤ 1000000) (hp : pstPred f lb p xs fun W => Below w.heap.size w W) :
    Calls Try.prog 49 #[v, .func (.func f) #[] lb] w fun e w' => e = .returned (.bool (xs.any p)) ∧ Below w.heap.size w w' := by
  have HI := Lib.hid (pstIndex_any f lb eg p xs v w hr hlen hp)
  obtain ⟨c, hc⟩ : ∃ c, c = xs.any p := ⟨_, rfl⟩
  rw [← hc]
  have HCC := Lib.hid hc
  clear hr hp hc
  go_enter Try.func49, Try.ntmps49
  go_wp2_with fail
  refine (HI.out).mono ?_
  rintro e w1 ⟨i, rfl, hi, hb⟩
  rcases hi with ⟨rfl, hall⟩ | ⟨k, rfl, hk, hpk, _⟩
  · obtain rfl : c = false := HCC.out.trans (List.any_eq_false.2 fun x hx => by rw [hall x hx]; simp)
    clear hall HCC
    go_wp2
    go_ret
    exact ⟨rfl, hb⟩
  · obtain rfl : c = true := HCC.out.trans (List.any_eq_true.2 ⟨xs[k], List.getElem_mem hk, hpk⟩)
    have hk0 : (0 : Int) ≤ (k : Int) := by omega
    clear hpk HCC
    go_wp2
    go_ret
    exact ⟨rfl, hb⟩

end Go.Proofs.Ytoccnindkimjdaa
