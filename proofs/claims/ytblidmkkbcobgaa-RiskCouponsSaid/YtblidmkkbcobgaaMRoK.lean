/- The reference's Held and Debt, and reopening's Check and Given, for right registers. -/
import Derived.Test.YtblidmkkbcobgaaMRoF
import Derived.Test.YtblidmkkbcobgaaMRyG
import Derived.Test.YtblidmkkbcobgaaMRhE
set_option linter.unusedSimpArgs false
set_option linter.unusedVariables false
set_option linter.unusedSimpArgs false
set_option linter.unusedVariables false
namespace Go.Proofs.Ytblidmkkbcobgaa
open Go.RowKit Go.Lib Go.Proofs

set_option maxHeartbeats 4000000 in
theorem ryHeld_ok (r : Reg) (x y z : Value) (id who : Int) (w : World) (h : RegOk r) (hr : RegAt w x y z r) :
    Calls Try.prog 29 #[.agg #[x, y, z], .int .i64 id, .int .i64 who] w fun e w' => e = .returned (.int .i64 (heldM r.hs id who)) ∧ Below w.heap.size w w' := by
  obtain ⟨W1, hW1⟩ : ∃ W1, W1 = w.alloc (.cells #[x, y, z] 29) := ⟨_, rfl⟩
  have HB1 : Hid (Below w.heap.size w W1) := Lib.hid (by rw [hW1]; exact below_alloc w _)
  have HA : Hid (W1.heap[w.heap.size]? = some (.cells #[x, y, z] 29 (0, 0))) := Lib.hid (by rw [hW1]; exact heap_alloc_new w _)
  have HCK := Lib.hid (ryCheck_ok r x y z W1 h (hr.below HB1.out))
  have HHE : Hid (∀ W, Below w.heap.size w W → Calls Try.prog 67 #[y, .int .i64 id, .int .i64 who] W fun e w' => e = .returned (.int .i64 (heldM r.hs id who)) ∧ Below W.heap.size W w') := Lib.hid fun W hW => by
    have h1 := ryheld_any r.hs id who y W (hr.hs.below hW) (by have := h.hsLen; omega)
    rw [firstH_eq h.runM.inv.ok.asc] at h1
    exact h1
  obtain ⟨q, hq⟩ : ∃ q, q = heldM r.hs id who := ⟨_, rfl⟩
  rw [← hq] at HHE ⊢
  clear h hr hq
  have hA := HA.out
  have a0 := obj_cell hA 0
  have a1 := obj_cell hA 1
  have a2 := obj_cell hA 2
  simp at a0 a1 a2
  clear hA
  go_enter Try.func29, Try.ntmps29
  go_upto_region 1 with fail
  rw [← hW1]
  clear hW1
  go_wp2_with fail
  refine Calls.mono HCK.out ?_
  rintro e w2 ⟨rfl, hb2⟩
  have HB2 := Lib.hid (HB1.out.trans (hb2.mono HB1.out.size))
  have hA := obj_below HA.out hb2
  clear a0 a1 a2 hb2 HCK
  have a1 := obj_cell hA 1
  simp at a1
  clear hA
  go_wp2_with fail
  refine Calls.mono (HHE.out _ HB2.out) ?_
  rintro e w3 ⟨rfl, hb3⟩
  have HB3 := Lib.hid (HB2.out.trans (hb3.mono HB2.out.size))
  clear hb3 a1
  go_wp2
  go_ret
  exact ⟨rfl, HB3.out⟩

set_option maxHeartbeats 4000000 in
theorem ryDebt_ok (r : Reg) (x y z : Value) (w : World) (h : RegOk r) (hr : RegAt w x y z r) :
    Calls Try.prog 15 #[.agg #[x, y, z]] w fun e w' => e = .returned (.int .i64 (debtM r.hs)) ∧ Below w.heap.size w w' := by
  obtain ⟨ao, cap, hye, hcap, hcs⟩ := hr.hs.shape hldF
  obtain ⟨n, hn⟩ : ∃ n, n = r.hs.length := ⟨_, rfl⟩
  have hn8 : n ≤ 800 := by rw [hn]; exact h.hsLen
  have HN := Lib.hid hn
  have HCS := Lib.hid hcs
  have HOK : Hid (∀ x ∈ r.hs, HldOk x) := Lib.hid h.runM.inv.ok.ok
  rw [← hn] at hye hcap
  subst hye
  obtain ⟨W1, hW1⟩ : ∃ W1, W1 = w.alloc (.cells #[x, .slice ao n cap, z] 29) := ⟨_, rfl⟩
  have HB1 : Hid (Below w.heap.size w W1) := Lib.hid (by rw [hW1]; exact below_alloc w _)
  have HA : Hid (W1.heap[w.heap.size]? = some (.cells #[x, .slice ao n cap, z] 29 (0, 0))) := Lib.hid (by rw [hW1]; exact heap_alloc_new w _)
  have HCK := Lib.hid (ryCheck_ok r x _ z W1 h (hr.below HB1.out))
  clear h hr hcs hn
  have hA := HA.out
  have a0 := obj_cell hA 0
  have a1 := obj_cell hA 1
  have a2 := obj_cell hA 2
  simp at a0 a1 a2
  clear hA
  go_enter Try.func15, Try.ntmps15
  go_upto_region 1 with fail
  rw [← hW1]
  clear hW1
  go_wp2_with fail
  refine Calls.mono HCK.out ?_
  rintro e w2 ⟨rfl, hb2⟩
  have HB2 := Lib.hid (HB1.out.trans (hb2.mono HB1.out.size))
  have hA := obj_below HA.out hb2
  clear a0 a1 a2 hb2 HCK
  have a1 := obj_cell hA 1
  simp at a1
  clear hA
  go_wp2
  go_loopw [3, 12] (fun sv iv wr => ∃ (k : Nat) (s : Int), sv = .int .i64 s ∧ iv = .int .i64 (k : Int) ∧ k ≤ n ∧ 0 ≤ s ∧ s ≤ 1000000000000 * (k : Int) ∧ Hid (s = debtM (r.hs.take k)) ∧ Hid (Below w.heap.size w wr)) (fun _ iv _ => n - (RowKit.intOf iv).toNat)
  case atStart => exact ⟨0, 0, rfl, rfl, by omega, by omega, by omega, Lib.hid rfl, HB2⟩
  case round =>
    clear a1
    obtain ⟨k, s, rfl, rfl, hkn, hs0, hs1, HS, HB⟩ := hrel
    by_cases hlt : k < n
    · have hkl : k < r.hs.length := by rw [← HN.out]; exact hlt
      obtain ⟨b, o, rfl, hb, hcc⟩ := HCS.out (by omega)
      have hcell := fun j (hj : j < 3) => (HB.out.cell (p := ⟨b, o + k * 3 + j, none⟩) hb).trans (hcc k hkl j hj)
      have hamt := (HOK.out _ (List.getElem_mem hkl)).amt
      have HS2 : Hid (debtM (r.hs.take (k + 1)) = debtM (r.hs.take k) + (r.hs[k]).amt) := Lib.hid (by
        rw [List.take_succ_eq_append_getElem hkl]; unfold debtM; rw [sumH_app]; simp [sumH])
      generalize r.hs[k] = q at *
      obtain ⟨q0, q1, q2⟩ := q
      simp only at hamt HS2
      have c0 : wr.cell? ⟨b, o + k * 3, none⟩ = some (.int .i64 q0) := hcell 0 (by omega)
      have c1 : wr.cell? ⟨b, o + k * 3 + 1, none⟩ = some (.int .i64 q1) := hcell 1 (by omega)
      have c2 : wr.cell? ⟨b, o + k * 3 + 2, none⟩ = some (.int .i64 q2) := hcell 2 (by omega)
      have hk0 : (0 : Int) ≤ (k : Int) := by omega
      have hk1 : (k : Int) < (n : Int) := by omega
      have hw1 : IntKind.i64.wrap ((k : Int) + 1) = (k : Int) + 1 := IntWalk.i64_in _ (by omega)
      have hw2 : IntKind.i64.wrap (s + q2) = s + q2 := IntWalk.i64_in _ (by omega)
      have HB9 : Hid (Below w.heap.size w (wr.alloc (.cells #[.int .i64 q0, .int .i64 q1, .int .i64 q2] 53))) := Lib.hid (HB.out.alloc HB.out.size _)
      clear hcell hcc
      go_wp2
      go_roundw
      case rel => exact ⟨k + 1, _, rfl, by first | rfl | go_num, by omega, by omega, by omega, Lib.hid (by rw [HS2.out, ← HS.out]), HB9⟩
      case measure => simp [RowKit.intOf]; omega
    · obtain rfl : k = n := by omega
      obtain rfl : s = debtM r.hs := by rw [HS.out, HN.out, List.take_length]
      clear HCS
      go_wp2
      go_ret
      exact ⟨rfl, HB.out⟩

end Go.Proofs.Ytblidmkkbcobgaa
