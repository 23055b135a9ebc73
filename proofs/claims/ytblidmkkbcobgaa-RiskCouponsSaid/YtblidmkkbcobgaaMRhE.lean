/- register.At for right registers. -/
import Derived.Test.YtblidmkkbcobgaaMRhA
set_option linter.unusedSimpArgs false
set_option linter.unusedVariables false
set_option linter.unusedSimpArgs false
set_option linter.unusedVariables false
namespace Go.Proofs.Ytblidmkkbcobgaa
open Go.RowKit Go.Lib Go.Proofs

set_option maxRecDepth 100000 in
set_option maxHeartbeats 16000000 in
theorem rxAt_ok (r : Reg) (x y z : Value) (day : Int) (w : World) (h : RegOk r) (hr : RegAt w x y z r) :
    Calls Try.prog 89 #[.agg #[x, y, z], .int .i64 day] w fun e w' => ∃ u q, e = .returned u ∧ replayM r.secs [] Mv.zero (tillM day r.ms) = some q ∧ w'.ownsRow w.heap.size 53 3 u q.length (cellsL hldC q) ∧ Below w.heap.size w w' := by
  obtain ⟨k, hk, htl, hk1, hk2⟩ := till_split (day := day) h.asc
  have H := Lib.hid h
  obtain ⟨W1, hW1⟩ : ∃ W1, W1 = (w.alloc (.cells #[x, y, z] 29)).alloc (.cells #[.int .i64 day] 3) := ⟨_, rfl⟩
  have HB1 : Hid (Below w.heap.size w W1) := Lib.hid (by rw [hW1]; exact below2 w _ _)
  have HA : Hid (W1.heap[w.heap.size]? = some (.cells #[x, y, z] 29 (0, 0))) := Lib.hid (by rw [hW1]; exact alloc1_at w _ _)
  have HD : Hid (W1.heap[w.heap.size + 1]? = some (.cells #[.int .i64 day] 3 (0, 0))) := Lib.hid (by rw [hW1]; exact alloc2_at w _ _)
  have HCK := Lib.hid (rxCheck_any r x y z W1 h.regS (hr.below HB1.out))
  rw [checkR_ok h] at HCK
  have HCH := Lib.hid (fun W (hW : Below W1.heap.size W1 W) => rxchosen_any r.ms (w.heap.size + 1) k day x y z W ((hr.ms.below HB1.out).below hW) h.len hk hk1 hk2 (obj_below HD.out hW))
  have hk4 : k ≤ 400 := Nat.le_trans hk h.len
  have HTL := Lib.hid htl
  have HKL := Lib.hid hk
  have hA := HA.out
  have a0 := obj_cell hA 0
  have a1 := obj_cell hA 1
  have a2 := obj_cell hA 2
  simp at a0 a1 a2
  clear hA hr h htl hk1 hk2 hk
  go_enter Try.func89, Try.ntmps89
  go_upto_region 1 with fail
  rw [← hW1]
  clear hW1
  go_wp2_with fail
  refine Calls.mono HCK.out ?_
  rintro e w2 ⟨rfl, hb2⟩
  have hA := obj_below HA.out hb2
  clear a0 a1 a2
  have a0 := obj_cell hA 0
  have a1 := obj_cell hA 1
  have a2 := obj_cell hA 2
  simp at a0 a1 a2
  have HC2 := Lib.hid (HCH.out _ hb2)
  have HB2 := Lib.hid (HB1.out.trans (hb2.mono HB1.out.size))
  clear hA hb2 HCK HCH HA HD
  go_wp2_with fail
  refine Calls.mono HC2.out ?_
  rintro e w3 ⟨v3, rfl, ho3, hb3⟩
  have HB3 := Lib.hid (HB2.out.trans (hb3.mono HB2.out.size))
  have hlt : (r.ms.take k).length = k := by rw [List.length_take]; exact Nat.min_eq_left HKL.out
  have hL3 : ListAt mvC 7 w3 v3 (r.ms.take k) := ListAt.owns (by rw [hlt]; exact ho3)
  obtain ⟨ao, cap, hve, hcap, hcs⟩ := hL3.shape mvF
  rw [hlt] at hve hcap
  subst hve
  have HCS := Lib.hid hcs
  have HLT := Lib.hid hlt
  clear hL3 hcs ho3 hb3 hlt HC2 a0 a1 a2
  go_wp2
  go_loopw [5, 15] (fun lv iv wr => ∃ (i : Nat) (q : List Hld), iv = .int .i64 (i : Int) ∧ i ≤ k ∧ Hid (replayM r.secs [] Mv.zero (r.ms.take i) = some q) ∧ Hid (wr.ownsRow w3.heap.size 53 3 lv q.length (cellsL hldC q)) ∧ Hid (Below w3.heap.size w3 wr)) (fun _ iv _ => k - (RowKit.intOf iv).toNat)
  case atStart => exact ⟨0, [], rfl, by omega, Lib.hid rfl, Lib.hid (World.ownsRow_nil _ _ _ _), Lib.hid (Below.refl _ _)⟩
  case round =>
    obtain ⟨i, q, rfl, hik, HQ, HOWN, HB⟩ := hrel
    by_cases hlk : i < k
    · have hil : i < (r.ms.take k).length := by rw [HLT.out]; exact hlk
      have hir : i < r.ms.length := Nat.lt_of_lt_of_le hlk HKL.out
      obtain ⟨b, o, rfl, hb, hcc⟩ := HCS.out (by omega)
      have hcell := fun j (hj : j < 7) => (HB.out.cell (p := ⟨b, o + i * 7 + j, none⟩) hb).trans (hcc i hil j hj)
      rw [List.getElem_take] at hcell
      obtain ⟨q', hp'⟩ := H.out.place i hir
      have hqq : q' = q := by have := hp'.run; rw [HQ.out] at this; injection this with this; exact this.symm
      subst hqq
      have HNX := Lib.hid hp'.next
      obtain ⟨s, hmv⟩ := fault_zero (fun s hs => (H.out.secs.bound s hs).2.2) hp'.fault
      have HCA : Hid (∀ W v, w3.heap.size ≤ W.heap.size → W.ownsRow w3.heap.size 53 3 v q'.length (cellsL hldC q') → Calls Try.prog 124 #[v, .agg (mvC r.ms[i]).toArray] W fun e w' => ∃ v', e = .returned v' ∧ RowTo w3.heap.size 53 3 W v w' v' (carryM q' r.ms[i]).length (cellsL hldC (carryM q' r.ms[i]))) := Lib.hid fun W v hW ho => by
        refine rxcarry_any w3.heap.size v q' r.ms[i] W hp'.inv.ok (fun hk => ?_) (by have := hp'.len; omega) hmv.amt hW ho
        have hid : 1 ≤ r.ms[i].sec ∧ r.ms[i].sec ≤ 1000 := by
          have h1 := findS_id hmv.sec
          have h2 := H.out.secs.bound s h1.2
          omega
        have hh := hmv.has hk
        have ho := hp'.inv.out r.ms[i].sec
        have ha := hmv.amt
        exact setM_ok hp'.inv.ok hid (hmv.frm hk) (by omega) (by omega)
      clear hp' hmv hcc
      generalize r.ms[i] = m at *
      obtain ⟨m0, m1, m2, m3, m4, m5, m6⟩ := m
      simp only [mvC] at hcell HCA
      have c0 := hcell 0 (by omega)
      have c1 := hcell 1 (by omega)
      have c2 := hcell 2 (by omega)
      have c3 := hcell 3 (by omega)
      have c4 := hcell 4 (by omega)
      have c5 := hcell 5 (by omega)
      have c6 := hcell 6 (by omega)
      simp at c0 c1 c2 c3 c4 c5 c6
      have hk0 : (0 : Int) ≤ (i : Int) := by omega
      have hk1 : (i : Int) < (k : Int) := by omega
      have hwk : IntKind.i64.wrap ((i : Int) + 1) = (i : Int) + 1 := IntWalk.i64_in _ (by omega)
      obtain ⟨W2, hW2⟩ : ∃ W2, W2 = wr.alloc (.cells #[.int .i64 m0, .int .i64 m1, .int .i64 m2, .int .i64 m3, .int .i64 m4, .int .i64 m5, .int .i64 m6] 104) := ⟨_, rfl⟩
      have HB5 : Hid (Below w3.heap.size w3 W2) := Lib.hid (by rw [hW2]; exact HB.out.alloc HB.out.size _)
      have HX2 : Hid (W2.heap[wr.heap.size]? = some (.cells #[.int .i64 m0, .int .i64 m1, .int .i64 m2, .int .i64 m3, .int .i64 m4, .int .i64 m5, .int .i64 m6] 104 (0, 0))) := Lib.hid (by rw [hW2]; exact heap_alloc_new wr _)
      have HO2 : Hid (W2.ownsRow w3.heap.size 53 3 u5 q'.length (cellsL hldC q')) := Lib.hid (by rw [hW2]; exact ownsRow_below HOWN.out (below_alloc wr _))
      have HC3 := Lib.hid (HCA.out W2 _ HB5.out.size HO2.out)
      clear hcell HCA
      go_upto_region 7 with fail
      rw [← hW2]
      clear hW2 c0 c1 c2 c3 c4 c5 c6
      have hX := HX2.out
      have d0 := obj_cell hX 0
      have d1 := obj_cell hX 1
      have d2 := obj_cell hX 2
      have d3 := obj_cell hX 3
      have d4 := obj_cell hX 4
      have d5 := obj_cell hX 5
      have d6 := obj_cell hX 6
      simp at d0 d1 d2 d3 d4 d5 d6
      clear hX
      go_wp2_with fail
      refine Calls.mono HC3.out ?_
      rintro e w9 ⟨u9, rfl, hR⟩
      have HOW := Lib.hid hR.owns
      have HJ := Lib.hid (HB5.out.trans (hR.belowB HO2.out HB5.out.size))
      clear hR HC3 d0 d1 d2 d3 d4 d5 d6
      go_wp2
      go_roundw
      case rel => exact ⟨i + 1, _, by first | rfl | go_num, by omega, HNX, HOW, HJ⟩
      case measure => simp [RowKit.intOf]; omega
    · obtain rfl : i = k := by omega
      have HQ2 : Hid (replayM r.secs [] Mv.zero (tillM day r.ms) = some q) := Lib.hid (by rw [HTL.out]; exact HQ.out)
      have HOW := Lib.hid (ownsRow_mono HOWN.out HB3.out.size)
      have HJ := Lib.hid (HB3.out.trans (HB.out.mono HB3.out.size))
      clear HQ HOWN HB HCS
      go_wp2
      go_ret
      exact ⟨_, q, rfl, HQ2.out, HOW.out, HJ.out⟩

end Go.Proofs.Ytblidmkkbcobgaa
