/- register.At for right registers: what the moves until a day have made. -/
import Derived.Test.YtblidmkkbcobgaaMRyF
import Derived.Test.YtblidmkkbcobgaaMG14
import Derived.Test.YtblidmkkbcobgaaMG9
set_option linter.unusedSimpArgs false
set_option linter.unusedVariables false
set_option linter.unusedSimpArgs false
set_option linter.unusedVariables false
namespace Go.Proofs.Ytblidmkkbcobgaa
open Go.RowKit Go.Lib Go.Proofs

/-! ### Days ascend -/
theorem replay_asc {secs : List Sec} (hs : ∀ s ∈ secs, s.mat ≤ 36000) : ∀ {ms : List Mv} {l : List Hld} {b : Mv} {k : List Hld}, replayM secs l b ms = some k → (ms.Pairwise fun a c => a.day ≤ c.day) ∧ ∀ m ∈ ms, b.day ≤ m.day
  | [], l, b, k, _ => ⟨List.Pairwise.nil, fun m hm => by simp at hm⟩
  | m :: ms, l, b, k, h => by
    simp only [replayM] at h
    split at h
    · rename_i hc
      obtain ⟨s, hm⟩ := fault_zero hs hc.2
      have ih := replay_asc hs h
      have h0 := hm.day0
      refine ⟨List.pairwise_cons.2 ⟨ih.2, ih.1⟩, fun x hx => ?_⟩
      rcases List.mem_cons.1 hx with rfl | hx
      · exact h0
      · have := ih.2 x hx; omega
    · cases h
theorem till_split {day : Int} : ∀ {ms : List Mv}, (ms.Pairwise fun a c => a.day ≤ c.day) → ∃ k, k ≤ ms.length ∧ tillM day ms = ms.take k ∧ (∀ x ∈ ms.take k, x.day ≤ day) ∧ ∀ x ∈ ms.drop k, ¬ x.day ≤ day
  | [], _ => ⟨0, by simp, by simp [tillM], by simp, by simp⟩
  | m :: ms, h => by
    obtain ⟨h1, h2⟩ := List.pairwise_cons.1 h
    by_cases hd : m.day ≤ day
    · obtain ⟨k, hk, ht, ha, hb⟩ := till_split (day := day) h2
      refine ⟨k + 1, by simp only [List.length_cons]; omega, ?_, ?_, ?_⟩
      · show (m :: ms).takeWhile _ = _
        rw [List.takeWhile_cons_of_pos (by simpa using hd), List.take_succ_cons]
        exact congrArg (m :: ·) ht
      · intro x hx
        rw [List.take_succ_cons] at hx
        rcases List.mem_cons.1 hx with rfl | hx
        · exact hd
        · exact ha x hx
      · intro x hx
        rw [List.drop_succ_cons] at hx
        exact hb x hx
    · refine ⟨0, by omega, ?_, by simp, ?_⟩
      · show (m :: ms).takeWhile _ = _
        rw [List.takeWhile_cons_of_neg (by simpa using hd)]; rfl
      · intro x hx
        rw [List.drop_zero] at hx
        rcases List.mem_cons.1 hx with rfl | hx
        · exact hd
        · have := h1 x hx; omega
theorem RegOk.asc {r : Reg} (h : RegOk r) : r.ms.Pairwise fun a c => a.day ≤ c.day := (replay_asc (fun s hs => (h.secs.bound s hs).2.2) h.run).1

/-! ### The two tests -/
def lateB (day : Int) (m : Mv) : Bool := !decide (m.day ≤ day)
theorem rxAtC_any (b : Nat) (day : Int) (m : Mv) (W : World) (hb : W.heap[b]? = some (.cells #[.int .i64 day] 3 (0, 0))) :
    Calls Try.prog 123 (#[.agg (mvC m).toArray] ++ #[.pointer (some ⟨b, 0, none⟩)]) W fun e W' => e = .returned (.bool (decide (m.day ≤ day))) ∧ Below W.heap.size W W' := by
  have c0 := obj_cell hb 0
  have hlt := obj_lt hb
  obtain ⟨nu, da, ki, se, fr, tt, am⟩ := m
  simp at c0
  simp only [mvC]
  clear hb
  have HB := Lib.hid (below_alloc W (.cells #[.int .i64 nu, .int .i64 da, .int .i64 ki, .int .i64 se, .int .i64 fr, .int .i64 tt, .int .i64 am] 104))
  by_cases h1 : da ≤ day
  · rw [decide_eq_true h1]
    go_enter Try.func123, Try.ntmps123
    go_wp2
    go_ret
    exact ⟨rfl, HB.out⟩
  · rw [decide_eq_false h1]
    go_enter Try.func123, Try.ntmps123
    go_wp2
    go_ret
    exact ⟨rfl, HB.out⟩
theorem rxchosenC_any (c b : Nat) (day : Int) (m : Mv) (W : World) (hb : W.heap[b]? = some (.cells #[.int .i64 day] 3 (0, 0))) (hc : W.heap[c]? = some (.cells #[.func (.func 123) #[] #[.pointer (some ⟨b, 0, none⟩)]] 142 (0, 0))) :
    Calls Try.prog 135 (#[.agg (mvC m).toArray] ++ #[.pointer (some ⟨c, 0, none⟩)]) W fun e W' => e = .returned (.bool (lateB day m)) ∧ Below W.heap.size W W' := by
  have c0 := obj_cell hc 0
  have hlt := obj_lt hc
  have HC := Lib.hid (fun W2 (h : Below W.heap.size W W2) => rxAtC_any b day m W2 (obj_below hb h))
  unfold lateB
  obtain ⟨q, hq⟩ : ∃ q, q = decide (m.day ≤ day) := ⟨_, rfl⟩
  rw [← hq] at HC ⊢
  clear hq
  obtain ⟨nu, da, ki, se, fr, tt, am⟩ := m
  simp at c0
  simp only [mvC] at HC ⊢
  obtain ⟨W1, hW1⟩ : ∃ W1, W1 = W.alloc (.cells #[.int .i64 nu, .int .i64 da, .int .i64 ki, .int .i64 se, .int .i64 fr, .int .i64 tt, .int .i64 am] 104) := ⟨_, rfl⟩
  have HB : Hid (Below W.heap.size W W1) := Lib.hid (by rw [hW1]; exact below_alloc W _)
  have HX : Hid (W1.heap[W.heap.size]? = some (.cells #[.int .i64 nu, .int .i64 da, .int .i64 ki, .int .i64 se, .int .i64 fr, .int .i64 tt, .int .i64 am] 104 (0, 0))) := Lib.hid (by rw [hW1]; exact heap_alloc_new W _)
  have HC0 : Hid (W1.heap[c]? = some (.cells #[.func (.func 123) #[] #[.pointer (some ⟨b, 0, none⟩)]] 142 (0, 0))) := Lib.hid (obj_below hc HB.out)
  have hcall := HC.out W1 HB.out
  simp at hcall
  have HCALL := Lib.hid hcall
  clear hcall
  clear hb hc c0 HC
  have hX := HX.out
  have d0 := obj_cell hX 0
  have d1 := obj_cell hX 1
  have d2 := obj_cell hX 2
  have d3 := obj_cell hX 3
  have d4 := obj_cell hX 4
  have d5 := obj_cell hX 5
  have d6 := obj_cell hX 6
  have hC0 := HC0.out
  have e0 := obj_cell hC0 0
  simp at d0 d1 d2 d3 d4 d5 d6 e0
  clear hX hC0
  go_enter Try.func135, Try.ntmps135
  go_upto_region 1 with fail
  rw [← hW1]
  clear hW1
  go_wp2_with fail
  with_reducible refine (HCALL.out).mono ?_
  rintro e w9 ⟨rfl, hb9⟩
  have HB9 := Lib.hid (HB.out.trans (hb9.mono HB.out.size))
  clear hb9 HCALL HB HX HC0 d0 d1 d2 d3 d4 d5 d6 e0
  cases q <;> (go_wp2; go_ret; exact ⟨rfl, HB9.out⟩)

/-! ### What is chosen -/
set_option maxRecDepth 100000 in
set_option maxHeartbeats 8000000 in
theorem rxchosen_any (ms : List Mv) (b k : Nat) (day : Int) (x y z : Value) (w : World) (hz : ListAt mvC 7 w z ms) (hl : ms.length ≤ 400) (hk : k ≤ ms.length) (h1 : ∀ m ∈ ms.take k, m.day ≤ day) (h2 : ∀ m ∈ ms.drop k, ¬ m.day ≤ day)
    (hb : w.heap[b]? = some (.cells #[.int .i64 day] 3 (0, 0))) :
    Calls Try.prog 122 #[.agg #[x, y, z], .func (.func 123) #[] #[.pointer (some ⟨b, 0, none⟩)]] w fun e w' => ∃ v', e = .returned v' ∧ w'.ownsRow w.heap.size 104 7 v' k (cellsL mvC (ms.take k)) ∧ Below w.heap.size w w' := by
  obtain ⟨W1, hW1⟩ : ∃ W1, W1 = (w.alloc (.cells #[x, y, z] 29)).alloc (.cells #[.func (.func 123) #[] #[.pointer (some ⟨b, 0, none⟩)]] 142) := ⟨_, rfl⟩
  have HB1 : Hid (Below w.heap.size w W1) := Lib.hid (by rw [hW1]; exact below2 w _ _)
  have HA : Hid (W1.heap[w.heap.size]? = some (.cells #[x, y, z] 29 (0, 0))) := Lib.hid (by rw [hW1]; exact alloc1_at w _ _)
  have HF : Hid (W1.heap[w.heap.size + 1]? = some (.cells #[.func (.func 123) #[] #[.pointer (some ⟨b, 0, none⟩)]] 142 (0, 0))) := Lib.hid (by rw [hW1]; exact alloc2_at w _ _)
  have HCL := Lib.hid (cloneMv_any mvC mvF ms z W1 (hz.below HB1.out) (by omega))
  have HDEL : Hid (∀ W v, Below W1.heap.size W1 W → W.ownsRow W1.heap.size 104 7 v ms.length (cellsL mvC ms) → Calls Try.prog 133 #[v, .func (.func 135) #[] #[.pointer (some ⟨w.heap.size + 1, 0, none⟩)]] W fun e w' => ∃ v', e = .returned v' ∧ w'.ownsRow W1.heap.size 104 7 v' k (cellsL mvC (ms.take k)) ∧ Below W1.heap.size W w') := Lib.hid fun W v hW ho =>
    delfMv_any 135 _ (fun args w => by rfl) (lateB day) W1.heap.size v ms k W (by omega) hk hW.size ho (fun m hm => by unfold lateB; rw [decide_eq_true (h1 m hm)]; rfl) (fun m hm => by unfold lateB; rw [decide_eq_false (h2 m hm)]; rfl)
      fun m _ W2 hW2 => rxchosenC_any (w.heap.size + 1) b day m W2 (obj_below (obj_below (obj_below hb HB1.out) hW) hW2) (obj_below (obj_below HF.out hW) hW2)
  clear hz h1 h2 hb
  have hA := HA.out
  have a2 := obj_cell hA 2
  simp at a2
  clear hA
  go_enter Try.func122, Try.ntmps122
  go_upto_region 1 with fail
  rw [← hW1]
  clear hW1
  go_wp2_with fail
  refine Calls.mono HCL.out ?_
  rintro e w2 ⟨v2, rfl, ho2, hb2⟩
  have HD2 := Lib.hid (HDEL.out w2 v2 hb2 ho2)
  have HB2 := Lib.hid (HB1.out.trans (hb2.mono HB1.out.size))
  clear hb2 ho2 HDEL HCL a2
  go_wp2_with fail
  refine Calls.mono HD2.out ?_
  rintro e w3 ⟨v3, rfl, ho3, hb3⟩
  have HO3 := Lib.hid (ownsRow_mono ho3 HB1.out.size)
  have HB3 := Lib.hid (HB2.out.trans (hb3.mono HB1.out.size))
  clear ho3 hb3 HD2
  go_wp2
  go_ret
  exact ⟨_, rfl, HO3.out, HB3.out⟩

end Go.Proofs.Ytblidmkkbcobgaa
