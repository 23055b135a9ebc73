/- Registers, as mathematics: bent registers, moving back, whole units; of no function of the program; no condition. -/
import Derived.Test.YtnfllgeneehjjaaMG2
set_option linter.unusedSimpArgs false
set_option linter.unusedVariables false
namespace Go.Proofs.Ytnfllgeneehjjaa
open Go.RowKit Go.Lib Go.Proofs

theorem effL_set (i w : Int) : ∀ (ms : List Mv) (k : Nat) (h : k < ms.length) (m : Mv), effL i w (ms.set k m) = effL i w ms - effM ms[k] i w + effM m i w
  | [], _, h, _ => by simp at h
  | a :: ms, 0, _, m => by simp [effL]; omega
  | a :: ms, k + 1, h, m => by
    have := effL_set i w ms k (by simpa using h) m
    simp only [List.set_cons_succ, effL, List.getElem_cons_succ]
    omega
/-- Each move of a run is possible somewhere. -/
theorem replay_mem {secs : List Sec} (hs : ∀ s ∈ secs, s.mat ≤ 36000) : ∀ {ms : List Mv} {l : List Hld} {b : Mv} {k : List Hld}, replayM secs l b ms = some k → ∀ m ∈ ms, ∃ l' bd s, MvOk secs l' bd m s
  | [], _, _, _, _, _, hm => by simp at hm
  | a :: ms, l, b, k, h, m, hm => by
    simp only [replayM] at h
    split at h
    · rename_i hc
      rcases List.mem_cons.1 hm with rfl | hm
      · obtain ⟨s, hk⟩ := fault_zero hs hc.2
        exact ⟨l, b.day, s, hk⟩
      · exact replay_mem hs h m hm
    · cases h
/-- A register of which the amount of a move was changed is not right any more. -/
theorem bent_move {r : Reg} (h : RegOk r) (k : Nat) (hk : k < r.ms.length) (d : Int) (hd : d ≠ 0) : replayM r.secs [] Mv.zero (r.ms.set k { r.ms[k] with amt := r.ms[k].amt + d }) ≠ some r.hs := by
  intro hq
  obtain ⟨l', bd, s, hm⟩ := replay_mem (fun s hs => (h.secs.bound s hs).2.2) h.run r.ms[k] (List.getElem_mem hk)
  have h1 := fun i w => replay_held i w hq
  have h2 := fun i w => replay_held i w h.run
  have h3 : ∀ i w, effM { r.ms[k] with amt := r.ms[k].amt + d } i w = effM r.ms[k] i w := fun i w => by
    have e1 := h1 i w
    have e2 := h2 i w
    rw [effL_set i w r.ms k hk] at e1
    omega
  generalize r.ms[k] = m at *
  have hkind := hm.kind
  by_cases k3 : m.kind = 3
  · have := h3 m.sec m.frm
    unfold effM at this
    simp [k3] at this
    omega
  · by_cases k1 : m.kind = 1
    · have := h3 m.sec m.to
      unfold effM at this
      simp [k1] at this
      omega
    · have hne := hm.ne (by omega)
      have := h3 m.sec m.to
      unfold effM at this
      simp [k1, k3, hne] at this
      omega
/-- What is outstanding is in whole units. -/
theorem replay_unit {secs : List Sec} (hs : ∀ s ∈ secs, s.mat ≤ 36000 ∧ 1 ≤ s.unit) {i : Int} {s : Sec} (hf : findS i secs = some s) : ∀ {ms : List Mv} {l : List Hld} {b : Mv} {k : List Hld}, replayM secs l b ms = some k → outM l i % s.unit = 0 → outM k i % s.unit = 0
  | [], l, b, k, h, h0 => by simp only [replayM] at h; injection h with h; subst h; exact h0
  | m :: ms, l, b, k, h, h0 => by
    simp only [replayM] at h
    split at h
    · rename_i hc
      obtain ⟨s', hk⟩ := fault_zero (fun s hs' => (hs s hs').1) hc.2
      refine replay_unit hs hf h ?_
      rw [outM_carry]
      unfold issM
      by_cases hi : m.sec = i
      · have hss : s' = s := by have := hk.sec; rw [hi, hf] at this; injection this with this; exact this.symm
        subst hss
        have hu : m.amt % s'.unit = 0 := by
          have h1 := hk.unit
          rwa [Int.tmod_eq_emod_of_nonneg (by have := hk.amt; omega)] at h1
        rw [if_pos hi]
        have hd1 := Int.dvd_of_emod_eq_zero h0
        have hd2 := Int.dvd_of_emod_eq_zero hu
        apply Int.emod_eq_zero_of_dvd
        split
        · exact Int.dvd_add hd1 hd2
        · split
          · exact Int.dvd_add hd1 (Int.dvd_neg.2 hd2)
          · simpa using hd1
      · rw [if_neg hi]; simpa using h0
    · cases h
/-- A transfer back leads back. -/
def swapM (m : Mv) (n : Int) : Mv := { m with num := n, frm := m.to, «to» := m.frm }
theorem back_fault {r : Reg} (h : RegOk r) {m : Mv} {n : Int} (hk : m.kind = 2) (hf : faultM r.secs r.hs (lastM Mv.zero r.ms).day m = 0) : faultM r.secs (carryM r.hs m) m.day (swapM m n) = 0 := by
  obtain ⟨s, hm⟩ := fault_zero (fun s hs => (h.secs.bound s hs).2.2) hf
  have h1 := hm.amt
  have h2 := hm.frm (by omega)
  have h3 := hm.to (by omega)
  have h4 := hm.ne hk
  have h5 := hm.mat (by omega)
  have h6 := (sumH_bound (p := isAt m.sec m.to) h.runM.inv.ok.ok).1
  unfold faultM
  have e : findS (swapM m n).sec r.secs = some s := hm.sec
  rw [e]
  simp only
  unfold faultS
  have d1 := hm.day1
  have d2 := hm.day2
  have hu := hm.unit
  have hk3 : ¬ (swapM m n).kind = 3 := by show ¬ m.kind = 3; omega
  have hk1 : ¬ (swapM m n).kind = 1 := by show ¬ m.kind = 1; omega
  have he : endsB (swapM m n) = true := by
    unfold endsB
    rw [if_neg hk1, if_pos (show (swapM m n).kind = 2 from hk)]
    exact decide_eq_true ⟨h3.1, h3.2, h2.1, h2.2, fun q => h4 q.symm⟩
  have hh : heldM (carryM r.hs m) m.sec m.to = heldM r.hs m.sec m.to + m.amt := by
    rw [heldM_carry]
    unfold effM
    have n1 : ¬ m.kind = 1 := hk1
    have n3 : ¬ m.kind = 3 := hk3
    simp [n3, h4]
  rw [if_neg hk3]
  rw [if_neg (show ¬ ((swapM m n).day < m.day ∨ (swapM m n).day < s.iss ∨ s.mat < (swapM m n).day) by show ¬ (m.day < m.day ∨ m.day < s.iss ∨ s.mat < m.day); omega)]
  rw [if_neg (show ¬ ((swapM m n).amt < 1 ∨ 1000000000000 < (swapM m n).amt ∨ (swapM m n).amt.tmod s.unit ≠ 0) by show ¬ (m.amt < 1 ∨ 1000000000000 < m.amt ∨ m.amt.tmod s.unit ≠ 0); rw [hu]; omega)]
  rw [he]
  rw [if_neg (show ¬ true = false by simp)]
  rw [if_neg (show ¬ ((swapM m n).kind ≠ 1 ∧ heldM (carryM r.hs m) (swapM m n).sec (swapM m n).frm < (swapM m n).amt) by
    show ¬ (m.kind ≠ 1 ∧ heldM (carryM r.hs m) m.sec m.to < m.amt)
    rw [hh]
    unfold heldM
    omega)]
  rw [if_neg (fun q => hk1 q.1)]
theorem back_same {r : Reg} (h : RegOk r) {m : Mv} {n : Int} (hk : m.kind = 2) (hl : r.ms.length + 1 < 400) (hn : m.num = (r.ms.length : Int) + 1) (hn2 : n = (r.ms.length : Int) + 2) (hf : faultM r.secs r.hs (lastM Mv.zero r.ms).day m = 0) : carryM (carryM r.hs m) (swapM m n) = r.hs := by
  have a1 := h.add (by omega) hn hf
  have hb := back_fault (n := n) h hk hf
  have a2 := RegOk.add a1 (m := swapM m n) (by unfold addM; simp; omega) (by unfold addM; simp [swapM]; omega) (by
    have e : lastM Mv.zero (addM r m).ms = m := lastM_snoc _ _ _
    rw [e]
    exact hb)
  refine hs_ext a2.runM.inv.ok h.runM.inv.ok fun i w => ?_
  show heldM (carryM (carryM r.hs m) (swapM m n)) i w = heldM r.hs i w
  rw [heldM_carry, heldM_carry]
  unfold effM swapM
  have n1 : ¬ m.kind = 1 := by omega
  have n3 : ¬ m.kind = 3 := by omega
  simp only [n1, n3, ne_eq, not_false_eq_true, true_and]
  split <;> split <;> omega

end Go.Proofs.Ytnfllgeneehjjaa
