/- What a switch does in a market: mathematics; of no function of the program. -/
import Derived.Test.YtnfllgeneehjjaaMRoT
set_option linter.unusedSimpArgs false
set_option linter.unusedVariables false
set_option linter.unusedSimpArgs false
set_option linter.unusedVariables false
namespace Go.Proofs.Ytnfllgeneehjjaa
open Go.RowKit Go.Lib Go.Proofs

/-- The register of two securities, issued on the first day. -/
structure MktOk (r : Reg) (s1 s2 : Sec) : Prop where
  ok : RegOk r
  secs : r.secs = [s1, s2]
  id1 : s1.id = 1
  id2 : s2.id = 2
  u1 : s1.unit = 1 ∨ s1.unit = 10 ∨ s1.unit = 100
  u2 : s2.unit = 1 ∨ s2.unit = 10 ∨ s2.unit = 100
  i1 : s1.iss = 0
  i2 : s2.iss = 0
  m1 : s1.mat = 1800
  m2 : s2.mat = 1800
  len : r.ms.length ≤ 3
  day : (lastM Mv.zero r.ms).day = 0
  out : ∀ i, outM r.hs i ≤ 9000 * (r.ms.length : Int)
theorem MktOk.f1 {r : Reg} {s1 s2 : Sec} (k : MktOk r s1 s2) : findS 1 r.secs = some s1 := by rw [k.secs]; simp [findS, k.id1]
theorem MktOk.f2 {r : Reg} {s1 s2 : Sec} (k : MktOk r s1 s2) : findS 2 r.secs = some s2 := by rw [k.secs]; simp [findS, k.id1, k.id2]

theorem swap_e1 {r : Reg} {s1 s2 : Sec} (k : MktOk r s1 s2) {who n : Int} (h0 : 1 ≤ who) (h1 : who ≤ 4) (hn : n = 100 ∨ n = 500 ∨ n = 1000) : addE r ⟨0, 5, 3, 1, who, 0, n⟩ = if heldM r.hs 1 who < n then 77 else 0 := by
  rw [addE_ok k.ok, if_neg (by have := k.len; omega)]
  unfold faultM numM
  simp only
  rw [k.f1]
  simp only
  unfold faultS
  simp only
  have ht : n.tmod s1.unit = 0 := by rcases hn with rfl | rfl | rfl <;> rcases k.u1 with h | h | h <;> rw [h] <;> decide
  have he : endsB ⟨(r.ms.length : Int) + 1, 5, 3, 1, who, 0, n⟩ = true := by unfold endsB; simp; omega
  have hd := k.day
  have hi := k.i1
  rw [he]
  refine (if_neg ?_).trans ?_
  · simp; omega
  refine (if_neg ?_).trans ?_
  · rw [ht]; omega
  refine (if_neg (by simp)).trans ?_
  by_cases hh : heldM r.hs 1 who < n
  · rw [if_pos hh]
    exact if_pos ⟨by decide, hh⟩
  · rw [if_neg hh]
    refine (if_neg (fun q => hh q.2)).trans ?_
    exact if_neg (fun q => absurd q.1 (by decide))

/-- What a switch makes. -/
structure SwapM (r V : Reg) (who n g : Int) : Prop where
  ok : RegOk V
  h1 : heldM V.hs 1 who = heldM r.hs 1 who - n
  h2 : heldM V.hs 2 who = heldM r.hs 2 who + g
  debt : debtM V.hs = debtM r.hs - n + g

theorem swap_good {r : Reg} {s1 s2 : Sec} (k : MktOk r s1 s2) {who n g : Int} (h0 : 1 ≤ who) (h1 : who ≤ 4) (hn : n = 100 ∨ n = 500 ∨ n = 1000) (hh : ¬ heldM r.hs 1 who < n) (g0 : 0 ≤ g) (g1 : g ≤ 9000) (hg : g % s2.unit = 0) :
    swE r 5 1 2 who n g = 0 ∧ SwapM r (swV r 5 1 2 who n g) who n g := by
  have e1 : addE r ⟨0, 5, 3, 1, who, 0, n⟩ = 0 := by rw [swap_e1 k h0 h1 hn, if_neg hh]
  have v1 : addV r ⟨0, 5, 3, 1, who, 0, n⟩ = addM r (numM r ⟨0, 5, 3, 1, who, 0, n⟩) := by unfold addV; rw [if_pos e1]
  have ok1 : RegOk (addM r (numM r ⟨0, 5, 3, 1, who, 0, n⟩)) := add_ok k.ok e1
  have c1 : heldM (addM r (numM r ⟨0, 5, 3, 1, who, 0, n⟩)).hs 1 who = heldM r.hs 1 who - n := by
    rw [show (addM r (numM r ⟨0, 5, 3, 1, who, 0, n⟩)).hs = carryM r.hs (numM r ⟨0, 5, 3, 1, who, 0, n⟩) from rfl, heldM_carry]
    unfold effM numM; simp; omega
  have c2 : heldM (addM r (numM r ⟨0, 5, 3, 1, who, 0, n⟩)).hs 2 who = heldM r.hs 2 who := by
    rw [show (addM r (numM r ⟨0, 5, 3, 1, who, 0, n⟩)).hs = carryM r.hs (numM r ⟨0, 5, 3, 1, who, 0, n⟩) from rfl, heldM_carry]
    unfold effM numM; simp
  have c3 : debtM (addM r (numM r ⟨0, 5, 3, 1, who, 0, n⟩)).hs = debtM r.hs - n := by
    rw [show (addM r (numM r ⟨0, 5, 3, 1, who, 0, n⟩)).hs = carryM r.hs (numM r ⟨0, 5, 3, 1, who, 0, n⟩) from rfl, debtM_carry]
    unfold issM numM; simp; omega
  have c4 : outM (addM r (numM r ⟨0, 5, 3, 1, who, 0, n⟩)).hs 2 = outM r.hs 2 := by
    rw [show (addM r (numM r ⟨0, 5, 3, 1, who, 0, n⟩)).hs = carryM r.hs (numM r ⟨0, 5, 3, 1, who, 0, n⟩) from rfl, outM_carry]
    unfold issM numM; simp
  have c5 : (lastM Mv.zero (addM r (numM r ⟨0, 5, 3, 1, who, 0, n⟩)).ms).day = 5 := by
    rw [show (addM r (numM r ⟨0, 5, 3, 1, who, 0, n⟩)).ms = r.ms ++ [numM r ⟨0, 5, 3, 1, who, 0, n⟩] from rfl, lastM_snoc]; rfl
  have c6 : (addM r (numM r ⟨0, 5, 3, 1, who, 0, n⟩)).ms.length = r.ms.length + 1 := by simp [addM]
  have c7 : findS 2 (addM r (numM r ⟨0, 5, 3, 1, who, 0, n⟩)).secs = some s2 := k.f2
  unfold swE swV
  rw [e1, v1, if_pos rfl]
  generalize addM r (numM r ⟨0, 5, 3, 1, who, 0, n⟩) = r1 at *
  by_cases hg0 : 0 < g
  · rw [if_pos hg0, if_pos hg0]
    have e2 : addE r1 ⟨0, 5, 1, 2, 0, who, g⟩ = 0 := by
      rw [addE_ok ok1, if_neg (by have := k.len; omega)]
      unfold faultM numM
      simp only
      rw [c7]
      simp only
      unfold faultS
      simp only
      have hu : g.tmod s2.unit = 0 := by rw [Int.tmod_eq_emod_of_nonneg g0]; exact hg
      have he : endsB ⟨(r1.ms.length : Int) + 1, 5, 1, 2, 0, who, g⟩ = true := by unfold endsB; simp; omega
      have hi := k.i2
      have hm := k.m2
      have ho := k.out 2
      have hl := k.len
      rw [he, c5, c4]
      refine (if_neg ?_).trans ?_
      · simp; omega
      refine (if_neg ?_).trans ?_
      · rw [hu]; omega
      refine (if_neg (by simp)).trans ?_
      refine (if_neg (fun q => q.1 rfl)).trans ?_
      exact if_neg (fun q => by have := q.2; omega)
    refine ⟨e2, ?_⟩
    have ok2 := add_ok ok1 e2
    rw [show addV r1 ⟨0, 5, 1, 2, 0, who, g⟩ = addM r1 (numM r1 ⟨0, 5, 1, 2, 0, who, g⟩) from by unfold addV; rw [if_pos e2]]
    refine ⟨ok2, ?_, ?_, ?_⟩
    · rw [show (addM r1 (numM r1 ⟨0, 5, 1, 2, 0, who, g⟩)).hs = carryM r1.hs (numM r1 ⟨0, 5, 1, 2, 0, who, g⟩) from rfl, heldM_carry, c1]
      unfold effM numM; simp
    · rw [show (addM r1 (numM r1 ⟨0, 5, 1, 2, 0, who, g⟩)).hs = carryM r1.hs (numM r1 ⟨0, 5, 1, 2, 0, who, g⟩) from rfl, heldM_carry, c2]
      unfold effM numM; simp
    · rw [show (addM r1 (numM r1 ⟨0, 5, 1, 2, 0, who, g⟩)).hs = carryM r1.hs (numM r1 ⟨0, 5, 1, 2, 0, who, g⟩) from rfl, debtM_carry, c3]
      unfold issM numM; simp
  · rw [if_neg hg0, if_neg hg0]
    have hgz : g = 0 := by omega
    exact ⟨rfl, ok1, c1, by rw [c2]; omega, by rw [c3]; omega⟩
theorem swap_bad {r : Reg} {s1 s2 : Sec} (k : MktOk r s1 s2) {who n g : Int} (h0 : 1 ≤ who) (h1 : who ≤ 4) (hn : n = 100 ∨ n = 500 ∨ n = 1000) (hh : heldM r.hs 1 who < n) : swE r 5 1 2 who n g = 77 := by
  unfold swE
  rw [swap_e1 k h0 h1 hn, if_pos hh, if_neg (by decide)]
/-- Another issue on the first day. -/
theorem MktOk.issue {r : Reg} {s1 s2 : Sec} (k : MktOk r s1 s2) (hl : r.ms.length < 3) {id who a : Int} (ha : a ≤ 9000) (he : addE r ⟨0, 0, 1, id, 0, who, a⟩ = 0) : MktOk (addV r ⟨0, 0, 1, id, 0, who, a⟩) s1 s2 := by
  rw [show addV r ⟨0, 0, 1, id, 0, who, a⟩ = addM r (numM r ⟨0, 0, 1, id, 0, who, a⟩) from by unfold addV; rw [if_pos he]]
  have ok := add_ok k.ok he
  obtain ⟨l', bd, s, hm⟩ := replay_mem (fun s hs => (ok.secs.bound s hs).2.2) ok.run (numM r ⟨0, 0, 1, id, 0, who, a⟩) (by simp [addM])
  have h1 := hm.amt
  simp only [numM] at h1
  refine ⟨ok, k.secs, k.id1, k.id2, k.u1, k.u2, k.i1, k.i2, k.m1, k.m2, by simp [addM]; omega, ?_, fun i => ?_⟩
  · rw [show (addM r (numM r ⟨0, 0, 1, id, 0, who, a⟩)).ms = r.ms ++ [numM r ⟨0, 0, 1, id, 0, who, a⟩] from rfl, lastM_snoc]; rfl
  · rw [show (addM r (numM r ⟨0, 0, 1, id, 0, who, a⟩)).hs = carryM r.hs (numM r ⟨0, 0, 1, id, 0, who, a⟩) from rfl, outM_carry]
    have := k.out i
    have e : ((addM r (numM r ⟨0, 0, 1, id, 0, who, a⟩)).ms.length : Int) = (r.ms.length : Int) + 1 := by simp [addM]
    rw [e]
    unfold issM numM
    simp only
    split
    · simp; omega
    · omega

end Go.Proofs.Ytnfllgeneehjjaa
