/- RiskCoupons' register: one security that matures at the end of the fifth year, held by one holder: mathematics. -/
import Derived.Test.YtblidmkkbcobgaaMG7
import Derived.Test.YtblidmkkbcobgaaMG9
import Derived.Test.YtblidmkkbcobgaaMRyH
set_option linter.unusedSimpArgs false
set_option linter.unusedVariables false
set_option linter.unusedSimpArgs false
set_option linter.unusedVariables false
namespace Go.Proofs.Ytblidmkkbcobgaa
open Go.RowKit Go.Lib Go.Proofs

def cS (p e : Int) : Sec := ⟨1, 1, 0, 1800, p, e, false⟩
def PeOk (p e : Int) : Prop := (p = 1000 ∨ p = 2500 ∨ p = 5000) ∧ (e = 1 ∨ e = 3 ∨ e = 6 ∨ e = 12)
theorem cs_ok {p e : Int} (h : PeOk p e) : SecOk (cS p e) e (60 / e) := by
  obtain ⟨h1, h2⟩ := h
  rcases h1 with rfl | rfl | rfl <;> rcases h2 with rfl | rfl | rfl | rfl <;> exact ⟨by decide, by decide, by decide, by decide, by decide, by decide, by decide, by decide, by decide, by decide, by decide, by decide, by decide⟩
def gR1 (p e : Int) : Reg := ⟨[cS p e], [], []⟩
def gR2 (p e a : Int) : Reg := ⟨[cS p e], [⟨1, 1, a⟩], [⟨1, 0, 1, 1, 0, 1, a⟩]⟩
theorem secs_g {p e : Int} (h : PeOk p e) : SecsOk [cS p e] := ⟨fun s hs => by rw [List.mem_singleton] at hs; rw [hs]; exact ⟨_, _, cs_ok h⟩, List.pairwise_singleton _ _, by simp⟩
theorem ok_g1 {p e : Int} (h : PeOk p e) : RegOk (gR1 p e) := ⟨secs_g h, by simp [gR1], rfl⟩
theorem fault_g {p e a : Int} (ha : 1 ≤ a ∧ a ≤ 900000) : faultM [cS p e] [] 0 ⟨1, 0, 1, 1, 0, 1, a⟩ = 0 := by
  unfold faultM
  rw [show findS (⟨1, 0, 1, 1, 0, 1, a⟩ : Mv).sec [cS p e] = some (cS p e) from rfl]
  simp only
  unfold faultS
  simp only
  have ht : a.tmod (cS p e).unit = 0 := by show a.tmod 1 = 0; rw [Int.tmod_eq_emod_of_nonneg (by omega)]; omega
  have he : endsB ⟨1, 0, 1, 1, 0, 1, a⟩ = true := by unfold endsB; simp
  rw [he]
  refine (if_neg ?_).trans ?_
  · simp [cS]
  refine (if_neg ?_).trans ?_
  · rw [ht]; omega
  refine (if_neg (by simp)).trans ?_
  refine (if_neg (fun q => q.1 rfl)).trans ?_
  exact if_neg (fun q => by have := q.2; simp [outM, sumH] at this; omega)
theorem gv {p e a : Int} (ha : 1 ≤ a ∧ a ≤ 900000) : addM (gR1 p e) ⟨1, 0, 1, 1, 0, 1, a⟩ = gR2 p e a := by
  have : ¬ a = 0 := by omega
  simp [addM, gR1, gR2, carryM, setM, this]
theorem ok_g2 {p e a : Int} (h : PeOk p e) (ha : 1 ≤ a ∧ a ≤ 900000) : RegOk (gR2 p e a) := by
  rw [← gv ha]
  exact (ok_g1 h).add (by simp [gR1]) rfl (fault_g ha)
theorem g_issue {p e a : Int} (h : PeOk p e) (ha : 1 ≤ a ∧ a ≤ 900000) : addE (gR1 p e) ⟨0, 0, 1, 1, 0, 1, a⟩ = 0 ∧ addV (gR1 p e) ⟨0, 0, 1, 1, 0, 1, a⟩ = gR2 p e a := by
  have he : addE (gR1 p e) ⟨0, 0, 1, 1, 0, 1, a⟩ = 0 := by
    rw [addE_ok (ok_g1 h)]
    exact (if_neg (by simp [gR1])).trans (fault_g ha)
  refine ⟨he, ?_⟩
  unfold addV
  rw [if_pos he]
  exact gv ha
theorem g_held (p e a : Int) : heldM (gR2 p e a).hs 1 1 = a := by simp [gR2, heldM, sumH, isAt]
theorem g_sec (p e a : Int) : secAt (gR2 p e a).secs 1 = cS p e := rfl
theorem g_falls (p e a : Int) {y : Int} (hy : y < 5) : fallsM (gR2 p e a) y = 0 := by
  have h : dueY (gR2 p e a).secs ⟨1, 1, a⟩ = 5 := rfl
  show sumH (fun h => dueY (gR2 p e a).secs h == y) [⟨1, 1, a⟩] = 0
  have hne : ((5 : Int) == y) = false := beq_eq_false_iff_ne.2 (by omega)
  simp only [sumH, h, hne]
  simp
theorem g_raised (p e a : Int) : ∀ k : Nat, k ≤ 4 → raisedM (gR2 p e a) 0 k = 0
  | 0, _ => rfl
  | k + 1, h => by
    simp only [raisedM]
    rw [g_falls p e a (by omega), g_raised p e a k (by omega)]
    rfl
def cntUp (l : List Int) : Nat → Nat
  | 0 => 0
  | k + 1 => cntUp l k + cnt (k : Int) l
theorem cntUp_four {l : List Int} (h : ∀ d ∈ l, 0 ≤ d) : cntUp l 4 = l.countP fun d => decide (d < 1440) := by
  rw [← cnt_four h]
  simp [cntUp]
theorem g_cpn (p e a y : Int) : cpnM (gR2 p e a) y = couponI (cS p e) a * (cnt y (daysQ (cS p e)) : Int) := by
  show cpnS (gR2 p e a).secs y [⟨1, 1, a⟩] = _
  simp only [cpnS, g_sec]
  omega
theorem g_srv (p e a : Int) (rates : List Int) {k : Nat} (hk : k < 4) : (srvM (gR2 p e a) 0 rates k).prin = 0 ∧ (srvM (gR2 p e a) 0 rates k).int = couponI (cS p e) a * (cnt (k : Int) (daysQ (cS p e)) : Int) := by
  refine ⟨g_raised p e a (k + 1) (by omega), ?_⟩
  show cpnM (gR2 p e a) (0 + (k : Int)) + intM (raisedM (gR2 p e a) 0 k) (rateAt rates k) = _
  rw [g_raised p e a k (by omega), intM_zero, Int.add_zero, Int.zero_add, g_cpn]
theorem countP_take {l : List Int} {k : Nat} (h : k < l.length) : (l.take (k + 1)).countP (fun d => decide (d < 1440)) = (l.take k).countP (fun d => decide (d < 1440)) + (if l[k] < 1440 then 1 else 0) := by
  rw [List.take_succ_eq_append_getElem h, List.countP_append, List.countP_singleton]
  by_cases q : l[k] < 1440 <;> simp [q]

end Go.Proofs.Ytblidmkkbcobgaa
