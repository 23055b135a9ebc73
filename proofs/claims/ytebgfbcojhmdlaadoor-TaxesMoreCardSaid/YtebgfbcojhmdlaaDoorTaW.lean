/- What a tax brings and when, as mathematics; of no function of the program; no condition. -/
import Derived.Test.YtebgfbcojhmdlaaDoorTaM
import Derived.Test.YtebgfbcojhmdlaaDoorTaN
import Derived.Test.YtebgfbcojhmdlaaDoorCal
set_option linter.unusedSimpArgs false
set_option linter.unusedVariables false
namespace Go.Proofs.YtebgfbcojhmdlaaDoor
open Go.RowKit Go.Lib Go.Proofs

def amtT (t : Tx) : Int := scaleI t.base t.num t.den
theorem scale_le {b n d : Int} (hb : 0 ≤ b) (hn : 0 ≤ n) (hnd : n ≤ d) (hd : 1 ≤ d) : scaleI b n d ≤ b := by
  unfold scaleI
  have h1 : b * n ≤ b * d := Int.mul_le_mul_of_nonneg_left hnd hb
  have h2 : 2 * b * n = 2 * (b * n) := Int.mul_assoc 2 b n
  have h3 : (2 * b * n + d) / (2 * d) < b + 1 := Int.ediv_lt_of_lt_mul (by omega) (by
    have h4 : (b + 1) * (2 * d) = 2 * (b * d) + 2 * d := by rw [Int.add_mul, Int.one_mul, ← Int.mul_assoc, Int.mul_comm b 2, Int.mul_assoc]
    rw [h4, h2]
    omega)
  omega
theorem scale_base {b c n d : Int} (h : b ≤ c) (hn : 0 ≤ n) (hd : 1 ≤ d) : scaleI b n d ≤ scaleI c n d := by
  unfold scaleI
  have h1 : 2 * b * n ≤ 2 * c * n := Int.mul_le_mul_of_nonneg_right (by omega) hn
  exact Int.ediv_le_ediv (by omega) (by omega)
theorem scale_num {b n m d : Int} (h : n ≤ m) (hb : 0 ≤ b) (hd : 1 ≤ d) : scaleI b n d ≤ scaleI b m d := by
  unfold scaleI
  have h1 : 2 * b * n ≤ 2 * b * m := Int.mul_le_mul_of_nonneg_left h (by omega)
  exact Int.ediv_le_ediv (by omega) (by omega)

/-- The i-th day of a tax, as it is planned and as it is. -/
def planT (t : Tx) (i : Nat) : Int := t.fst + (i : Int) * t.evr * 30
def dayT (t : Tx) (i : Nat) : Int := nextI (planT t i)
def daysT (t : Tx) (n : Nat) : List Int := (List.range n).map (dayT t)
theorem daysT_len (t : Tx) (n : Nat) : (daysT t n).length = n := by simp [daysT]
theorem daysT_succ (t : Tx) (n : Nat) : daysT t (n + 1) = daysT t n ++ [dayT t n] := by simp [daysT, List.range_succ]
theorem daysT_get (t : Tx) {n i : Nat} (h : i < n) : (daysT t n).getD i 0 = dayT t i := by
  simp [daysT, List.getD, h]
theorem plan_in {t : Tx} (h : TxG t) {i : Nat} (hi : i ≤ 10) : 0 ≤ planT t i ∧ planT t i ≤ 28000 ∧ 0 ≤ (i : Int) * t.evr ∧ (i : Int) * t.evr ≤ 600 := by
  have h1 := h.fst
  have h2 := h.evr
  have h3 : (i : Int) * t.evr ≤ 10 * 60 := Int.mul_le_mul (by omega) h2.2 (by omega) (by decide)
  have h4 : 0 ≤ (i : Int) * t.evr := Int.mul_nonneg (by omega) (by omega)
  unfold planT
  omega
theorem plan_mono {t : Tx} (h : TxG t) (i : Nat) : planT t i ≤ planT t (i + 1) := by
  have h2 := h.evr
  unfold planT
  have : ((i + 1 : Nat) : Int) * t.evr = (i : Int) * t.evr + t.evr := by rw [Int.natCast_add, Int.add_mul]; simp
  rw [this]
  omega
theorem next_mono {a b : Int} (h : a ≤ b) (ha : 0 ≤ a) : nextI a ≤ nextI b := by
  unfold nextI
  split <;> split <;> omega
theorem day_facts {t : Tx} (h : TxG t) {i : Nat} (hi : i ≤ 10) : planT t i ≤ dayT t i ∧ dayT t i ≤ planT t i + 2 ∧ dayT t i % 7 < 5 ∧ 0 ≤ dayT t i := by
  have h1 := (plan_in h hi).1
  obtain ⟨a, b, c, -⟩ := nextI_facts (planT t i) h1
  exact ⟨a, b, c, Int.le_trans h1 a⟩
theorem day_mono {t : Tx} (h : TxG t) {i : Nat} (hi : i ≤ 9) : dayT t i ≤ dayT t (i + 1) := next_mono (plan_mono h i) (plan_in h (by omega)).1

end Go.Proofs.YtebgfbcojhmdlaaDoor
