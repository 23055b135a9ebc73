/- Claims as mathematics: what is right of one, what it is worth less; of no function of the program; no condition. -/
import Derived.Test.YtebgfbcojhmdlaaDoorRowL
set_option linter.unusedSimpArgs false
set_option linter.unusedVariables false
namespace Go.Proofs.YtebgfbcojhmdlaaDoor
open Go.RowKit Go.Lib Go.Proofs

structure Clm where
  id : Int
  payer : Int
  amt : Int
  opn : Int
  day : Int
  code : ByteArray
def clmC (c : Clm) : List Value := [.int .i64 c.id, .int .i64 c.payer, .int .i64 c.amt, .int .i64 c.opn, .int .i64 c.day, .string c.code]
theorem clmF : Fields clmC 6 := ⟨fun _ => rfl, fun _ u hu => by simp only [clmC, List.mem_cons, List.mem_nil_iff, or_false] at hu; rcases hu with rfl | rfl | rfl | rfl | rfl | rfl <;> rfl, by decide⟩
/-- The hundredths of an age. -/
def pctA (d : Int) : Int := if d ≤ 90 then 0 else if d ≤ 180 then 25 else if d ≤ 360 then 50 else 100
theorem pctA_in (d : Int) : 0 ≤ pctA d ∧ pctA d ≤ 100 := by unfold pctA; split <;> (try split) <;> (try split) <;> omega
theorem pctA_mono {a b : Int} (h : a ≤ b) : pctA a ≤ pctA b := by
  unfold pctA
  repeat' split
  all_goals omega
theorem mul_pct {n p : Int} (hn : 0 ≤ n ∧ n ≤ 1000000000000) (hp : 0 ≤ p ∧ p ≤ 100) : 0 ≤ n * p ∧ n * p ≤ 100000000000000 :=
  ⟨Int.mul_nonneg hn.1 hp.1, Int.le_trans (Int.mul_le_mul hn.2 hp.2 hp.1 (by omega)) (by omega)⟩

end Go.Proofs.YtebgfbcojhmdlaaDoor
