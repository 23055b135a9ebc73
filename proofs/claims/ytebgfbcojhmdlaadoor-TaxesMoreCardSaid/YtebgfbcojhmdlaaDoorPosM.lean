/- Positions: how they lie in memory; of no function of the program; no condition. -/
import Derived.Test.YtebgfbcojhmdlaaDoorRowL
set_option linter.unusedSimpArgs false
set_option linter.unusedVariables false
namespace Go.Proofs.YtebgfbcojhmdlaaDoor
open Go.RowKit Go.Lib Go.Proofs

structure Pos where
  day : Int
  amt : Int
def posC (p : Pos) : List Value := [.int .i64 p.day, .int .i64 p.amt]
theorem posF : Fields posC 2 := ⟨fun _ => rfl, fun x u h => by simp [posC] at h; rcases h with rfl | rfl <;> rfl, by decide⟩

theorem pos_one (p : Pos) : ∀ u ∈ posC p, u.oneCell' = true := posF.one p

end Go.Proofs.YtebgfbcojhmdlaaDoor
