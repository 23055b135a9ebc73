/- A number as the one field of an element. -/
import Derived.Test.YtknmgkjfopoinaaGreatDoorMG1
set_option linter.unusedSimpArgs false
set_option linter.unusedVariables false
namespace Go.Proofs.YtknmgkjfopoinaaGreatDoor
open Go.RowKit Go.Lib Go.Proofs
def intC (x : Int) : List Value := [.int .i64 x]
theorem intF : Fields intC 1 := ⟨fun _ => rfl, fun x u h => by simp [intC] at h; rw [h]; rfl, by decide⟩
theorem cellsL_int : ∀ l : List Int, cellsL intC l = cellsI l
  | [] => rfl
  | x :: l => by simp [cellsL, cellsL_int l, intC, cellsI]
end Go.Proofs.YtknmgkjfopoinaaGreatDoor
