/- A number as the one field of an element. -/
import Derived.Test.YtebgfbcojhmdlaaDoorRowL
namespace Go.Proofs.YtebgfbcojhmdlaaDoor
open Go.RowKit Go.Lib Go.Proofs
def intC (x : Int) : List Value := [.int .i64 x]
theorem intF : Fields intC 1 := ⟨fun _ => rfl, fun x u h => by simp [intC] at h; rw [h]; rfl, by decide⟩
theorem cellsL_int : ∀ l : List Int, cellsL intC l = cellsI l
  | [] => rfl
  | x :: l => by simp [cellsL, cellsL_int l, intC, cellsI]
end Go.Proofs.YtebgfbcojhmdlaaDoor
