/- The chapter's example of the register. -/
import Derived.Test.YtnfllgeneehjjaaMRhV
set_option linter.unusedSimpArgs false
set_option linter.unusedVariables false
set_option linter.unusedSimpArgs false
set_option linter.unusedVariables false
namespace Go.Proofs.Ytnfllgeneehjjaa
open Go.RowKit Go.Lib Go.Proofs

def bondS : Sec := ⟨1, 100, 0, 360, 5000, 6, false⟩
def exR1 : Reg := ⟨[bondS], [], []⟩
def exM1 : Mv := ⟨0, 0, 1, 1, 0, 1, 1000⟩
def exR2 : Reg := ⟨[bondS], [⟨1, 1, 1000⟩], [⟨1, 0, 1, 1, 0, 1, 1000⟩]⟩
def exM2 : Mv := ⟨0, 1, 2, 1, 1, 2, 400⟩
def exR3 : Reg := ⟨[bondS], [⟨1, 1, 600⟩, ⟨1, 2, 400⟩], [⟨1, 0, 1, 1, 0, 1, 1000⟩, ⟨2, 1, 2, 1, 1, 2, 400⟩]⟩
theorem bond_ok : SecR bondS := ⟨6, 2, by constructor <;> simp [bondS]⟩
theorem secs_ex : SecsOk [bondS] := ⟨fun s hs => by rw [List.mem_singleton] at hs; rw [hs]; exact bond_ok, List.pairwise_singleton _ _, by decide⟩
theorem ok_none : RegOk Reg.none := ⟨⟨fun s hs => by simp [Reg.none] at hs, List.Pairwise.nil, by decide⟩, by decide, rfl⟩
theorem ok_ex1 : RegOk exR1 := ⟨secs_ex, by decide, rfl⟩
theorem ok_ex2 : RegOk exR2 := ⟨secs_ex, by decide, by decide⟩
theorem ok_ex3 : RegOk exR3 := ⟨secs_ex, by decide, by decide⟩
theorem ex_add1 : addE exR1 exM1 = 0 := by unfold addE; rw [checkR_ok ok_ex1]; decide
theorem ex_add2 : addE exR2 exM2 = 0 := by unfold addE; rw [checkR_ok ok_ex2]; decide
theorem ex_r2 : addV exR1 exM1 = exR2 := by unfold addV; rw [if_pos ex_add1]; rfl
theorem ex_r3 : addV exR2 exM2 = exR3 := by unfold addV; rw [if_pos ex_add2]; rfl
theorem ex_h1 : heldR exR3 1 1 = 600 := by unfold heldR; rw [if_pos (checkR_ok ok_ex3)]; decide
theorem ex_h2 : heldR exR3 1 2 = 400 := by unfold heldR; rw [if_pos (checkR_ok ok_ex3)]; decide
theorem ex_o : outR exR3 1 = 1000 := by unfold outR; rw [if_pos (checkR_ok ok_ex3)]; decide

end Go.Proofs.Ytnfllgeneehjjaa
