/- Sub-accounts and entries as structs of some fields; of no function of the program; no condition. -/
import Derived.Test.YtoelidndnajedaaAcW
import Derived.Test.YtoelidndnajedaaSfun
namespace Go.Proofs.Ytoelidndnajedaa
open Go.RowKit Go.Lib Go.Proofs

def subC (s : SubA) : List Value := [.int .i64 s.id, .int .i64 s.bal]
theorem subF : Fields subC 2 := ⟨fun _ => rfl, fun _ u hu => by simp only [subC, List.mem_cons, List.mem_nil_iff, or_false] at hu; rcases hu with rfl | rfl <;> rfl, by decide⟩
theorem entF : Fields Ent.cells 6 := ⟨fun _ => rfl, fun _ u hu => by simp only [Ent.cells, List.mem_cons, List.mem_nil_iff, or_false] at hu; rcases hu with rfl | rfl | rfl | rfl | rfl | rfl <;> rfl, by decide⟩
theorem cellsU_L : ∀ l : List SubA, cellsU l = cellsL subC l
  | [] => rfl
  | s :: l => by simp only [cellsU, cellsL, subC, cellsU_L l, List.cons_append, List.nil_append]
theorem cellsN_L : ∀ l : List Ent, cellsN l = cellsL Ent.cells l
  | [] => rfl
  | s :: l => by simp only [cellsN, cellsL, cellsN_L l]
theorem subs_list {w : World} {v : Value} {l : List SubA} : SubsAt w v l ↔ ListAt subC 2 w v l := by
  unfold SubsAt ListAt
  rw [cellsU_L]
theorem ents_list {w : World} {v : Value} {l : List Ent} : EntsAt w v l ↔ ListAt Ent.cells 6 w v l := by
  unfold EntsAt ListAt
  rw [cellsN_L]

end Go.Proofs.Ytoelidndnajedaa
