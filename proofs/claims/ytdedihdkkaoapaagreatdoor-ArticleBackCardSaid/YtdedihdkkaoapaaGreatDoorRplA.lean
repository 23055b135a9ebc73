/- The contract of the article's reference's Plain of any plain article: it is plain. -/
import Derived.Test.YtdedihdkkaoapaaGreatDoorRpl
namespace Go.Proofs.YtdedihdkkaoapaaGreatDoor
open Go.RowKit Go.Lib Go.Proofs

set_option maxRecDepth 100000 in
set_option maxHeartbeats 4000000 in
theorem rpl_any (a : Art) (h : textA a ≠ ⟨#[]⟩) (w : World) : Calls Tryz.prog 12 #[.agg a.cells] w fun e w' => e = .returned (.bool true) ∧ Below w.heap.size w w' := by
  obtain ⟨f, hf, _, _, _, hok, _, he⟩ := plain_parts h
  clear h
  simp only [formsL, List.mem_cons, List.mem_nil_iff, or_false] at hf
  rcases hf with rfl | rfl | rfl | rfl | rfl | rfl | rfl | rfl | rfl | rfl | rfl | rfl
  all_goals
    simp only [litW, List.foldl_cons, List.foldl_nil, setOf, Art.none, List.mem_cons, List.mem_nil_iff, or_false, forall_eq_or_imp, forall_eq, okP, true_and] at hok he
    rw [← he]
    simp only [Art.cells]
  · exact rpl_years _ _ hok.1 hok.2 w
  · exact rpl_heading _ _ hok.1 hok.2 w
  · exact rpl_line _ _ _ hok.1 hok.2.1 hok.2.2 w
  · exact rpl_ceiling _ _ _ hok.1 hok.2.1 hok.2.2 w
  · exact rpl_floor _ _ _ hok.1 hok.2.1 hok.2.2 w
  · exact rpl_earmark _ _ _ hok.2.1 hok.1 hok.2.2 w
  · exact rpl_wait _ _ _ _ hok.1 hok.2.1 hok.2.2.1 hok.2.2.2 w
  · exact rpl_reach _ _ _ _ _ hok.1 hok.2.2.2.1 hok.2.1 hok.2.2.1 hok.2.2.2.2 w
  · exact rpl_rule _ _ _ _ hok.2.1 hok.2.2.1 hok.1 hok.2.2.2 w
  · exact rpl_aline _ _ _ _ _ hok.2.2.1 hok.2.2.2.1 hok.2.2.2.2 hok.1 hok.2.1 w
  · exact rpl_aceiling _ _ _ _ _ hok.2.2.1 hok.2.2.2.1 hok.2.2.2.2 hok.1 hok.2.1 w
  · exact rpl_afloor _ _ _ _ _ hok.2.2.1 hok.2.2.2.1 hok.2.2.2.2 hok.1 hok.2.1 w

end Go.Proofs.YtdedihdkkaoapaaGreatDoor
