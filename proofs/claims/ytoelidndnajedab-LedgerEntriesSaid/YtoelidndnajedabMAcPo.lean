/- The contract of the account's own Post. -/
import Derived.Test.YtoelidndnajedabMAcZ
import Derived.Test.YtoelidndnajedabMG8
import Derived.Test.YtoelidndnajedabMAcN
import Derived.Deep.RegionHeld3
set_option linter.unusedSimpArgs false
set_option linter.unusedVariables false
set_option linter.unusedSimpArgs false
set_option linter.unusedVariables false
namespace Go.Proofs.Ytoelidndnajedab
open Go.RowKit Go.Lib Go.Proofs

theorem PInv.grow {w : World} {ac en : Array Value} {A B : World} {v : Value} (h : PInv w ac en A) (hg : A.grownBy B v.ownBlock) (hv : ∀ g, v.ownBlock = some g → w.heap.size + 1 + 1 + 1 ≤ g) : PInv w ac en B := by
  have hne : ∀ k, k < w.heap.size + 1 + 1 + 1 → some k ≠ v.ownBlock := fun k hk e => by have := hv k e.symm; omega
  exact ⟨(hg.block _ (obj_lt h.box) (hne _ (by omega))).trans h.box, (hg.block _ (obj_lt h.ent) (hne _ (by omega))).trans h.ent, (hg.block _ (obj_lt h.res) (hne _ (by omega))).trans h.res, h.old.grown hg h.old.size (fun k hk => by have := hv k hk; omega)⟩

theorem noZero_right {a : Acc} (h : checkM a = 0) : NoZero a.subs := noZero_plain (checkM_zero.1 h).2.2.1
theorem lastE_day {a : Acc} (h : checkM a = 0) : 0 ≤ (lastE a.ents).day := by
  obtain ⟨_, _, _, h4, _⟩ := checkM_zero.1 h
  unfold lastE
  cases hq : a.ents.getLast? with
  | none => exact Int.le_refl _
  | some e =>
    have hm : e ∈ a.ents := List.mem_of_getLast? hq
    unfold daysM at h4
    exact (inB_true.1 (List.all_eq_true.1 h4 e hm)).1

end Go.Proofs.Ytoelidndnajedab
