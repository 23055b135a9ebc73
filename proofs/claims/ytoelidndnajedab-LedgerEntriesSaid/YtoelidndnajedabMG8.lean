/- Texts of one claim, merged: ClnSub, ClnEnt, StepX. -/
import Derived.Test.YtoelidndnajedabMG6
import Derived.Test.YtoelidndnajedabMAcA
import Derived.Test.YtoelidndnajedabMG3
import Derived.Test.YtoelidndnajedabMAcO
import Derived.Test.YtoelidndnajedabMG1
import Derived.Deep.DeepCutAuto
import Derived.Deep.RegionLaw
/- slices.Clone at a struct of 2 cells: a new row of the same elements. -/
set_option linter.unusedSimpArgs false
set_option linter.unusedVariables false
set_option linter.unusedSimpArgs false
set_option linter.unusedVariables false
namespace Go.Proofs.Ytoelidndnajedab
open Go.RowKit Go.Lib Go.Proofs

end Go.Proofs.Ytoelidndnajedab

/- slices.Clone at a struct of 6 cells: a new row of the same elements. -/
set_option linter.unusedSimpArgs false
set_option linter.unusedVariables false
namespace Go.Proofs.Ytoelidndnajedab
open Go.RowKit Go.Lib Go.Proofs

end Go.Proofs.Ytoelidndnajedab

/- A step of a region that draws: a call of a function whose result is known by a condition; of no function of the program; no condition. -/
set_option linter.unusedSimpArgs false
set_option linter.unusedVariables false
namespace Go.Proofs.Ytoelidndnajedab
open Go.RowKit Go.Lib Go.Proofs

theorem step_callX {P : Program} (w : World) {ops : Array Oper} {o : Oper} {a : Act} {K : Act → World → Prop} {Q : Exit → Act → World → Prop} {E : Prop} (hw : Region.wanted o (yielded ops a.tmps) = true)
    (n : FuncId) (eg : ∀ args w, (callFunc n args).run P w = .ok (.enter n args) w) (args : Array Operand) (tys : Array TypeId) (ho : o.op = .call { callee := .value (.func n), args := args, argTypes := tys }) (vs : Array Value) (hvs : args.map a.eval = vs)
    {R : Value → World → Prop} (hc : Calls P n vs w fun e w' => ∃ v, e = .returned v ∧ R v w') (h : ∀ v w', R v w' → K (a.put o.dst v) w') :
    if Region.wanted o (yielded ops a.tmps) = true then Oper.wp P o a w K Q else E := by
  rw [if_pos hw]
  subst hvs
  have hr : (execOp a.eval o).run P w = .ok (.enter n (args.map a.eval)) w := by
    have := eg (args.map a.eval) w
    simp [execOp, ho, resolve, invoke, Act.eval, go_sem]
    exact this
  unfold Oper.wp
  rw [hr, Oper.upon_enter]
  exact hc.mono (by rintro e w' ⟨v, rfl, hr'⟩; exact h v w' hr')

end Go.Proofs.Ytoelidndnajedab
