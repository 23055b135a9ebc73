/- Struct results of 5 cells that are stored cell by cell into their place (as Put's of three and six); of no function of the program; no condition. -/
import Derived.Test.YtoccnindkimjdaaMG2
set_option linter.unusedSimpArgs false
set_option linter.unusedVariables false
namespace Go.Proofs.Ytoccnindkimjdaa
open Go.RowKit Go.Lib Go.Proofs

def put5 (W : World) (b : Nat) (v0 v1 v2 v3 v4 : Value) : World := ((((W.setCell ⟨b, 0, none⟩ v0).setCell ⟨b, 1, none⟩ v1).setCell ⟨b, 2, none⟩ v2).setCell ⟨b, 3, none⟩ v3).setCell ⟨b, 4, none⟩ v4
theorem put5_at {W : World} {b : Nat} {cs : Array Value} {T : TypeId} (h : W.heap[b]? = some (.cells cs T (0, 0))) (hs : cs.size = 5) (v0 v1 v2 v3 v4 : Value) : (put5 W b v0 v1 v2 v3 v4).heap[b]? = some (.cells #[v0, v1, v2, v3, v4] T (0, 0)) := by
  obtain ⟨l⟩ := cs
  match l, hs with
  | [u0, u1, u2, u3, u4], _ =>
    have := obj_set (obj_set (obj_set (obj_set (obj_set h 0 v0) 1 v1) 2 v2) 3 v3) 4 v4
    simp only [List.setIfInBounds_toArray, List.set_cons_zero, List.set_cons_succ] at this
    exact this
theorem put5_below {n : Nat} {w W : World} {b : Nat} (h : Below n w W) (hb : n ≤ b) (v0 v1 v2 v3 v4 : Value) : Below n w (put5 W b v0 v1 v2 v3 v4) := by
  unfold put5
  exact ((((h.setCell (by exact hb) _).setCell (by exact hb) _).setCell (by exact hb) _).setCell (by exact hb) _).setCell (by exact hb) _
theorem ret5 {P : Program} {fn : Func} {R : Ending → World → Prop} {fr : Act} {W : World} {b : Nat} {cs : Array Value} {T : TypeId} {v : Value} (h : W.heap[b]? = some (.cells cs T (0, 0))) (hs : cs.size = 5) (v0 v1 v2 v3 v4 : Value)
    (hr : ∀ F : World, F.heap[b]? = some (.cells #[v0, v1, v2, v3, v4] T (0, 0)) → (results fn fr.tmps).run P F = .ok v F) (hd : fr.defers = []) (hR : R (.returned v) (put5 W b v0 v1 v2 v3 v4)) :
    bodyPost P fn R .ret fr (put5 W b v0 v1 v2 v3 v4) := bodyPost_ret (hr _ (put5_at h hs v0 v1 v2 v3 v4)) hd hR
theorem put5_grown (W : World) (b : Nat) (v0 v1 v2 v3 v4 : Value) : W.grownBy (put5 W b v0 v1 v2 v3 v4) (some b) := by
  unfold put5
  exact grown_step (grown_step (grown_step (grown_step (setCell_grown _ _) (setCell_grown _ _)) (setCell_grown _ _)) (setCell_grown _ _)) (setCell_grown _ _)
theorem SI.put5 {w : World} {tb : Nat} {A : World} (h : SI w tb A) {b : Nat} (hb : w.heap.size ≤ b) (v0 v1 v2 v3 v4 : Value) : SI w tb (Proofs.Ytoccnindkimjdaa.put5 A b v0 v1 v2 v3 v4) := by
  unfold Proofs.Ytoccnindkimjdaa.put5
  exact ((((h.set hb _ _).set hb _ _).set hb _ _).set hb _ _).set hb _ _

end Go.Proofs.Ytoccnindkimjdaa
