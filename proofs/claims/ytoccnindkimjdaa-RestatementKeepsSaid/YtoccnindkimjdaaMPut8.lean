/- Struct results of 8 cells that are stored cell by cell into their place (as Put's of three and six); of no function of the program; no condition. -/
import Derived.Test.YtoccnindkimjdaaMG2
set_option linter.unusedSimpArgs false
set_option linter.unusedVariables false
namespace Go.Proofs.Ytoccnindkimjdaa
open Go.RowKit Go.Lib Go.Proofs

def put8 (W : World) (b : Nat) (v0 v1 v2 v3 v4 v5 v6 v7 : Value) : World := (((((((W.setCell ⟨b, 0, none⟩ v0).setCell ⟨b, 1, none⟩ v1).setCell ⟨b, 2, none⟩ v2).setCell ⟨b, 3, none⟩ v3).setCell ⟨b, 4, none⟩ v4).setCell ⟨b, 5, none⟩ v5).setCell ⟨b, 6, none⟩ v6).setCell ⟨b, 7, none⟩ v7
theorem put8_at {W : World} {b : Nat} {cs : Array Value} {T : TypeId} (h : W.heap[b]? = some (.cells cs T (0, 0))) (hs : cs.size = 8) (v0 v1 v2 v3 v4 v5 v6 v7 : Value) : (put8 W b v0 v1 v2 v3 v4 v5 v6 v7).heap[b]? = some (.cells #[v0, v1, v2, v3, v4, v5, v6, v7] T (0, 0)) := by
  obtain ⟨l⟩ := cs
  match l, hs with
  | [u0, u1, u2, u3, u4, u5, u6, u7], _ =>
    have := obj_set (obj_set (obj_set (obj_set (obj_set (obj_set (obj_set (obj_set h 0 v0) 1 v1) 2 v2) 3 v3) 4 v4) 5 v5) 6 v6) 7 v7
    simp only [List.setIfInBounds_toArray, List.set_cons_zero, List.set_cons_succ] at this
    exact this
theorem put8_below {n : Nat} {w W : World} {b : Nat} (h : Below n w W) (hb : n ≤ b) (v0 v1 v2 v3 v4 v5 v6 v7 : Value) : Below n w (put8 W b v0 v1 v2 v3 v4 v5 v6 v7) := by
  unfold put8
  exact (((((((h.setCell (by exact hb) _).setCell (by exact hb) _).setCell (by exact hb) _).setCell (by exact hb) _).setCell (by exact hb) _).setCell (by exact hb) _).setCell (by exact hb) _).setCell (by exact hb) _
theorem ret8 {P : Program} {fn : Func} {R : Ending → World → Prop} {fr : Act} {W : World} {b : Nat} {cs : Array Value} {T : TypeId} {v : Value} (h : W.heap[b]? = some (.cells cs T (0, 0))) (hs : cs.size = 8) (v0 v1 v2 v3 v4 v5 v6 v7 : Value)
    (hr : ∀ F : World, F.heap[b]? = some (.cells #[v0, v1, v2, v3, v4, v5, v6, v7] T (0, 0)) → (results fn fr.tmps).run P F = .ok v F) (hd : fr.defers = []) (hR : R (.returned v) (put8 W b v0 v1 v2 v3 v4 v5 v6 v7)) :
    bodyPost P fn R .ret fr (put8 W b v0 v1 v2 v3 v4 v5 v6 v7) := bodyPost_ret (hr _ (put8_at h hs v0 v1 v2 v3 v4 v5 v6 v7)) hd hR
theorem put8_grown (W : World) (b : Nat) (v0 v1 v2 v3 v4 v5 v6 v7 : Value) : W.grownBy (put8 W b v0 v1 v2 v3 v4 v5 v6 v7) (some b) := by
  unfold put8
  exact grown_step (grown_step (grown_step (grown_step (grown_step (grown_step (grown_step (setCell_grown _ _) (setCell_grown _ _)) (setCell_grown _ _)) (setCell_grown _ _)) (setCell_grown _ _)) (setCell_grown _ _)) (setCell_grown _ _)) (setCell_grown _ _)
theorem SI.put8 {w : World} {tb : Nat} {A : World} (h : SI w tb A) {b : Nat} (hb : w.heap.size ≤ b) (v0 v1 v2 v3 v4 v5 v6 v7 : Value) : SI w tb (Proofs.Ytoccnindkimjdaa.put8 A b v0 v1 v2 v3 v4 v5 v6 v7) := by
  unfold Proofs.Ytoccnindkimjdaa.put8
  exact (((((((h.set hb _ _).set hb _ _).set hb _ _).set hb _ _).set hb _ _).set hb _ _).set hb _ _).set hb _ _

end Go.Proofs.Ytoccnindkimjdaa
