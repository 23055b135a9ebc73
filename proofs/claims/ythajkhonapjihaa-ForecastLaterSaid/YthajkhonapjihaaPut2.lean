/- Struct results of 2 cells that are stored cell by cell into their place (as Put's of three and six); of no function of the program; no condition. -/
import Derived.Test.YthajkhonapjihaaSrcI
namespace Go.Proofs.Ythajkhonapjihaa
open Go.RowKit Go.Lib Go.Proofs

def put2 (W : World) (b : Nat) (v0 v1 : Value) : World := (W.setCell ⟨b, 0, none⟩ v0).setCell ⟨b, 1, none⟩ v1
theorem put2_at {W : World} {b : Nat} {cs : Array Value} {T : TypeId} (h : W.heap[b]? = some (.cells cs T (0, 0))) (hs : cs.size = 2) (v0 v1 : Value) : (put2 W b v0 v1).heap[b]? = some (.cells #[v0, v1] T (0, 0)) := by
  obtain ⟨l⟩ := cs
  match l, hs with
  | [u0, u1], _ =>
    have := obj_set (obj_set h 0 v0) 1 v1
    simp only [List.setIfInBounds_toArray, List.set_cons_zero, List.set_cons_succ] at this
    exact this
theorem put2_below {n : Nat} {w W : World} {b : Nat} (h : Below n w W) (hb : n ≤ b) (v0 v1 : Value) : Below n w (put2 W b v0 v1) := by
  unfold put2
  exact (h.setCell (by exact hb) _).setCell (by exact hb) _
theorem ret2 {P : Program} {fn : Func} {R : Ending → World → Prop} {fr : Act} {W : World} {b : Nat} {cs : Array Value} {T : TypeId} {v : Value} (h : W.heap[b]? = some (.cells cs T (0, 0))) (hs : cs.size = 2) (v0 v1 : Value)
    (hr : ∀ F : World, F.heap[b]? = some (.cells #[v0, v1] T (0, 0)) → (results fn fr.tmps).run P F = .ok v F) (hd : fr.defers = []) (hR : R (.returned v) (put2 W b v0 v1)) :
    bodyPost P fn R .ret fr (put2 W b v0 v1) := bodyPost_ret (hr _ (put2_at h hs v0 v1)) hd hR
theorem put2_grown (W : World) (b : Nat) (v0 v1 : Value) : W.grownBy (put2 W b v0 v1) (some b) := by
  unfold put2
  exact grown_step (setCell_grown _ _) (setCell_grown _ _)
theorem SI.put2 {w : World} {tb : Nat} {A : World} (h : SI w tb A) {b : Nat} (hb : w.heap.size ≤ b) (v0 v1 : Value) : SI w tb (Proofs.Ythajkhonapjihaa.put2 A b v0 v1) := by
  unfold Proofs.Ythajkhonapjihaa.put2
  exact (h.set hb _ _).set hb _ _

end Go.Proofs.Ythajkhonapjihaa
