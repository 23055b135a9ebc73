/- Struct results of three and six cells that are stored cell by cell into their place: what lies there then, and how a function ends with it; of no function of the program; no condition. -/
import Derived.Test.YtoccnindkimjdaaMBase
set_option linter.unusedSimpArgs false
set_option linter.unusedVariables false
namespace Go.Proofs.Ytoccnindkimjdaa
open Go.RowKit Go.Lib Go.Proofs

theorem obj_cell {W : World} {b : Nat} {cs : Array Value} {T : TypeId} (h : W.heap[b]? = some (.cells cs T (0, 0))) (j : Nat) : W.cell? ⟨b, j, none⟩ = cs[j]? := by
  simp [World.cell?, h]
theorem obj_free {W : World} {b : Nat} {cs : Array Value} {T : TypeId} (h : W.heap[b]? = some (.cells cs T (0, 0))) (j : Nat) : W.frozen? ⟨b, j, none⟩ = false := by
  simp [World.frozen?, h]
theorem obj_set {W : World} {b : Nat} {cs : Array Value} {T : TypeId} (h : W.heap[b]? = some (.cells cs T (0, 0))) (j : Nat) (v : Value) : (W.setCell ⟨b, j, none⟩ v).heap[b]? = some (.cells (cs.setIfInBounds j v) T (0, 0)) := by
  simp [World.setCell, Array.getElem?_modify, h]
theorem obj_lt {W : World} {b : Nat} {o : Obj} (h : W.heap[b]? = some o) : b < W.heap.size := (Array.getElem?_eq_some_iff.1 h).1
theorem obj_below {A B : World} {b : Nat} {o : Obj} (h : A.heap[b]? = some o) (hb : Below A.heap.size A B) : B.heap[b]? = some o := (hb.block b (obj_lt h)).trans h

def put6 (W : World) (b : Nat) (v0 v1 v2 v3 v4 v5 : Value) : World := (((((W.setCell ⟨b, 0, none⟩ v0).setCell ⟨b, 1, none⟩ v1).setCell ⟨b, 2, none⟩ v2).setCell ⟨b, 3, none⟩ v3).setCell ⟨b, 4, none⟩ v4).setCell ⟨b, 5, none⟩ v5
theorem put6_at {W : World} {b : Nat} {cs : Array Value} {T : TypeId} (h : W.heap[b]? = some (.cells cs T (0, 0))) (hs : cs.size = 6) (v0 v1 v2 v3 v4 v5 : Value) : (put6 W b v0 v1 v2 v3 v4 v5).heap[b]? = some (.cells #[v0, v1, v2, v3, v4, v5] T (0, 0)) := by
  obtain ⟨l⟩ := cs
  match l, hs with
  | [u0, u1, u2, u3, u4, u5], _ =>
    have := obj_set (obj_set (obj_set (obj_set (obj_set (obj_set h 0 v0) 1 v1) 2 v2) 3 v3) 4 v4) 5 v5
    simp only [List.setIfInBounds_toArray, List.set_cons_zero, List.set_cons_succ] at this
    exact this
theorem put6_below {n : Nat} {w W : World} {b : Nat} (h : Below n w W) (hb : n ≤ b) (v0 v1 v2 v3 v4 v5 : Value) : Below n w (put6 W b v0 v1 v2 v3 v4 v5) := by
  unfold put6
  exact (((((h.setCell (by exact hb) _).setCell (by exact hb) _).setCell (by exact hb) _).setCell (by exact hb) _).setCell (by exact hb) _).setCell (by exact hb) _
theorem ret6 {P : Program} {fn : Func} {R : Ending → World → Prop} {fr : Act} {W : World} {b : Nat} {cs : Array Value} {T : TypeId} {v : Value} (h : W.heap[b]? = some (.cells cs T (0, 0))) (hs : cs.size = 6) (v0 v1 v2 v3 v4 v5 : Value)
    (hr : ∀ F : World, F.heap[b]? = some (.cells #[v0, v1, v2, v3, v4, v5] T (0, 0)) → (results fn fr.tmps).run P F = .ok v F) (hd : fr.defers = []) (hR : R (.returned v) (put6 W b v0 v1 v2 v3 v4 v5)) :
    bodyPost P fn R .ret fr (put6 W b v0 v1 v2 v3 v4 v5) := bodyPost_ret (hr _ (put6_at h hs v0 v1 v2 v3 v4 v5)) hd hR

def put3 (W : World) (b : Nat) (v0 v1 v2 : Value) : World := ((W.setCell ⟨b, 0, none⟩ v0).setCell ⟨b, 1, none⟩ v1).setCell ⟨b, 2, none⟩ v2
theorem put3_at {W : World} {b : Nat} {cs : Array Value} {T : TypeId} (h : W.heap[b]? = some (.cells cs T (0, 0))) (hs : cs.size = 3) (v0 v1 v2 : Value) : (put3 W b v0 v1 v2).heap[b]? = some (.cells #[v0, v1, v2] T (0, 0)) := by
  obtain ⟨l⟩ := cs
  match l, hs with
  | [u0, u1, u2], _ =>
    have := obj_set (obj_set (obj_set h 0 v0) 1 v1) 2 v2
    simp only [List.setIfInBounds_toArray, List.set_cons_zero, List.set_cons_succ] at this
    exact this
theorem put3_below {n : Nat} {w W : World} {b : Nat} (h : Below n w W) (hb : n ≤ b) (v0 v1 v2 : Value) : Below n w (put3 W b v0 v1 v2) := by
  unfold put3
  exact ((h.setCell (by exact hb) _).setCell (by exact hb) _).setCell (by exact hb) _
theorem ret3 {P : Program} {fn : Func} {R : Ending → World → Prop} {fr : Act} {W : World} {b : Nat} {cs : Array Value} {T : TypeId} {v : Value} (h : W.heap[b]? = some (.cells cs T (0, 0))) (hs : cs.size = 3) (v0 v1 v2 : Value)
    (hr : ∀ F : World, F.heap[b]? = some (.cells #[v0, v1, v2] T (0, 0)) → (results fn fr.tmps).run P F = .ok v F) (hd : fr.defers = []) (hR : R (.returned v) (put3 W b v0 v1 v2)) :
    bodyPost P fn R .ret fr (put3 W b v0 v1 v2) := bodyPost_ret (hr _ (put3_at h hs v0 v1 v2)) hd hR

theorem setCell_grown {A : World} {b : Nat} (j : Nat) (v : Value) : A.grownBy (A.setCell ⟨b, j, none⟩ v) (some b) :=
  ⟨rfl, rfl, rfl, by simp [World.setCell], fun k _ hne => Below.heap_setCell A _ _ k (by show k ≠ b; exact fun e => hne (by rw [e]))⟩
theorem grown_step {A B C : World} {r : Option Nat} (h : A.grownBy B r) (k : B.grownBy C r) : A.grownBy C r :=
  ⟨k.os.trans h.os, k.tape.trans h.tape, k.output.trans h.output, Nat.le_trans h.size k.size, fun i hi hne => (k.block i (Nat.lt_of_lt_of_le hi h.size) hne).trans (h.block i hi hne)⟩
theorem put6_grown (W : World) (b : Nat) (v0 v1 v2 v3 v4 v5 : Value) : W.grownBy (put6 W b v0 v1 v2 v3 v4 v5) (some b) := by
  unfold put6
  exact grown_step (grown_step (grown_step (grown_step (grown_step (setCell_grown _ _) (setCell_grown _ _)) (setCell_grown _ _)) (setCell_grown _ _)) (setCell_grown _ _)) (setCell_grown _ _)
theorem put3_grown (W : World) (b : Nat) (v0 v1 v2 : Value) : W.grownBy (put3 W b v0 v1 v2) (some b) := by
  unfold put3
  exact grown_step (grown_step (setCell_grown _ _) (setCell_grown _ _)) (setCell_grown _ _)
theorem retB {P : Program} {fn : Func} {R : Ending → World → Prop} {fr : Act} {W : World} {b : Nat} {cs : Array Value} {T : TypeId} {v : Value} (h : W.heap[b]? = some (.cells cs T (0, 0)))
    (hr : ∀ F : World, F.heap[b]? = some (.cells cs T (0, 0)) → (results fn fr.tmps).run P F = .ok v F) (hd : fr.defers = []) (hR : R (.returned v) W) : bodyPost P fn R .ret fr W := bodyPost_ret (hr _ h) hd hR
theorem alloc2_at (w : World) (o1 o2 : Obj) : ((w.alloc o1).alloc o2).heap[w.heap.size + 1]? = some o2 := by
  have := heap_alloc_new (w.alloc o1) o2
  rwa [World.size_alloc] at this
theorem alloc1_at (w : World) (o1 o2 : Obj) : ((w.alloc o1).alloc o2).heap[w.heap.size]? = some o1 := (Below.heap_alloc _ _ _ (by simp)).trans (heap_alloc_new w o1)
theorem below2 (w : World) (o1 o2 : Obj) : Below w.heap.size w ((w.alloc o1).alloc o2) := ((Below.refl _ _).alloc (Nat.le_refl _) _).alloc (by simp) _

end Go.Proofs.Ytoccnindkimjdaa
