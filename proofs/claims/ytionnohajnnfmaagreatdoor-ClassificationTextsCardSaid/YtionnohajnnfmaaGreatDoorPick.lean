/- The contract of treasurymake's Pick: one of the numbers of a list; only the tape's place has turned. -/
import Derived.Test.YtionnohajnnfmaaGreatDoorTap
namespace Go.Proofs.YtionnohajnnfmaaGreatDoor
open Go.RowKit Go.Lib Go.Proofs

/-- What Pick hands back: one of the numbers of l; only the tape's place has turned. -/
def PickPost (tb : Nat) (l : List Int) (w : World) (e : Ending) (w' : World) : Prop := ∃ x : Int, e = .returned (.int .i64 x) ∧ x ∈ l ∧ TapeAt w' tb ∧ w.grownBy w' (some tb)

set_option maxHeartbeats 1000000 in
theorem Pick_any (tb b cap : Nat) (l : List Int) (w : World) (ht : TapeAt w tb) (hb : tb < b) (hbw : b < w.heap.size) (hl : 0 < l.length) (hl1 : l.length ≤ 1000) (hc : ∀ i, i < l.length → w.cell? ⟨b, i, none⟩ = some (.int .i64 (l.getD i 0))) :
    Calls Tryz.prog 35 #[.pointer (some ⟨tb, 0, none⟩), .slice (some ⟨b, 0, none⟩) l.length cap] w (PickPost tb l w) := by
  obtain ⟨m, hm⟩ : ∃ m, m = l.length := ⟨_, rfl⟩
  have hm0 : 0 < m := by omega
  have hm1 : m ≤ 1000 := by omega
  have HM := Lib.hid hm
  have HC := Lib.hid hc
  have HN := Lib.hid (N_any tb (m : Int) w ht (by omega) (by omega))
  rw [← hm]
  clear hc hm hl hl1 ht
  go_enter Tryz.func35, Tryz.ntmps35
  go_wp2_with fail
  refine (HN.out).mono ?_
  rintro e w' ⟨r, rfl, r0, r1, t1, g1⟩
  obtain ⟨i, rfl⟩ : ∃ i : Nat, r = i := ⟨r.toNat, by omega⟩
  have hi : i < m := by omega
  obtain ⟨x, hx⟩ : ∃ x, x = l.getD i 0 := ⟨_, rfl⟩
  have hcell : w'.cell? ⟨b, i, none⟩ = some (.int .i64 x) := by
    rw [World.cell?_of_block (w := w) (g1.block b hbw (by simp; omega)), hx]
    exact HC.out i (by have := HM.out; omega)
  have HX := Lib.hid hx
  clear hx
  go_wp2
  go_ret
  exact ⟨x, rfl, by rw [HX.out, getD_eq (by have := HM.out; omega)]; exact List.getElem_mem _, t1, g1⟩

/-- Pick among numbers that lie in a new block. -/
theorem Pick_new (tb cap : Nat) (l : List Int) (cs : Array Value) (T : TypeId) (w : World) (hcs : cs.toList = cellsI l) (ht : TapeAt w tb) (hl : 0 < l.length) (hl1 : l.length ≤ 1000) (m : Nat) (hm : m = l.length) :
    Calls Tryz.prog 35 #[.pointer (some ⟨tb, 0, none⟩), .slice (some ⟨w.heap.size, 0, none⟩) m cap] (w.alloc (.cells cs T)) (PickPost tb l (w.alloc (.cells cs T))) := by
  subst hm
  refine Pick_any tb w.heap.size cap l _ (ht.below ((Below.refl _ _).alloc (Nat.le_refl _) _)) ht.lt (by simp) hl hl1 fun i hi => ?_
  have h1 : (w.alloc (.cells cs T)).heap[w.heap.size]? = some (.cells cs T) := heap_alloc_new w _
  have h2 : cs[i]? = some (.int .i64 (l.getD i 0)) := by rw [← Array.getElem?_toList, hcs, cellsI_get l i hi]
  rw [cell_of_row _ _ i cs T (0, 0) h1]
  exact h2

end Go.Proofs.YtionnohajnnfmaaGreatDoor
