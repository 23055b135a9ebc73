/- Plain laws on memory: a row that a sort has turned is still owned, and nothing else has turned; no condition. -/
import Derived.Test.YtbndcjbnpgdpjaaRows
import Derived.WalkKit
import Derived.Shelf.SlSortCmp.Kit1
namespace Go.Proofs.Ytbndcjbnpgdpjaa
open Go.RowKit Go.Sort Go.Lib Go.Proofs

theorem heap_mapBlock (w : World) (blk k : Nat) (f : Array Value → Array Value) (hk : k ≠ blk) : (mapBlock w blk f).heap[k]? = w.heap[k]? := by
  unfold mapBlock
  simp only [Array.getElem?_modify]
  rw [if_neg (Ne.symm hk)]

theorem heap_mapBlock_same (w : World) (blk : Nat) (f : Array Value → Array Value) {c : Array Value} {e : TypeId} {fr : Nat × Nat} (h : w.heap[blk]? = some (.cells c e fr)) : (mapBlock w blk f).heap[blk]? = some (.cells (f c) e fr) := by
  unfold mapBlock
  simp only [Array.getElem?_modify, h]
  rfl

section
variable {α : Type} [Inhabited α] {enc : α → Value}

theorem take_putCells (d : Array α) (c : Array Value) (hc : d.size ≤ c.size) : (putCells enc 0 d c).toList.take d.size = d.toList.map enc := by
  apply List.ext_getElem?
  intro k
  rw [List.getElem?_take]
  by_cases hk : k < d.size
  · rw [if_pos hk]
    have hkc : k < c.size := by omega
    simp [putCells, hk, hkc]
  · rw [if_neg hk, List.getElem?_eq_none (by simpa using by omega)]

/-- A row of its own that has been sorted: owned as before, with the new elements; nothing else has turned. -/
theorem sw_owns {W W' : World} {base P n cap : Nat} {e : TypeId} {d' : Array α} {xs : List Value} (h : SW enc W P 0 d' W') (ho : W.ownsRow base e 1 (.slice (some ⟨P, 0, none⟩) n cap) n xs) (hs : d'.size = n) :
    W'.ownsRow base e 1 (.slice (some ⟨P, 0, none⟩) n cap) n (d'.toList.map enc) ∧ W.grownBy W' (some P) := by
  obtain ⟨q, os, rfl⟩ := h
  rcases ho.2 with ⟨h', _⟩ | ⟨g', cap', cur, h', hb, hg, hnc, hcm, hcs, htake⟩
  · simp at h'
  · simp only [Value.slice.injEq, Option.some.injEq, Addr.mk.injEq, and_true, true_and] at h'
    obtain ⟨rfl, rfl⟩ := h'
    have hP : P < W.heap.size := by
      by_cases hlt : P < W.heap.size
      · exact hlt
      · rw [Array.getElem?_eq_none (by omega)] at hg; cases hg
    have h1 : (sortWorld enc W P 0 q d' os).heap[P]? = some (.cells (putCells enc 0 d' cur) e (0, 0)) := by
      unfold sortWorld
      rw [heap_grow_old _ _ (by rw [size_putRow]; exact hP)]
      exact heap_mapBlock_same (Sort.ahead W q) P _ hg
    have hsz : (putCells enc 0 d' cur).size = cur.size := by simp [putCells]
    refine ⟨⟨by simp [hs], .inr ⟨P, cap, _, rfl, hb, h1, hnc, hcm, by rw [hsz]; exact hcs, ?_⟩⟩, rfl, rfl, rfl, ?_, ?_⟩
    · rw [Nat.mul_one, ← hs]
      exact take_putCells d' cur (by omega)
    · unfold sortWorld
      rw [size_grow, size_putRow]
      exact Nat.le_add_right _ _
    · intro k hk hne
      unfold sortWorld
      rw [heap_grow_old _ _ (by rw [size_putRow]; exact hk)]
      exact heap_mapBlock (Sort.ahead W q) P k _ (fun e => hne (by rw [e]))

end

/-- The cells of an owned row, as a sort asks for them. -/
theorem holds_owns {α : Type} [Inhabited α] {enc : α → Value} {W : World} {base P cap : Nat} {e : TypeId} {d : Array α} (ho : W.ownsRow base e 1 (.slice (some ⟨P, 0, none⟩) d.size cap) d.size (d.toList.map enc)) : Holds enc W P 0 d := by
  intro j hj
  constructor
  · rw [Nat.zero_add, ho.cellAt j (by omega), List.getElem?_map, Array.getElem?_toList, Array.getElem?_eq_getElem hj, getElem!_pos d j hj]
    rfl
  · rw [Nat.zero_add]; exact ho.frozenAt j

end Go.Proofs.Ytbndcjbnpgdpjaa
