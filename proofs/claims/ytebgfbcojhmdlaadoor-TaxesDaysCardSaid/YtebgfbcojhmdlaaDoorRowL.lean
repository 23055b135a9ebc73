/- Slices of structs in memory, for any struct of m one-cell fields: what stands at each place, own rows that grow by one; of no function of the program; no condition. -/
import Derived.Test.YtebgfbcojhmdlaaDoorRowC
namespace Go.Proofs.YtebgfbcojhmdlaaDoor
open Go.RowKit Go.Lib Go.Proofs

/-- A struct's fields as cells: m of them, each of one cell. -/
structure Fields {α : Type} (f : α → List Value) (m : Nat) : Prop where
  len : ∀ x, (f x).length = m
  one : ∀ x, ∀ u ∈ f x, u.oneCell' = true
  pos : 0 < m

def cellsL {α : Type} (f : α → List Value) : List α → List Value
  | [] => []
  | x :: l => f x ++ cellsL f l

theorem cellsL_len {α : Type} {f : α → List Value} {m : Nat} (hf : Fields f m) : ∀ l : List α, (cellsL f l).length = l.length * m
  | [] => by simp [cellsL]
  | x :: l => by simp only [cellsL, List.length_append, hf.len, cellsL_len hf l, List.length_cons, Nat.add_mul]; omega
theorem cellsL_app {α : Type} (f : α → List Value) : ∀ l k : List α, cellsL f (l ++ k) = cellsL f l ++ cellsL f k
  | [], _ => rfl
  | x :: l, k => by simp only [List.cons_append, cellsL, cellsL_app f l k, List.append_assoc]
theorem cellsL_snoc {α : Type} (f : α → List Value) (l : List α) (x : α) : cellsL f l ++ f x = cellsL f (l ++ [x]) := by
  rw [cellsL_app]; simp [cellsL]
theorem cellsL_one {α : Type} {f : α → List Value} {m : Nat} (hf : Fields f m) : ∀ l : List α, ∀ u ∈ cellsL f l, u.oneCell' = true
  | [], u, h => by simp [cellsL] at h
  | x :: l, u, h => by
    simp only [cellsL, List.mem_append] at h
    rcases h with h | h
    · exact hf.one x u h
    · exact cellsL_one hf l u h
theorem cellsL_get {α : Type} {f : α → List Value} {m : Nat} (hf : Fields f m) : ∀ (l : List α) (i j : Nat) (h : i < l.length), j < m → (cellsL f l)[i * m + j]? = (f l[i])[j]?
  | [], _, _, h, _ => by simp at h
  | x :: l, 0, j, _, hj => by
    rw [Nat.zero_mul, Nat.zero_add]
    exact List.getElem?_append_left (by rw [hf.len]; exact hj)
  | x :: l, i + 1, j, h, hj => by
    have ih := cellsL_get hf l i j (by simpa using h) hj
    rw [show (i + 1) * m + j = (f x).length + (i * m + j) by rw [hf.len, Nat.add_mul]; omega]
    show (f x ++ cellsL f l)[(f x).length + (i * m + j)]? = _
    rw [List.getElem?_append_right (by omega), Nat.add_sub_cancel_left, ih]
    rfl

/-- A slice of structs, wherever it lies. -/
def ListAt {α : Type} (f : α → List Value) (m : Nat) (w : World) (v : Value) (l : List α) : Prop := RowG w v l.length m (cellsL f l)
theorem ListAt.below {α : Type} {f : α → List Value} {m : Nat} {w w' : World} {v : Value} {l : List α} (h : ListAt f m w v l) (hb : Below w.heap.size w w') : ListAt f m w' v l := RowG.below h hb
theorem ListAt.owns {α : Type} {f : α → List Value} {m : Nat} {w : World} {base : Nat} {e : TypeId} {v : Value} {l : List α} (h : w.ownsRow base e m v l.length (cellsL f l)) : ListAt f m w v l := RowG.owns h

/-- A slice of structs, laid open: its parts, and what stands at each place. -/
theorem ListAt.shape {α : Type} {f : α → List Value} {m : Nat} (hf : Fields f m) {w : World} {v : Value} {l : List α} (h : ListAt f m w v l) :
    ∃ ao cap, v = .slice ao l.length cap ∧ l.length ≤ cap ∧ (0 < l.length → ∃ b o, ao = some ⟨b, o, none⟩ ∧ b < w.heap.size ∧ ∀ i (hi : i < l.length), ∀ j, j < m → w.cell? ⟨b, o + i * m + j, none⟩ = (f l[i])[j]?) := by
  obtain ⟨_, ao, cap, rfl, hcap, hc⟩ := h
  refine ⟨ao, cap, rfl, hcap, fun hpos => ?_⟩
  rcases hc with hc | ⟨b, o, rfl, hb, hc⟩
  · omega
  · refine ⟨b, o, rfl, hb, fun i hi j hj => ?_⟩
    have hlt : i * m + j < l.length * m := by
      have : (i + 1) * m ≤ l.length * m := Nat.mul_le_mul_right m hi
      rw [Nat.add_mul] at this
      omega
    rw [Nat.add_assoc, hc _ hlt]
    exact cellsL_get hf l i j hi hj

theorem nil_listAt {α : Type} (f : α → List Value) (m : Nat) (w : World) (ao : Option Addr) (cap : Nat) : ListAt f m w (.slice ao 0 cap) [] := ⟨by simp [cellsL], ao, cap, rfl, Nat.zero_le _, Or.inl rfl⟩

/-- What stands in a new block: what an append of one struct asks. -/
theorem new_cells (w : World) (cs : Array Value) (T : TypeId) (b : Nat) (hb : b = w.heap.size) : ∀ j u, cs.toList[j]? = some u → (w.alloc (.cells cs T)).cell? ((⟨b, 0, none⟩ : Addr).add j) = some u := by
  subst hb
  intro j u hj
  have h1 : (w.alloc (.cells cs T)).heap[w.heap.size]? = some (.cells cs T) := heap_alloc_new w _
  have he : (⟨w.heap.size, 0, none⟩ : Addr).add j = ⟨w.heap.size, j, none⟩ := by unfold Addr.add; split <;> simp_all
  rw [he, cell_of_row _ _ j cs T (0, 0) h1, ← hj, Array.getElem?_toList]

theorem getD_map_len {α : Type} (l : List α) (x : α) : (l ++ [x]).length = l.length + 1 := by simp

end Go.Proofs.YtebgfbcojhmdlaaDoor
