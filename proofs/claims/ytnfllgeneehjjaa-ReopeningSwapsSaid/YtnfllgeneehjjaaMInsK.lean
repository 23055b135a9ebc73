/- What an insertion or a deletion makes of a row of the call's own; of no function of the program; no condition. -/
import Derived.Test.YtnfllgeneehjjaaMInsM
import Derived.Shelf.Spec.SlicesInsert
import Derived.Laws.CopyOwn
set_option linter.unusedSimpArgs false
set_option linter.unusedVariables false
namespace Go.Proofs.Ytnfllgeneehjjaa
open Go.RowKit Go.Lib Go.Proofs

/-- What became of a row of the call's own. -/
structure RowTo (base : Nat) (e : TypeId) (k : Nat) (w : World) (v : Value) (w' : World) (v' : Value) (n : Nat) (xs : List Value) : Prop where
  owns : w'.ownsRow base e k v' n xs
  grown : w.grownBy w' v.ownBlock
  moved : Moved w v v'

theorem shape_row {w : World} {b : Nat} {cs : Array Value} {T : TypeId} (h : w.heap[b]? = some (.cells cs T (0, 0))) : w.shape? b = some (T, cs.size) := by
  simp [World.shape?, h]
theorem owns_setRow {w : World} {base : Nat} {e : TypeId} {k g n cap : Nat} {cur : Array Value} {c2 : List Value} {xs : List Value} (hg : w.heap[g]? = some (.cells cur e (0, 0))) (hb : base ≤ g) (hn : n ≤ cap) (hc : cap ≤ maxLen) (hl : c2.length = cap * k) (ht : c2.take (n * k) = xs) :
    (w.setRow g c2.toArray).ownsRow base e k (.slice (some ⟨g, 0, none⟩) n cap) n xs := by
  refine ⟨by rw [← ht, List.length_take, hl]; exact Nat.min_eq_left (Nat.mul_le_mul_right k hn), Or.inr ⟨g, cap, c2.toArray, rfl, hb, setRow_heap w g cur _ e _ hg, hn, hc, by simpa using hl, by simpa using ht⟩⟩
theorem grown_setRow (w : World) (g : Nat) (cs : Array Value) : w.grownBy (w.setRow g cs) (some g) :=
  ⟨rfl, rfl, rfl, by simp, fun k hk hne => setRow_other w g k cs fun e => hne (by rw [e])⟩
theorem setRow_setRow_heap {w : World} {g : Nat} {cur c1 c2 : Array Value} {e : TypeId} (hg : w.heap[g]? = some (.cells cur e (0, 0))) : ((w.setRow g c1).setRow g c2).heap[g]? = some (.cells c2 e (0, 0)) :=
  setRow_heap _ g c1 _ e _ (setRow_heap w g cur _ e _ hg)
theorem RowTo.below {base : Nat} {e : TypeId} {k : Nat} {w : World} {v : Value} {w' : World} {v' : Value} {n m : Nat} {xs ys : List Value} (h : RowTo base e k w v w' v' n xs) (hw : w.ownsRow base e k v m ys) : Below base w w' ∨ base > w.heap.size := by
  by_cases hb : base ≤ w.heap.size
  · refine Or.inl ⟨h.grown.os, h.grown.tape, h.grown.output, h.grown.size, fun k hk => h.grown.block k (by omega) fun e => ?_⟩
    have := (hw.lt k e.symm).1
    omega
  · exact Or.inr (by omega)
theorem RowTo.belowB {base : Nat} {e : TypeId} {k : Nat} {w : World} {v : Value} {w' : World} {v' : Value} {n m : Nat} {xs ys : List Value} (h : RowTo base e k w v w' v' n xs) (hw : w.ownsRow base e k v m ys) (hb : base ≤ w.heap.size) : Below base w w' :=
  (h.below hw).resolve_right (by omega)
theorem RowTo.trans {base : Nat} {e : TypeId} {k : Nat} {w : World} {v : Value} {w' : World} {v' : Value} {w'' : World} {v'' : Value} {n m : Nat} {xs ys : List Value} (h : RowTo base e k w v w' v' n xs) (h2 : RowTo base e k w' v' w'' v'' m ys) : RowTo base e k w v w'' v'' m ys := by
  refine ⟨h2.owns, ⟨h2.grown.os.trans h.grown.os, h2.grown.tape.trans h.grown.tape, h2.grown.output.trans h.grown.output, Nat.le_trans h.grown.size h2.grown.size, fun k hk hne => ?_⟩, ?_⟩
  · refine (h2.grown.block k (Nat.lt_of_lt_of_le hk h.grown.size) fun e => ?_).trans (h.grown.block k hk hne)
    rcases h.moved with hm | hm
    · exact hne (by rw [← hm]; exact e)
    · have := hm k e.symm; omega
  · rcases h2.moved with hm | hm
    · rcases h.moved with hm2 | hm2
      · exact Or.inl (hm.trans hm2)
      · exact Or.inr fun g hg => hm2 g (by rw [← hm]; exact hg)
    · exact Or.inr fun g hg => Nat.le_trans h.grown.size (hm g hg)
theorem RowTo.refl {base : Nat} {e : TypeId} {k : Nat} {w : World} {v : Value} {n : Nat} {xs : List Value} (h : w.ownsRow base e k v n xs) : RowTo base e k w v w v n xs := ⟨h, grownBy_refl w _, Or.inl rfl⟩
/-- A change of a later world that only what is new can tell. -/
theorem RowTo.after {base : Nat} {e : TypeId} {k : Nat} {w0 w : World} {v : Value} {w' : World} {v' : Value} {n : Nat} {xs : List Value} (hb : Below w0.heap.size w0 w) (hv : ∀ g, v.ownBlock = some g → g < w0.heap.size) (h : RowTo base e k w v w' v' n xs) : RowTo base e k w0 v w' v' n xs := by
  refine ⟨h.owns, ⟨h.grown.os.trans hb.os, h.grown.tape.trans hb.tape, h.grown.output.trans hb.output, Nat.le_trans hb.size h.grown.size, fun k hk hne => (h.grown.block k (Nat.lt_of_lt_of_le hk hb.size) hne).trans (hb.block k hk)⟩, ?_⟩
  rcases h.moved with hm | hm
  · exact Or.inl hm
  · exact Or.inr fun g hg => Nat.le_trans hb.size (hm g hg)

theorem cellsL_take {α : Type} {f : α → List Value} {m : Nat} (hf : Fields f m) : ∀ (l : List α) (i : Nat), cellsL f (l.take i) = (cellsL f l).take (i * m)
  | [], i => by simp [cellsL]
  | x :: l, 0 => by simp [cellsL]
  | x :: l, i + 1 => by
    rw [List.take_succ_cons]
    show f x ++ cellsL f (l.take i) = (f x ++ cellsL f l).take ((i + 1) * m)
    have e : (i + 1) * m = m + i * m := by rw [Nat.add_mul, Nat.one_mul, Nat.add_comm]
    have h := List.take_length_add_append (l₁ := f x) (l₂ := cellsL f l) (i := i * m)
    rw [hf.len] at h
    rw [cellsL_take hf l i, e, h]
theorem cellsL_drop {α : Type} {f : α → List Value} {m : Nat} (hf : Fields f m) : ∀ (l : List α) (i : Nat), cellsL f (l.drop i) = (cellsL f l).drop (i * m)
  | [], i => by simp [cellsL]
  | x :: l, 0 => by simp [cellsL]
  | x :: l, i + 1 => by
    rw [List.drop_succ_cons]
    show cellsL f (l.drop i) = (f x ++ cellsL f l).drop ((i + 1) * m)
    have e : (i + 1) * m = m + i * m := by rw [Nat.add_mul, Nat.one_mul, Nat.add_comm]
    have h := List.drop_length_add_append (l₁ := f x) (l₂ := cellsL f l) (i := i * m)
    rw [hf.len] at h
    rw [cellsL_drop hf l i, e, h]
theorem cells_ins {α : Type} {f : α → List Value} {m : Nat} (hf : Fields f m) (l : List α) (i : Nat) (x : α) : (cellsL f l).take (i * m) ++ f x ++ (cellsL f l).drop (i * m) = cellsL f (l.take i ++ x :: l.drop i) := by
  rw [cellsL_app, cellsL_take hf]
  show _ = _ ++ (f x ++ cellsL f (l.drop i))
  rw [cellsL_drop hf, List.append_assoc]
/-- What stands in a new row behind the two copies of an insertion. -/
theorem ins_new {row : List Value} {n i c k : Nat} {xs x : List Value} (hxl : xs.length = n * k) (hrow : row.take (i * k) = xs.take (i * k)) (hl : row.length = c * k) (hi : i ≤ n) (hc : n + 1 ≤ c) (hx : x.length = k) :
    let r1 := row.take (i * k) ++ x ++ row.drop (i * k + x.length)
    let r2 := r1.take ((i + 1) * k) ++ xs.drop (i * k) ++ r1.drop ((i + 1) * k + (xs.drop (i * k)).length)
    r1.length = c * k ∧ r2.length = c * k ∧ r2.take ((n + 1) * k) = xs.take (i * k) ++ x ++ xs.drop (i * k) := by
  have e1 : (i + 1) * k = i * k + k := by rw [Nat.add_mul, Nat.one_mul]
  have e2 : (n + 1) * k = n * k + k := by rw [Nat.add_mul, Nat.one_mul]
  have h1 : i * k ≤ n * k := Nat.mul_le_mul_right k hi
  have h2 : (n + 1) * k ≤ c * k := Nat.mul_le_mul_right k hc
  have hT : (row.take (i * k)).length = i * k := by rw [List.length_take, hl]; omega
  have hd : (xs.drop (i * k)).length = n * k - i * k := by rw [List.length_drop, hxl]
  have hX : (row.take (i * k) ++ x).length = (i + 1) * k := by rw [List.length_append, hT, hx, e1]
  intro r1 r2
  have hr1 : r1.length = c * k := by
    show (row.take (i * k) ++ x ++ row.drop (i * k + x.length)).length = _
    rw [List.length_append, hX, List.length_drop, hx, hl, e1]; omega
  have hr1t : r1.take ((i + 1) * k) = row.take (i * k) ++ x := by
    show (row.take (i * k) ++ x ++ row.drop (i * k + x.length)).take ((i + 1) * k) = _
    rw [← hX, List.take_left]
  refine ⟨hr1, ?_, ?_⟩
  · show (r1.take ((i + 1) * k) ++ xs.drop (i * k) ++ r1.drop ((i + 1) * k + (xs.drop (i * k)).length)).length = _
    rw [List.length_append, List.length_append, hr1t, hX, hd, List.length_drop, hr1, e1]; omega
  · show (r1.take ((i + 1) * k) ++ xs.drop (i * k) ++ r1.drop ((i + 1) * k + (xs.drop (i * k)).length)).take ((n + 1) * k) = _
    rw [hr1t, hrow]
    have hX2 : (xs.take (i * k) ++ x ++ xs.drop (i * k)).length = (n + 1) * k := by
      rw [← hrow, List.length_append, hX, hd, e1, e2]; omega
    rw [← hX2, List.take_left]

/-- A copy whose slots are named: tried at that operation alone. -/
theorem wpList_copyT {P : Program} {w : World} {ops : Array Oper} {rest : List Oper} {o : Oper} {a : Act} {Q : Exit → Act → World → Prop} (hgd : o.guard = none) (d s : Operand) (t t' : TypeId)
    (ho : o.op = .call { callee := .builtin .copy, args := #[d, s], argTypes := #[t, t'] }) (v' : Value) (w' : World)
    (hr : (Builtin.copy_ #[t, t'] o.type #[a.eval d, a.eval s]).run P w = .ok v' w') (h : wpList P ops Q rest (a.put o.dst v') w') : wpList P ops Q (o :: rest) a w :=
  wpList_copy_runI w hgd d s t t' ho _ _ rfl rfl hr h

end Go.Proofs.Ytnfllgeneehjjaa
