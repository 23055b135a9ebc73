/- A map from strings to bools that the call has made, read as a function: the laws of make, store, delete and look-up; for keys of up to 2^47 bytes. -/
import Derived.Test.YtionnohajnnfmaaGreatDoorWords
import Derived.Maps.OwnSet
import Derived.Maps.Views
namespace Go.Proofs.YtionnohajnnfmaaGreatDoor
open Go.RowKit Go.Lib Go.Proofs Go.Maps

theorem keyS (s : ByteArray) (hs : s.size ≤ maxLen) : keyOf Tryz.prog 9 (.string s) = some (.string s.data.toList) := by
  simp [keyOf, mapKey, Tryz.underlying9, hs]

theorem plainB_inv {P : Program} {e : TypeId} (he : P.underlying e = some .bool) {v : Value} {z : DataW Unit × List MemPlace} (h : plainElem P e v = some z) : ∃ x, v = .bool x ∧ z = (.lit (.bool x), []) := by
  unfold plainElem at h
  rw [he] at h
  cases v <;> simp at h
  exact ⟨_, rfl, h.symm⟩

theorem keyLit (s : ByteArray) : WideAt.IsKeyLit (.string s.data.toList) := by simp [WideAt.IsKeyLit]

/-- Block b is a map of at most n entries that answers f. -/
def MapSB (w : World) (b n : Nat) (f : ByteArray → Bool) : Prop :=
  ∃ D : DataW Unit, w.ownsMap Tryz.prog 9 (plainElem Tryz.prog 4) b n D ∧ IsMap D ∧ ∀ s : ByteArray, D.atKey (.string s.data.toList) (.lit (.bool false)) = .lit (.bool (f s))

theorem MapSB.lt {w : World} {b n : Nat} {f : ByteArray → Bool} (h : MapSB w b n f) : b < w.heap.size := by obtain ⟨D, h1, _⟩ := h; exact h1.lt
theorem MapSB.kept {w w' : World} {b n : Nat} {f : ByteArray → Bool} {row : Option Nat} (h : MapSB w b n f) (hg : w.grownBy w' row) (hne : some b ≠ row) : MapSB w' b n f := by
  obtain ⟨D, h1, h2⟩ := h; exact ⟨D, h1.kept hg hne, h2⟩
theorem MapSB.made (w : World) : MapSB (w.alloc (.map #[] 0)) w.heap.size 0 fun _ => false :=
  ⟨.map [], World.ownsMap_made w _ _ _, isMap_empty, fun _ => rfl⟩
theorem MapSB.congr {w : World} {b n : Nat} {f g : ByteArray → Bool} (h : MapSB w b n f) (hfg : ∀ s, f s = g s) : MapSB w b n g := by
  obtain ⟨D, h1, h2, h3⟩ := h; exact ⟨D, h1, h2, fun s => by rw [h3, hfg]⟩

theorem data_ne {s t : ByteArray} (h : s ≠ t) : Lit.string s.data.toList ≠ Lit.string t.data.toList := fun e => h (bytes_ext (by injection e))

theorem wpList_store_SB {w : World} {ops : Array Oper} {rest : List Oper} {o : Oper} {a : Act} {Q : Exit → Act → World → Prop}
    (hg : o.guard = none) (m x v : Operand) (hop : o.op = Op.mapUpdate 110 m x v) (b n : Nat) (f : ByteArray → Bool) (hm : a.eval m = .map (some b)) (hown : MapSB w b n f) (hn : n < maxLen)
    (s : ByteArray) (y : Bool) (hx : a.eval x = .string s) (hv : a.eval v = .bool y) (hs : s.size ≤ maxLen)
    (hK : ∀ w', MapSB w' b (n + 1) (fun t => if t = s then y else f t) → w.grownBy w' (some b) → wpList Tryz.prog ops Q rest (a.put o.dst undef) w') :
    wpList Tryz.prog ops Q (o :: rest) a w := by
  obtain ⟨D, h1, h2, h3⟩ := hown
  refine wpList_mapUpdate_own w hg m x v _ hop _ _ (string_keyed Tryz.underlying9) Tryz.underlying110 _ b n D hm h1 hn _ _ _ hx hv (keyS s hs) _ [] (plainElem_bool Tryz.underlying4 y) fun w' g1 g2 => ?_
  refine hK w' ⟨_, g1, h2.put _ _, fun t => ?_⟩ g2
  show _ = DataW.lit (Lit.bool (if t = s then _ else f t))
  by_cases ht : t = s
  · subst ht
    rw [atKey_put_same h2 (keyLit t), if_pos rfl]
  · rw [atKey_put_other (data_ne ht), h3, if_neg ht]

theorem wpList_delete_SB {w : World} {ops : Array Oper} {rest : List Oper} {o : Oper} {a : Act} {Q : Exit → Act → World → Prop}
    (hg : o.guard = none) (m x : Operand) (hop : o.op = Op.call { callee := Callee.builtin Builtin.delete, args := #[m, x], argTypes := #[110, 9] }) (b n : Nat) (f : ByteArray → Bool) (hm : a.eval m = .map (some b)) (hown : MapSB w b n f)
    (s : ByteArray) (hx : a.eval x = .string s) (hs : s.size ≤ maxLen)
    (hK : ∀ w', MapSB w' b n (fun t => if t = s then false else f t) → w.grownBy w' (some b) → wpList Tryz.prog ops Q rest (a.put o.dst (.tuple #[])) w') :
    wpList Tryz.prog ops Q (o :: rest) a w := by
  obtain ⟨D, h1, h2, h3⟩ := hown
  refine wpList_delete_own w hg m x _ _ hop _ (string_keyed Tryz.underlying9) Tryz.underlying110 _ b n D hm h1 _ _ hx (keyS s hs) fun w' g1 g2 => ?_
  refine hK w' ⟨_, g1, h2.del _, fun t => ?_⟩ g2.grown
  show _ = DataW.lit (Lit.bool (if t = s then _ else f t))
  by_cases ht : t = s
  · subst ht
    rw [atKey_del_same, if_pos rfl]
  · rw [atKey_del_other (data_ne ht), h3, if_neg ht]

/-- The look-up, as an equation on its run. -/
theorem MapSB.look {w : World} {b n : Nat} {f : ByteArray → Bool} (h : MapSB w b n f) (s : ByteArray) (hs : s.size ≤ maxLen) :
    (Instr.lookup 110 (.map (some b)) (.string s) false).run Tryz.prog w = .ok (.bool (f s)) w := by
  obtain ⟨D, h1, h2, h3⟩ := h
  obtain ⟨v, ps, hrun, hv⟩ := h1.lookup (string_keyed Tryz.underlying9) Tryz.underlying110 (Tryz.zeroValue4 w) (plainElem_bool Tryz.underlying4 false) (keyS s hs)
  rw [h3] at hv
  obtain ⟨x, rfl, hx⟩ := plainB_inv Tryz.underlying4 hv
  simp only [Prod.mk.injEq, DataW.lit.injEq, Lit.bool.injEq] at hx
  rw [hrun, hx.1]

end Go.Proofs.YtionnohajnnfmaaGreatDoor
