/- A world within a call that has a treasuryplay source: what Pick, N and Range do to it. -/
import Derived.Test.YtebgfbcojhmdlaaDoorSrc
import Derived.Test.YtebgfbcojhmdlaaDoorPut
namespace Go.Proofs.YtebgfbcojhmdlaaDoor
open Go.RowKit Go.Lib Go.Proofs

/-- A world within a call that has a source at tb: it stands, and only its place has turned of what was there. -/
structure SI (w : World) (tb : Nat) (W : World) : Prop where
  src : SrcAt W tb
  old : w.grownBy W (some tb)
  lt : tb < w.heap.size

theorem si_start {w : World} {tb : Nat} (h : SrcAt w tb) : SI w tb w := ⟨h, ⟨rfl, rfl, rfl, Nat.le_refl _, fun _ _ _ => rfl⟩, h.lt⟩
theorem SI.below {w : World} {tb : Nat} {A B : World} (h : SI w tb A) (hb : Below A.heap.size A B) : SI w tb B :=
  ⟨h.src.below hb, grown_step h.old ⟨hb.os, hb.tape, hb.output, hb.size, fun k hk _ => hb.block k hk⟩, h.lt⟩
theorem SI.alloc {w : World} {tb : Nat} {A : World} (h : SI w tb A) (o : Obj) : SI w tb (A.alloc o) := h.below (below_alloc A o)
theorem SI.drew {w : World} {tb : Nat} {A : World} (h : SI w tb A) : SI w tb A.drew := h.below ((Below.refl _ _).drew)
theorem SI.turn {w : World} {tb : Nat} {A B : World} (h : SI w tb A) (ht : SrcAt B tb) (hg : A.grownBy B (some tb)) : SI w tb B := ⟨ht, grown_step h.old hg, h.lt⟩
theorem SI.set {w : World} {tb : Nat} {A : World} (h : SI w tb A) {b : Nat} (hb : w.heap.size ≤ b) (i : Nat) (v : Value) : SI w tb (A.setCell ⟨b, i, none⟩ v) :=
  ⟨h.src.grown (setCell_grown i v) (fun r hr => by simp at hr; have := h.lt; omega), ⟨h.old.os, h.old.tape, h.old.output, by simpa [World.setCell] using h.old.size, fun k hk hne => (Below.heap_setCell A _ _ k (by show k ≠ b; omega)).trans (h.old.block k hk hne)⟩, h.lt⟩
theorem SI.grown {w : World} {tb : Nat} {A B : World} {row : Option Nat} (h : SI w tb A) (hg : A.grownBy B row) (hr : ∀ r, row = some r → w.heap.size ≤ r) : SI w tb B :=
  ⟨h.src.grown hg (fun r e => by have := hr r e; have := h.lt; omega), ⟨hg.os.trans h.old.os, hg.tape.trans h.old.tape, hg.output.trans h.old.output, Nat.le_trans h.old.size hg.size, fun k hk hne => (hg.block k (Nat.lt_of_lt_of_le hk h.old.size) (fun e => by have := hr k e.symm; omega)).trans (h.old.block k hk hne)⟩, h.lt⟩
theorem obj_turn {A B : World} {tb b : Nat} {o : Obj} (h : A.heap[b]? = some o) (hg : A.grownBy B (some tb)) (hne : b ≠ tb) : B.heap[b]? = some o :=
  (hg.block b (obj_lt h) (by simp; omega)).trans h

theorem cell_set_other (A : World) (b i j : Nat) (v : Value) (h : i ≠ j) : (A.setCell ⟨b, i, none⟩ v).cell? ⟨b, j, none⟩ = A.cell? ⟨b, j, none⟩ := by
  unfold World.cell?
  simp only [World.setCell, Array.getElem?_modify]
  cases hh : A.heap[b]? with
  | none => simp
  | some o => cases o with
    | cells cs T d => simp [h]
    | _ => simp

/-- What Pick hands back within a call. -/
def PickIn (w : World) (tb : Nat) (l : List Int) (W : World) (e : Ending) (w' : World) : Prop := ∃ x : Int, e = .returned (.int .i64 x) ∧ x ∈ l ∧ SI w tb w' ∧ W.grownBy w' (some tb)
theorem pick_in {w : World} {tb : Nat} (cap : Nat) (l : List Int) (cs : Array Value) (T : TypeId) {W : World} (hcs : cs.toList = cellsI l) (h : SI w tb W) (hl : 0 < l.length) (hl1 : l.length ≤ 1000) (m : Nat) (hm : m = l.length) (b : Nat) (hb : b = W.heap.size) :
    Calls Tryd.prog 12 #[.pointer (some ⟨tb, 0, none⟩), .slice (some ⟨b, 0, none⟩) m cap] (W.alloc (.cells cs T)) (PickIn w tb l (W.alloc (.cells cs T))) := by
  subst hb
  exact (sPick_new tb cap l cs T W hcs h.src hl hl1 m hm).mono fun _ _ ⟨x, h1, h2, h3, h4⟩ => ⟨x, h1, h2, (h.alloc _).turn h3 h4, h4⟩
/-- What N hands back within a call. -/
def NIn (w : World) (tb : Nat) (n : Int) (W : World) (e : Ending) (w' : World) : Prop := ∃ r : Int, e = .returned (.int .i64 r) ∧ 0 ≤ r ∧ r < n ∧ SI w tb w' ∧ W.grownBy w' (some tb)
theorem n_in {w : World} {tb : Nat} {W : World} (h : SI w tb W) (n : Int) (hn : 1 ≤ n) (hn1 : n ≤ 4611686018427387904) : Calls Tryd.prog 13 #[.pointer (some ⟨tb, 0, none⟩), .int .i64 n] W (NIn w tb n W) :=
  (sN_any tb n W h.src hn hn1).mono fun _ _ ⟨r, h1, h2, h3, h4, h5⟩ => ⟨r, h1, h2, h3, h.turn h4 h5, h5⟩
/-- What Range hands back within a call. -/
def RangeIn (w : World) (tb : Nat) (a b : Int) (W : World) (e : Ending) (w' : World) : Prop := ∃ r : Int, e = .returned (.int .i64 r) ∧ a ≤ r ∧ r ≤ b ∧ SI w tb w' ∧ W.grownBy w' (some tb)
theorem range_in {w : World} {tb : Nat} {W : World} (h : SI w tb W) (a b : Int) (hab : a ≤ b) (ha : -1000000000000000 ≤ a) (hb : b ≤ 1000000000000000) :
    Calls Tryd.prog 11 #[.pointer (some ⟨tb, 0, none⟩), .int .i64 a, .int .i64 b] W (RangeIn w tb a b W) :=
  (sRange_any tb a b W h.src hab ha hb).mono fun _ _ ⟨r, h1, h2, h3, h4, h5⟩ => ⟨r, h1, h2, h3, h.turn h4 h5, h5⟩

end Go.Proofs.YtebgfbcojhmdlaaDoor
