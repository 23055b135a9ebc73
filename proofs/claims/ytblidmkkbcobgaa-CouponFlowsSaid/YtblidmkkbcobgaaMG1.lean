/- Texts of one claim, merged: Base, RowC, RowL, Tap, Src, Put, Sec, RhM, RhN, RhO, RzM, SrcI, Put7. -/
import Derived.Test.YtblidmkkbcobgaaRows
import Derived.WalkKit
import Derived.WalkSpells
import Derived.WalkLawsBesides
import Derived.Lib.Hide
import Derived.Laws.OwnMore
import Derived.ArgAppend
import Derived.Deep.QuietTactic
import Derived.BigQuiet
import Derived.BigRegion
import Derived.Below
/- Words and laws on memory that every layer uses: slices of int64s, rows of the call's own, ranges as a Bool; of no function of the program; no condition. -/
set_option linter.unusedSimpArgs false
set_option linter.unusedVariables false
namespace Go.Proofs.Ytblidmkkbcobgaa
open Go.RowKit Go.Lib Go.Proofs

theorem ret_int {k : IntKind} {a b : Int} (h : a = b) : Ending.returned (.int k a) = .returned (.int k b) := by rw [h]

/-- Go's == on strings, as the walk spells it. -/
theorem strEq_true {a b : ByteArray} (h : a = b) : (a.toList == b.toList) = true := by rw [h, beq_self_eq_true]
theorem strEq_false {a b : ByteArray} (h : a ≠ b) : (a.toList == b.toList) = false := by
  rw [beq_eq_false_iff_ne, ByteArray.toList_eq, ByteArray.toList_eq]
  exact fun e => h (ByteArray.ext (Array.toList_inj.1 e))

/-- n is from lo to hi. -/
def inB (n lo hi : Int) : Bool := decide (lo ≤ n ∧ n ≤ hi)

theorem inB_true {n lo hi : Int} : inB n lo hi = true ↔ lo ≤ n ∧ n ≤ hi := by unfold inB; simp

theorem inB_false {n lo hi : Int} : inB n lo hi = false ↔ ¬ (lo ≤ n ∧ n ≤ hi) := by unfold inB; exact decide_eq_false_iff_not

/-- A list of numbers, as Go's slice of them holds it. -/
def cellsI (l : List Int) : List Value := l.map fun x => .int .i64 x

theorem cellsI_get (l : List Int) (i : Nat) (hi : i < l.length) : (cellsI l)[i]? = some (.int .i64 (l.getD i 0)) := by
  simp [cellsI, List.getD, List.getElem?_eq_getElem hi]

/-- The first k numbers of a list, and zeros behind them. -/
def upTo (l : List Int) (k : Nat) : List Value := cellsI (l.take k) ++ List.replicate (l.length - k) (.int .i64 0)

theorem upTo_zero (l : List Int) : upTo l 0 = List.replicate l.length (.int .i64 0) := by simp [upTo, cellsI]

theorem upTo_full (l : List Int) : upTo l l.length = cellsI l := by simp [upTo]

theorem upTo_get (l : List Int) (k : Nat) (h : k < l.length) : (upTo l k)[k]? = some (.int .i64 0) := by
  unfold upTo cellsI
  have hm : min k l.length = k := Nat.min_eq_left (by omega)
  rw [List.getElem?_append_right (by simp [hm])]
  simp [List.getElem?_replicate, hm]
  omega

theorem upTo_set (l : List Int) (k : Nat) (h : k < l.length) (x : Int) (hx : x = l.getD k 0) : (upTo l k).set k (.int .i64 x) = upTo l (k + 1) := by
  subst hx
  unfold upTo cellsI
  have hm : min k l.length = k := Nat.min_eq_left (by omega)
  rw [List.take_succ_eq_append_getElem h, List.map_append, List.append_assoc, List.set_append_right _ _ (by simp [hm])]
  congr 1
  obtain ⟨q, hq⟩ : ∃ q, l.length - k = q + 1 := ⟨l.length - k - 1, by omega⟩
  rw [hq, show l.length - (k + 1) = q by omega]
  simp [List.replicate_succ, List.getElem?_eq_getElem h, hm]

/-- What is owned stays owned where nothing has turned that was there. -/
theorem ownsRow_below {w w' : World} {base : Nat} {e : TypeId} {size : Nat} {v : Value} {n : Nat} {xs : List Value} (h : w.ownsRow base e size v n xs) (hb : Below w.heap.size w w') : w'.ownsRow base e size v n xs := by
  obtain ⟨h1, h2⟩ := h
  refine ⟨h1, ?_⟩
  rcases h2 with h2 | ⟨g, cap, cur, hv, hg, hh, r⟩
  · exact Or.inl h2
  · have hlt : g < w.heap.size := by
      by_cases hlt : g < w.heap.size
      · exact hlt
      · rw [Array.getElem?_eq_none (by omega)] at hh; cases hh
    exact Or.inr ⟨g, cap, cur, hv, hg, by rw [hb.block g hlt]; exact hh, r⟩

theorem cellsI_set (l : List Int) (i : Nat) (x : Int) : (cellsI l).set i (.int .i64 x) = cellsI (l.set i x) := by simp [cellsI, List.map_set]

/-- The slice v holds the numbers l in the world w. -/
def RowAt (w : World) (v : Value) (l : List Int) : Prop :=
  (l = [] ∧ ∃ ao cap, v = .slice ao 0 cap) ∨ ∃ b o cap, v = .slice (some ⟨b, o, none⟩) l.length cap ∧ b < w.heap.size ∧ ∀ i, i < l.length → w.cell? ⟨b, o + i, none⟩ = some (.int .i64 (l.getD i 0))

theorem RowAt.below {w w' : World} {v : Value} {l : List Int} (h : RowAt w v l) (hb : Below w.heap.size w w') : RowAt w' v l := by
  rcases h with h | ⟨b, o, cap, hv, hlt, hc⟩
  · exact Or.inl h
  · exact Or.inr ⟨b, o, cap, hv, Nat.lt_of_lt_of_le hlt hb.size, fun i hi => by rw [hb.cell (by exact hlt)]; exact hc i hi⟩

/-- An owned row of numbers is a slice that holds them. -/
theorem RowAt.owns {w : World} {base : Nat} {e : TypeId} {v : Value} {n : Nat} {l : List Int} (h : w.ownsRow base e 1 v n (cellsI l)) : RowAt w v l := by
  have hl : l.length = n := by have := h.1; simpa [cellsI] using this
  rcases h.2 with ⟨hv, h0⟩ | ⟨g, cap, cur, hv, hg, hh, r⟩
  · exact Or.inl ⟨List.length_eq_zero_iff.1 (by omega), none, 0, by rw [hv]⟩
  · refine Or.inr ⟨g, 0, cap, by rw [hv, hl], ?_, fun i hi => ?_⟩
    · by_cases hlt : g < w.heap.size
      · exact hlt
      · rw [Array.getElem?_eq_none (by omega)] at hh; cases hh
    · subst hv
      rw [Nat.zero_add, h.cellAt i (by omega), cellsI_get l i hi]

theorem getD_eq {l : List Int} {i : Nat} (h : i < l.length) : l.getD i 0 = l[i] := by simp [List.getD, List.getElem?_eq_getElem h]

theorem list_eq_of {a b : List Int} (hl : a.length = b.length) (h : ∀ i, i < a.length → a.getD i 0 = b.getD i 0) : a = b := by
  apply List.ext_getElem hl
  intro i h1 h2
  have := h i h1
  rwa [getD_eq h1, getD_eq h2] at this

theorem Try.infoInt : (Try.prog.info? 3).map (fun i => (i.zero, i.size, i.bytes)) = some (some (.int .i64 0), 1, 8) := by kernel_rfl

theorem ownsRow_mono {w : World} {base base' : Nat} {e : TypeId} {size : Nat} {v : Value} {n : Nat} {xs : List Value} (h : w.ownsRow base e size v n xs) (hb : base' ≤ base) : w.ownsRow base' e size v n xs := by
  obtain ⟨h1, h2⟩ := h
  refine ⟨h1, ?_⟩
  rcases h2 with h2 | ⟨g, cap, cur, hv, hg, r⟩
  · exact Or.inl h2
  · exact Or.inr ⟨g, cap, cur, hv, by omega, r⟩

theorem owns_shape {w : World} {base : Nat} {e : TypeId} {size : Nat} {v : Value} {n : Nat} {xs : List Value} (h : w.ownsRow base e size v n xs) (hn : 0 < n) : ∃ g cap, v = .slice (some ⟨g, 0, none⟩) n cap ∧ base ≤ g ∧ n ≤ cap := by
  rcases h.2 with ⟨_, h0⟩ | ⟨g, cap, cur, hv, hg, hh, hnc, _⟩
  · omega
  · exact ⟨g, cap, hv, hg, hnc⟩

theorem cellsI_snoc (l : List Int) (x : Int) : cellsI l ++ [.int .i64 x] = cellsI (l ++ [x]) := by simp [cellsI]

theorem ownBlock_le {w : World} {base : Nat} {e : TypeId} {size : Nat} {v : Value} {n : Nat} {xs : List Value} (h : w.ownsRow base e size v n xs) (r : Nat) (hr : v.ownBlock = some r) : base ≤ r := (h.lt r hr).1

theorem ownBlock_ne {w : World} {base : Nat} {e : TypeId} {size : Nat} {v : Value} {n : Nat} {xs : List Value} (h : w.ownsRow base e size v n xs) (r : Nat) (hr : r < base) : v.ownBlock = none ∨ v.ownBlock ≠ some r :=
  Or.inr fun he => by have := ownBlock_le h r he; omega

/-- One value in a new block: what an append of one element asks. -/
theorem one_new (w : World) (x : Value) (T : TypeId) (b : Nat) (hb : b = w.heap.size) : ∀ j u, [x][j]? = some u → (w.alloc (.cells #[x] T)).cell? ((⟨b, 0, none⟩ : Addr).add j) = some u := by
  subst hb
  intro j u hj
  match j, hj with
  | 0, hj => simp at hj; subst hj; simp [Addr.add]

theorem one_int (k : IntKind) (x : Int) : ∀ u ∈ [Value.int k x], u.oneCell' = true := by
  intro u hu; simp at hu; subst hu; rfl

theorem owns_gen {w : World} {base : Nat} {e : TypeId} {size : Nat} {v : Value} {n : Nat} {xs : List Value} (h : w.ownsRow base e size v n xs) : ∃ ao cap, v = .slice ao n cap ∧ n ≤ cap ∧ ((ao = none ∧ n = 0 ∧ cap = 0) ∨ ∃ g, ao = some ⟨g, 0, none⟩ ∧ base ≤ g) := by
  rcases h.2 with ⟨hv, h0⟩ | ⟨g, cap, cur, hv, hg, hh, hnc, _⟩
  · exact ⟨none, 0, by rw [hv, h0], by omega, Or.inl ⟨rfl, h0, rfl⟩⟩
  · exact ⟨some ⟨g, 0, none⟩, cap, hv, hnc, Or.inr ⟨g, rfl, hg⟩⟩

theorem rowAt_take {w : World} {g n cap k : Nat} {l : List Int} (h : RowAt w (.slice (some ⟨g, 0, none⟩) n cap) l) (hl : l.length = n) (hk : k ≤ n) : RowAt w (.slice (some ⟨g, 0, none⟩) k cap) (l.take k) := by
  have hlk : (l.take k).length = k := by simp; omega
  rcases h with ⟨rfl, ao, c, hv⟩ | ⟨b, o, c, hv, hlt, hc⟩
  · have : k = 0 := by simp at hl; omega
    subst this
    exact Or.inl ⟨rfl, _, _, rfl⟩
  · simp only [Value.slice.injEq, Option.some.injEq, Addr.mk.injEq, and_true] at hv
    obtain ⟨⟨rfl, rfl⟩, _, rfl⟩ := hv
    refine Or.inr ⟨g, 0, cap, by rw [hlk], hlt, fun i hi => ?_⟩
    rw [hc i (by omega)]
    have hik : i < k := by omega
    simp [List.getD, hik]

theorem rowAt_drop {w : World} {g n cap k c' : Nat} {l : List Int} (h : RowAt w (.slice (some ⟨g, 0, none⟩) n cap) l) (hl : l.length = n) (hk : k ≤ n) : RowAt w (.slice (some ⟨g, k, none⟩) (n - k) c') (l.drop k) := by
  have hlk : (l.drop k).length = n - k := by simp; omega
  rcases h with ⟨rfl, ao, c, hv⟩ | ⟨b, o, c, hv, hlt, hc⟩
  · have : n = 0 := by simp at hl; omega
    subst this
    exact Or.inl ⟨by simp, _, _, by simp; exact ⟨rfl, rfl⟩⟩
  · simp only [Value.slice.injEq, Option.some.injEq, Addr.mk.injEq, and_true] at hv
    obtain ⟨⟨rfl, rfl⟩, _, rfl⟩ := hv
    refine Or.inr ⟨g, k, c', by rw [hlk], hlt, fun i hi => ?_⟩
    have := hc (k + i) (by omega)
    rw [Nat.zero_add] at this
    rw [this]
    simp [List.getD, List.getElem?_drop]

theorem rowAt_nil (w : World) (ao : Option Addr) (cap : Nat) : RowAt w (.slice ao 0 cap) [] := Or.inl ⟨rfl, ao, cap, rfl⟩

/-- A slice of three numbers in a block of its own. -/
theorem rowAt_three (w : World) (b cap : Nat) (x y z : Int) (hb : b < w.heap.size) (h0 : w.cell? ⟨b, 0, none⟩ = some (.int .i64 x)) (h1 : w.cell? ⟨b, 1, none⟩ = some (.int .i64 y)) (h2 : w.cell? ⟨b, 2, none⟩ = some (.int .i64 z)) :
    RowAt w (.slice (some ⟨b, 0, none⟩) 3 cap) [x, y, z] := by
  refine Or.inr ⟨b, 0, cap, rfl, hb, fun i hi => ?_⟩
  have : i = 0 ∨ i = 1 ∨ i = 2 := by simp at hi; omega
  rcases this with rfl | rfl | rfl
  · exact h0
  · exact h1
  · exact h2

theorem rowAt_new (w : World) (T : TypeId) (b cap : Nat) (x y z : Int) (hb : b = w.heap.size) : RowAt (w.alloc (.cells #[.int .i64 x, .int .i64 y, .int .i64 z] T)) (.slice (some ⟨b, 0, none⟩) 3 cap) [x, y, z] := by
  subst hb
  exact rowAt_three _ _ _ _ _ _ (by simp) (by simp) (by simp) (by simp)

theorem RowAt.drewN {w : World} {v : Value} {l : List Int} (h : RowAt w v l) (q : Nat) : RowAt (w.drewN q) v l := h

theorem below_alloc (w : World) (o : Obj) : Below w.heap.size w (w.alloc o) := (Below.refl _ _).alloc (Nat.le_refl _) o

theorem below_drewN {B : Nat} {w w' : World} (h : Below B w w') (q : Nat) : Below B w (w'.drewN q) := ⟨h.os, h.tape, h.output, h.size, h.block⟩

theorem grownBy_row {a b : World} {r : Option Nat} (h : a.grownBy b none) : a.grownBy b r := ⟨h.os, h.tape, h.output, h.size, fun k hk _ => h.block k hk (by simp)⟩

/-- Where a slice lies behind an append: where it lay, or in a new block. -/
def Moved (w : World) (v v' : Value) : Prop := v'.ownBlock = v.ownBlock ∨ ∀ g, v'.ownBlock = some g → w.heap.size ≤ g

theorem wpList_append_moved {P : Program} (w : World) {ops : Array Oper} {rest : List Oper} {o : Oper} {a : Act} {Q : Exit → Act → World → Prop}
    (hgd : o.guard = none) (s x : Operand) (t : TypeId) (hop : o.op = Op.call { callee := Callee.builtin Builtin.append, args := #[s, x], argTypes := #[t, t] })
    (base : Nat) (e : TypeId) (i : TypeInfo) (z : Value) (size bytes : Nat) (h1 : P.underlying t = some (.slice e)) (h2 : P.info? e = some i) (h3 : i.zero = some z) (h4 : i.size = size) (h5 : i.bytes = bytes) (h6 : z.cells.size = size) (h7 : 0 < size)
    (v : Value) (n : Nat) (xs : List Value) (hs : a.eval s = v) (hown : w.ownsRow base e size v n xs)
    (ad : Addr) (m c : Nat) (news : List Value) (hx : a.eval x = .slice (some ad) m c) (hn : news.length = m * size) (hc : ∀ j u, news[j]? = some u → w.cell? (ad.add j) = some u) (h1c : ∀ u ∈ news, u.oneCell' = true) (hm : 0 < m)
    (b1 : n + m ≤ maxLen) (b2 : (n + m) * bytes ≤ 140737488355328) (hbase : base ≤ w.heap.size)
    (hK : ∀ v' w', w'.ownsRow base e size v' (n + m) (xs ++ news) → w.grownBy w' v.ownBlock → Moved w v v' → wpList P ops Q rest (a.put o.dst v') w') :
    wpList P ops Q (o :: rest) a w := by
  have hown0 := hown
  rcases hown.2 with ⟨rfl, rfl⟩ | ⟨g, cap, cur, rfl, hg, hh, hnc, hcm, hcs, htk⟩
  · have hx0 : xs = [] := by have := hown.1; simpa using this
    subst hx0
    refine wpList_append_grows w hgd s x t hop e i z size bytes h1 h2 h3 h4 h5 h6 h7 none 0 0 [] hs (fun _ => ⟨rfl, rfl⟩) (by simp) (by simp) ad m c news hx hn hc h1c (by omega) b1 b2 fun v' w' ho hgr => ?_
    exact hK v' w' (ownsRow_mono ho hbase) (grownBy_row hgr) (Or.inr fun g hg => (ho.lt g hg).1)
  · by_cases hfit : n + m ≤ cap
    · refine wpList_append_fits w hgd s x t hop base e i size h1 h2 h4 g n cap xs hs hown0 ad m c news hx hn hc h1c hfit fun w' ho hgr => ?_
      exact hK _ w' ho hgr (Or.inl rfl)
    · refine wpList_append_grows w hgd s x t hop e i z size bytes h1 h2 h3 h4 h5 h6 h7 (some ⟨g, 0, none⟩) n cap xs hs (by simp) hown0.1 (fun b hb j u hj => by cases hb; exact hown0.cells rfl j u hj) ad m c news hx hn hc h1c (by omega) b1 b2 fun v' w' ho hgr => ?_
      exact hK v' w' (ownsRow_mono ho hbase) (grownBy_row hgr) (Or.inr fun g' hg' => (ho.lt g' hg').1)

end Go.Proofs.Ytblidmkkbcobgaa

/- Rows of elements of one cell or more that lie in memory; of no function of the program; no condition. -/
namespace Go.Proofs.Ytblidmkkbcobgaa
open Go.RowKit Go.Lib Go.Proofs

/-- v is a slice of n elements of some cells each, and these hold xs. -/
def RowG (w : World) (v : Value) (n size : Nat) (xs : List Value) : Prop :=
  xs.length = n * size ∧ ∃ ao cap, v = .slice ao n cap ∧ n ≤ cap ∧ (n = 0 ∨ ∃ b o, ao = some ⟨b, o, none⟩ ∧ b < w.heap.size ∧ ∀ j, j < n * size → w.cell? ⟨b, o + j, none⟩ = xs[j]?)

theorem RowG.below {w w' : World} {v : Value} {n size : Nat} {xs : List Value} (h : RowG w v n size xs) (hb : Below w.heap.size w w') : RowG w' v n size xs := by
  obtain ⟨h0, ao, cap, h1, h2, h3⟩ := h
  refine ⟨h0, ao, cap, h1, h2, ?_⟩
  rcases h3 with h3 | ⟨b, o, h4, h5, h6⟩
  · exact Or.inl h3
  · exact Or.inr ⟨b, o, h4, Nat.lt_of_lt_of_le h5 hb.size, fun j hj => by rw [hb.cell (by exact h5)]; exact h6 j hj⟩

theorem RowG.owns {w : World} {base size n : Nat} {e : TypeId} {v : Value} {xs : List Value} (h : w.ownsRow base e size v n xs) : RowG w v n size xs := by
  refine ⟨h.1, ?_⟩
  rcases h.2 with ⟨hv, h0⟩ | ⟨g, cap, cur, hv, hg, hh, hnc, _⟩
  · exact ⟨none, 0, by rw [hv, h0], by omega, Or.inl h0⟩
  · refine ⟨some ⟨g, 0, none⟩, cap, hv, hnc, Or.inr ⟨g, 0, rfl, ?_, fun j hj => ?_⟩⟩
    · by_cases hlt : g < w.heap.size
      · exact hlt
      · rw [Array.getElem?_eq_none (by omega)] at hh; cases hh
    · subst hv
      rw [Nat.zero_add, h.cellAt j hj]

theorem grownBy_below {A B : World} {row : Option Nat} (h : Below A.heap.size A B) : A.grownBy B row := ⟨h.os, h.tape, h.output, h.size, fun k hk _ => h.block k hk⟩
theorem grownBy_trans {a b c : World} {row : Option Nat} (h : a.grownBy b row) (k : b.grownBy c row) : a.grownBy c row :=
  ⟨k.os.trans h.os, k.tape.trans h.tape, k.output.trans h.output, Nat.le_trans h.size k.size, fun i hi hne => (k.block i (Nat.lt_of_lt_of_le hi h.size) hne).trans (h.block i hi hne)⟩
theorem grownBy_refl (a : World) (row : Option Nat) : a.grownBy a row := ⟨rfl, rfl, rfl, Nat.le_refl _, fun _ _ _ => rfl⟩
theorem below_grownBy {A B : World} (h : A.grownBy B none) : Below A.heap.size A B := ⟨h.os, h.tape, h.output, h.size, fun k hk => h.block k hk (by simp)⟩

end Go.Proofs.Ytblidmkkbcobgaa

/- Slices of structs in memory, for any struct of m one-cell fields: what stands at each place, own rows that grow by one; of no function of the program; no condition. -/
namespace Go.Proofs.Ytblidmkkbcobgaa
open Go.RowKit Go.Lib Go.Proofs

/-- A struct's fields as cells: m of them, each of one cell. -/
structure Fields {α : Type} (f : α → List Value) (m : Nat) : Prop where
  len : ∀ x, (f x).length = m
  one : ∀ x, ∀ u ∈ f x, u.oneCell' = true
  pos : 0 < m

def cellsL {α : Type} (f : α → List Value) : List α → List Value
  | [] => []
  | x :: l => f x ++ cellsL f l

theorem cellsL_len {α : Type} {f : α → List Value} {m : Nat} (hf : Fields f m) : ∀ l : List α, (cellsL f l).length = l.length * m
  | [] => by simp [cellsL]
  | x :: l => by simp only [cellsL, List.length_append, hf.len, cellsL_len hf l, List.length_cons, Nat.add_mul]; omega
theorem cellsL_app {α : Type} (f : α → List Value) : ∀ l k : List α, cellsL f (l ++ k) = cellsL f l ++ cellsL f k
  | [], _ => rfl
  | x :: l, k => by simp only [List.cons_append, cellsL, cellsL_app f l k, List.append_assoc]
theorem cellsL_snoc {α : Type} (f : α → List Value) (l : List α) (x : α) : cellsL f l ++ f x = cellsL f (l ++ [x]) := by
  rw [cellsL_app]; simp [cellsL]
theorem cellsL_one {α : Type} {f : α → List Value} {m : Nat} (hf : Fields f m) : ∀ l : List α, ∀ u ∈ cellsL f l, u.oneCell' = true
  | [], u, h => by simp [cellsL] at h
  | x :: l, u, h => by
    simp only [cellsL, List.mem_append] at h
    rcases h with h | h
    · exact hf.one x u h
    · exact cellsL_one hf l u h
theorem cellsL_get {α : Type} {f : α → List Value} {m : Nat} (hf : Fields f m) : ∀ (l : List α) (i j : Nat) (h : i < l.length), j < m → (cellsL f l)[i * m + j]? = (f l[i])[j]?
  | [], _, _, h, _ => by simp at h
  | x :: l, 0, j, _, hj => by
    rw [Nat.zero_mul, Nat.zero_add]
    exact List.getElem?_append_left (by rw [hf.len]; exact hj)
  | x :: l, i + 1, j, h, hj => by
    have ih := cellsL_get hf l i j (by simpa using h) hj
    rw [show (i + 1) * m + j = (f x).length + (i * m + j) by rw [hf.len, Nat.add_mul]; omega]
    show (f x ++ cellsL f l)[(f x).length + (i * m + j)]? = _
    rw [List.getElem?_append_right (by omega), Nat.add_sub_cancel_left, ih]
    rfl

/-- A slice of structs, wherever it lies. -/
def ListAt {α : Type} (f : α → List Value) (m : Nat) (w : World) (v : Value) (l : List α) : Prop := RowG w v l.length m (cellsL f l)
theorem ListAt.below {α : Type} {f : α → List Value} {m : Nat} {w w' : World} {v : Value} {l : List α} (h : ListAt f m w v l) (hb : Below w.heap.size w w') : ListAt f m w' v l := RowG.below h hb
theorem ListAt.owns {α : Type} {f : α → List Value} {m : Nat} {w : World} {base : Nat} {e : TypeId} {v : Value} {l : List α} (h : w.ownsRow base e m v l.length (cellsL f l)) : ListAt f m w v l := RowG.owns h

/-- A slice of structs, laid open: its parts, and what stands at each place. -/
theorem ListAt.shape {α : Type} {f : α → List Value} {m : Nat} (hf : Fields f m) {w : World} {v : Value} {l : List α} (h : ListAt f m w v l) :
    ∃ ao cap, v = .slice ao l.length cap ∧ l.length ≤ cap ∧ (0 < l.length → ∃ b o, ao = some ⟨b, o, none⟩ ∧ b < w.heap.size ∧ ∀ i (hi : i < l.length), ∀ j, j < m → w.cell? ⟨b, o + i * m + j, none⟩ = (f l[i])[j]?) := by
  obtain ⟨_, ao, cap, rfl, hcap, hc⟩ := h
  refine ⟨ao, cap, rfl, hcap, fun hpos => ?_⟩
  rcases hc with hc | ⟨b, o, rfl, hb, hc⟩
  · omega
  · refine ⟨b, o, rfl, hb, fun i hi j hj => ?_⟩
    have hlt : i * m + j < l.length * m := by
      have : (i + 1) * m ≤ l.length * m := Nat.mul_le_mul_right m hi
      rw [Nat.add_mul] at this
      omega
    rw [Nat.add_assoc, hc _ hlt]
    exact cellsL_get hf l i j hi hj

theorem nil_listAt {α : Type} (f : α → List Value) (m : Nat) (w : World) (ao : Option Addr) (cap : Nat) : ListAt f m w (.slice ao 0 cap) [] := ⟨by simp [cellsL], ao, cap, rfl, Nat.zero_le _, Or.inl rfl⟩

/-- What stands in a new block: what an append of one struct asks. -/
theorem new_cells (w : World) (cs : Array Value) (T : TypeId) (b : Nat) (hb : b = w.heap.size) : ∀ j u, cs.toList[j]? = some u → (w.alloc (.cells cs T)).cell? ((⟨b, 0, none⟩ : Addr).add j) = some u := by
  subst hb
  intro j u hj
  have h1 : (w.alloc (.cells cs T)).heap[w.heap.size]? = some (.cells cs T) := heap_alloc_new w _
  have he : (⟨w.heap.size, 0, none⟩ : Addr).add j = ⟨w.heap.size, j, none⟩ := by unfold Addr.add; split <;> simp_all
  rw [he, cell_of_row _ _ j cs T (0, 0) h1, ← hj, Array.getElem?_toList]

theorem getD_map_len {α : Type} (l : List α) (x : α) : (l ++ [x]).length = l.length + 1 := by simp

end Go.Proofs.Ytblidmkkbcobgaa

/- Contracts of treasurymake's tape: New and N; a tape's numbers are any int64s; what N returns is within its bounds, and only the tape's place has turned. -/
namespace Go.Proofs.Ytblidmkkbcobgaa
open Go.RowKit Go.Lib Go.Proofs

/-- v is a slice of n int64s in the world w, all in blocks below B. -/
def IntsAt (w : World) (v : Value) (n B : Nat) : Prop :=
  ∃ (ao : Option Addr) (cap : Nat), v = .slice ao n cap ∧ n ≤ cap ∧ ∀ i, i < n → ∃ (b o : Nat) (x : Int), ao = some ⟨b, o, none⟩ ∧ b < B ∧ w.cell? ⟨b, o + i, none⟩ = some (.int .i64 x) ∧ -9223372036854775808 ≤ x ∧ x ≤ 9223372036854775807

theorem IntsAt.keep {w w' : World} {v : Value} {n B : Nat} (h : IntsAt w v n B) (hk : ∀ k, k < B → w'.heap[k]? = w.heap[k]?) : IntsAt w' v n B := by
  obtain ⟨ao, cap, hv, hc, hx⟩ := h
  refine ⟨ao, cap, hv, hc, fun i hi => ?_⟩
  obtain ⟨b, o, x, h1, h2, h3, h4⟩ := hx i hi
  exact ⟨b, o, x, h1, h2, by rw [World.cell?_of_block (w := w) (hk b h2)]; exact h3, h4⟩

theorem cell_pair {w : World} {tb : Nat} {a b : Value} {T : TypeId} (h : w.heap[tb]? = some (.cells #[a, b] T (0, 0))) : w.cell? ⟨tb, 0, none⟩ = some a ∧ w.cell? ⟨tb, 1, none⟩ = some b ∧ w.frozen? ⟨tb, 1, none⟩ = false := by
  simp [World.cell?, World.frozen?, h]

end Go.Proofs.Ytblidmkkbcobgaa

/- Contracts of treasuryplay's source: New, N, Range and Pick; its numbers are any int64s; what N returns is within its bounds, and only the source's place has turned. -/
namespace Go.Proofs.Ytblidmkkbcobgaa
open Go.RowKit Go.Lib Go.Proofs

/-- Block tb is a tape: at most 900 numbers in blocks before it, and its place among them. -/
def SrcAt (w : World) (tb : Nat) : Prop :=
  ∃ (ao : Option Addr) (n cap k : Nat), w.heap[tb]? = some (.cells #[.slice ao n cap, .int .i64 (k : Int)] 87 (0, 0)) ∧ k ≤ n ∧ n ≤ 900 ∧ IntsAt w (.slice ao n cap) n tb

theorem SrcAt.lt {w : World} {tb : Nat} (h : SrcAt w tb) : tb < w.heap.size := by
  obtain ⟨ao, n, cap, k, h1, _⟩ := h
  by_cases hlt : tb < w.heap.size
  · exact hlt
  · rw [Array.getElem?_eq_none (by omega)] at h1; cases h1

theorem SrcAt.keep {w w' : World} {tb : Nat} (h : SrcAt w tb) (hk : ∀ k, k ≤ tb → w'.heap[k]? = w.heap[k]?) : SrcAt w' tb := by
  obtain ⟨ao, n, cap, k, h1, h2, h3, h4⟩ := h
  exact ⟨ao, n, cap, k, by rw [hk tb (Nat.le_refl _)]; exact h1, h2, h3, h4.keep fun j hj => hk j (by omega)⟩

theorem SrcAt.below {w w' : World} {tb : Nat} (h : SrcAt w tb) (hb : Below w.heap.size w w') : SrcAt w' tb :=
  h.keep fun k hk => hb.block k (by have := h.lt; omega)

theorem SrcAt.grown {w w' : World} {tb : Nat} {row : Option Nat} (h : SrcAt w tb) (hg : w.grownBy w' row) (hr : ∀ r, row = some r → tb < r) : SrcAt w' tb :=
  h.keep fun k hk => hg.block k (by have := h.lt; omega) (fun e => by have := hr k e.symm; omega)

/-- What N hands back: a number from 0 to n - 1; only the tape's place has turned. -/
def SNPost (tb : Nat) (n : Int) (w : World) (e : Ending) (w' : World) : Prop := ∃ r : Int, e = .returned (.int .i64 r) ∧ 0 ≤ r ∧ r < n ∧ SrcAt w' tb ∧ w.grownBy w' (some tb)

theorem src_step {w : World} {tb n cap k : Nat} {ao : Option Addr} (h : w.heap[tb]? = some (.cells #[.slice ao n cap, .int .i64 (k : Int)] 87 (0, 0))) (hk : k < n) (hn : n ≤ 900) (hi : IntsAt w (.slice ao n cap) n tb) (q : Nat) (z : Int) (hz : z = (k + 1 : Nat)) :
    SrcAt ((w.drewN q).setCell ⟨tb, 1, none⟩ (.int .i64 z)) tb ∧ w.grownBy ((w.drewN q).setCell ⟨tb, 1, none⟩ (.int .i64 z)) (some tb) := by
  subst hz
  have hlt : tb < w.heap.size := by
    by_cases hlt : tb < w.heap.size
    · exact hlt
    · rw [Array.getElem?_eq_none (by omega)] at h; cases h
  have hsame : ((w.drewN q).setCell ⟨tb, 1, none⟩ (.int .i64 ((k + 1 : Nat) : Int))).heap[tb]? = some (.cells #[.slice ao n cap, .int .i64 ((k + 1 : Nat) : Int)] 87 (0, 0)) := by
    rw [heap_setCell_same (w.drewN q) tb 1 _ _ _ h]
    rfl
  have hother : ∀ j, j ≠ tb → ((w.drewN q).setCell ⟨tb, 1, none⟩ (.int .i64 ((k + 1 : Nat) : Int))).heap[j]? = w.heap[j]? := fun j hj => Below.heap_setCell (w.drewN q) _ _ j hj
  refine ⟨⟨ao, n, cap, k + 1, hsame, by omega, hn, hi.keep fun j hj => hother j (by omega)⟩, rfl, rfl, rfl, by simp [World.setCell, World.drewN], fun j hj hne => hother j fun e => hne (by rw [e])⟩

set_option maxHeartbeats 1000000 in
theorem sN_any (tb : Nat) (n : Int) (w : World) (ht : SrcAt w tb) (hn : 1 ≤ n) (hn1 : n ≤ 4611686018427387904) :
    Calls Try.prog 44 #[.pointer (some ⟨tb, 0, none⟩), .int .i64 n] w (SNPost tb n w) := by
  obtain ⟨ao, m, cap, k, h1, h2, h3, h4⟩ := ht
  obtain ⟨c0, c1, f1⟩ := cell_pair h1
  by_cases hlt : k < m
  · obtain ⟨ao', cap', hv, hcap, hx⟩ := h4
    obtain ⟨b, o, x, e1, e2, hc, x0, x1⟩ := hx k hlt
    have H1 := Lib.hid h1
    have H4 : Hid (IntsAt w (.slice ao m cap) m tb) := ⟨ao', cap', hv, hcap, hx⟩
    simp only [Value.slice.injEq, true_and] at hv
    obtain ⟨rfl, rfl⟩ := hv
    subst e1
    clear h1 hx
    have r1 : x.tmod n < n := by
      rcases Int.le_total 0 x with hx0 | hx0
      · exact Int.tmod_lt_of_pos _ (by omega)
      · have := Int.tmod_nonneg n (a := -x) (by omega)
        rw [Int.neg_tmod] at this
        omega
    have r2 : -n < x.tmod n := by
      have := Int.tmod_lt_of_pos (-x) (b := n) (by omega)
      rw [Int.neg_tmod] at this
      omega
    have hk0 : (0 : Int) ≤ (k : Int) := by omega
    have hk1 : (k : Int) < (m : Int) := by omega
    have hge : ¬ (m : Int) ≤ (k : Int) := by omega
    go_enter Try.func44, Try.ntmps44
    go_wp2
    go_quiet (fail)
    go_wp2
    go_quiet (fail)
    generalize x.tmod n = r at *
    have hn2 : ¬ n < 1 := by omega
    have e0 := Int.emod_nonneg r (show n ≠ 0 by omega)
    have e1 := Int.emod_lt_of_pos r (show 0 < n by omega)
    go_wp2
    go_ret
    obtain ⟨t1, t2⟩ := src_step H1.out hlt h3 H4.out _ ((k : Int) + 1) (by omega)
    exact ⟨r % n, rfl, e0, e1, t1, t2.os, t2.tape, t2.output, t2.size, t2.block⟩
  · obtain rfl : k = m := by omega
    have H1 := Lib.hid h1
    have H4 := Lib.hid h4
    clear h1 h4
    have hge : (k : Int) ≤ (k : Int) := by omega
    go_enter Try.func44, Try.ntmps44
    go_wp2
    go_quiet (fail)
    go_wp2
    go_ret
    exact ⟨0, rfl, by omega, by omega, ⟨ao, k, cap, k, H1.out, Nat.le_refl _, h3, H4.out⟩, rfl, rfl, rfl, Nat.le_refl _, fun _ _ _ => rfl⟩

set_option maxHeartbeats 1000000 in
theorem sNew_any (v : Value) (n : Nat) (w : World) (hi : IntsAt w v n w.heap.size) (hn : n ≤ 9223372036854775807) :
    Calls Try.prog 11 #[v] w fun e w' => e = .returned (.pointer (some ⟨w.heap.size, 0, none⟩)) ∧ SrcAt w' w.heap.size ∧ Below w.heap.size w w' := by
  obtain ⟨ao, cap, rfl, hcap, hx⟩ := hi
  have HX := Lib.hid hx
  clear hx
  have fin : ∀ m : Nat, m ≤ n → m ≤ 900 → SrcAt (w.alloc (.cells #[.slice ao m cap, .int .i64 0] 87)) w.heap.size ∧ Below w.heap.size w (w.alloc (.cells #[.slice ao m cap, .int .i64 0] 87)) := fun m h1 h2 => by
    refine ⟨⟨ao, m, cap, 0, heap_alloc_new w _, Nat.zero_le _, h2, ao, cap, rfl, by omega, fun i hi => ?_⟩, (Below.refl _ _).alloc (Nat.le_refl _) _⟩
    obtain ⟨b, o, x, e1, e2, e3, e4⟩ := HX.out i (by omega)
    exact ⟨b, o, x, e1, e2, by rw [World.cell?_of_block (w := w) (Below.heap_alloc w _ b e2)]; exact e3, e4⟩
  have FIN := Lib.hid fin
  clear fin
  by_cases h5 : n ≤ 900
  · have hz : (n : Int) ≤ 900 := by omega
    have hmin : min (n : Int) 900 = (n : Int) := by omega
    cases ao with
    | none =>
      go_enter Try.func11, Try.ntmps11
      go_wp2
      go_ret
      obtain ⟨f1, f2⟩ := FIN.out n (Nat.le_refl _) h5
      exact ⟨rfl, f1, f2⟩
    | some a =>
      go_enter Try.func11, Try.ntmps11
      go_wp2
      go_ret
      obtain ⟨f1, f2⟩ := FIN.out n (Nat.le_refl _) h5
      exact ⟨rfl, f1, f2⟩
  · have hz : 900 ≤ (n : Int) := by omega
    have hmin : min (n : Int) 900 = 900 := by omega
    cases ao with
    | none =>
      obtain ⟨b, o, x, e1, _⟩ := HX.out 0 (by omega)
      cases e1
    | some a =>
      go_enter Try.func11, Try.ntmps11
      go_wp2
      go_ret
      obtain ⟨f1, f2⟩ := FIN.out 900 (by omega) (by omega)
      exact ⟨rfl, f1, f2⟩

/-- What Range hands back. -/
def SRangePost (tb : Nat) (a b : Int) (w : World) (e : Ending) (w' : World) : Prop := ∃ r : Int, e = .returned (.int .i64 r) ∧ a ≤ r ∧ r ≤ b ∧ SrcAt w' tb ∧ w.grownBy w' (some tb)

set_option maxHeartbeats 1000000 in
theorem sRange_any (tb : Nat) (a b : Int) (w : World) (ht : SrcAt w tb) (hab : a ≤ b) (ha : -1000000000000000 ≤ a) (hb : b ≤ 1000000000000000) :
    Calls Try.prog 27 #[.pointer (some ⟨tb, 0, none⟩), .int .i64 a, .int .i64 b] w (SRangePost tb a b w) := by
  have HN := Lib.hid (sN_any tb (b - a + 1) w ht (by omega) (by omega))
  clear ht
  go_enter Try.func27, Try.ntmps27
  go_wp2_with fail
  refine (HN.out).mono ?_
  rintro e w' ⟨r, rfl, r0, r1, t1, g1⟩
  go_wp2
  go_ret
  exact ⟨a + r, rfl, by omega, by omega, t1, g1⟩

/-- What Pick hands back: one of the numbers of l; only the tape's place has turned. -/
def SPickPost (tb : Nat) (l : List Int) (w : World) (e : Ending) (w' : World) : Prop := ∃ x : Int, e = .returned (.int .i64 x) ∧ x ∈ l ∧ SrcAt w' tb ∧ w.grownBy w' (some tb)

set_option maxHeartbeats 1000000 in
theorem sPick_any (tb b cap : Nat) (l : List Int) (w : World) (ht : SrcAt w tb) (hb : tb < b) (hbw : b < w.heap.size) (hl : 0 < l.length) (hl1 : l.length ≤ 1000) (hc : ∀ i, i < l.length → w.cell? ⟨b, i, none⟩ = some (.int .i64 (l.getD i 0))) :
    Calls Try.prog 24 #[.pointer (some ⟨tb, 0, none⟩), .slice (some ⟨b, 0, none⟩) l.length cap] w (SPickPost tb l w) := by
  obtain ⟨m, hm⟩ : ∃ m, m = l.length := ⟨_, rfl⟩
  have hm0 : 0 < m := by omega
  have hm1 : m ≤ 1000 := by omega
  have HM := Lib.hid hm
  have HC := Lib.hid hc
  have HN := Lib.hid (sN_any tb (m : Int) w ht (by omega) (by omega))
  rw [← hm]
  clear hc hm hl hl1 ht
  go_enter Try.func24, Try.ntmps24
  go_wp2_with fail
  refine (HN.out).mono ?_
  rintro e w' ⟨r, rfl, r0, r1, t1, g1⟩
  obtain ⟨i, rfl⟩ : ∃ i : Nat, r = i := ⟨r.toNat, by omega⟩
  have hi : i < m := by omega
  obtain ⟨x, hx⟩ : ∃ x, x = l.getD i 0 := ⟨_, rfl⟩
  have hcell : w'.cell? ⟨b, i, none⟩ = some (.int .i64 x) := by
    rw [World.cell?_of_block (w := w) (g1.block b hbw (by simp; omega)), hx]
    exact HC.out i (by have := HM.out; omega)
  have HX := Lib.hid hx
  clear hx
  go_wp2
  go_ret
  exact ⟨x, rfl, by rw [HX.out, getD_eq (by have := HM.out; omega)]; exact List.getElem_mem _, t1, g1⟩

/-- Pick among numbers that lie in a new block. -/
theorem sPick_new (tb cap : Nat) (l : List Int) (cs : Array Value) (T : TypeId) (w : World) (hcs : cs.toList = cellsI l) (ht : SrcAt w tb) (hl : 0 < l.length) (hl1 : l.length ≤ 1000) (m : Nat) (hm : m = l.length) :
    Calls Try.prog 24 #[.pointer (some ⟨tb, 0, none⟩), .slice (some ⟨w.heap.size, 0, none⟩) m cap] (w.alloc (.cells cs T)) (SPickPost tb l (w.alloc (.cells cs T))) := by
  subst hm
  refine sPick_any tb w.heap.size cap l _ (ht.below ((Below.refl _ _).alloc (Nat.le_refl _) _)) ht.lt (by simp) hl hl1 fun i hi => ?_
  have h1 : (w.alloc (.cells cs T)).heap[w.heap.size]? = some (.cells cs T) := heap_alloc_new w _
  have h2 : cs[i]? = some (.int .i64 (l.getD i 0)) := by rw [← Array.getElem?_toList, hcs, cellsI_get l i hi]
  rw [cell_of_row _ _ i cs T (0, 0) h1]
  exact h2

end Go.Proofs.Ytblidmkkbcobgaa

/- Struct results of three and six cells that are stored cell by cell into their place: what lies there then, and how a function ends with it; of no function of the program; no condition. -/
namespace Go.Proofs.Ytblidmkkbcobgaa
open Go.RowKit Go.Lib Go.Proofs

theorem obj_cell {W : World} {b : Nat} {cs : Array Value} {T : TypeId} (h : W.heap[b]? = some (.cells cs T (0, 0))) (j : Nat) : W.cell? ⟨b, j, none⟩ = cs[j]? := by
  simp [World.cell?, h]
theorem obj_free {W : World} {b : Nat} {cs : Array Value} {T : TypeId} (h : W.heap[b]? = some (.cells cs T (0, 0))) (j : Nat) : W.frozen? ⟨b, j, none⟩ = false := by
  simp [World.frozen?, h]
theorem obj_set {W : World} {b : Nat} {cs : Array Value} {T : TypeId} (h : W.heap[b]? = some (.cells cs T (0, 0))) (j : Nat) (v : Value) : (W.setCell ⟨b, j, none⟩ v).heap[b]? = some (.cells (cs.setIfInBounds j v) T (0, 0)) := by
  simp [World.setCell, Array.getElem?_modify, h]
theorem obj_lt {W : World} {b : Nat} {o : Obj} (h : W.heap[b]? = some o) : b < W.heap.size := (Array.getElem?_eq_some_iff.1 h).1
theorem obj_below {A B : World} {b : Nat} {o : Obj} (h : A.heap[b]? = some o) (hb : Below A.heap.size A B) : B.heap[b]? = some o := (hb.block b (obj_lt h)).trans h

def put6 (W : World) (b : Nat) (v0 v1 v2 v3 v4 v5 : Value) : World := (((((W.setCell ⟨b, 0, none⟩ v0).setCell ⟨b, 1, none⟩ v1).setCell ⟨b, 2, none⟩ v2).setCell ⟨b, 3, none⟩ v3).setCell ⟨b, 4, none⟩ v4).setCell ⟨b, 5, none⟩ v5
theorem put6_at {W : World} {b : Nat} {cs : Array Value} {T : TypeId} (h : W.heap[b]? = some (.cells cs T (0, 0))) (hs : cs.size = 6) (v0 v1 v2 v3 v4 v5 : Value) : (put6 W b v0 v1 v2 v3 v4 v5).heap[b]? = some (.cells #[v0, v1, v2, v3, v4, v5] T (0, 0)) := by
  obtain ⟨l⟩ := cs
  match l, hs with
  | [u0, u1, u2, u3, u4, u5], _ =>
    have := obj_set (obj_set (obj_set (obj_set (obj_set (obj_set h 0 v0) 1 v1) 2 v2) 3 v3) 4 v4) 5 v5
    simp only [List.setIfInBounds_toArray, List.set_cons_zero, List.set_cons_succ] at this
    exact this
theorem put6_below {n : Nat} {w W : World} {b : Nat} (h : Below n w W) (hb : n ≤ b) (v0 v1 v2 v3 v4 v5 : Value) : Below n w (put6 W b v0 v1 v2 v3 v4 v5) := by
  unfold put6
  exact (((((h.setCell (by exact hb) _).setCell (by exact hb) _).setCell (by exact hb) _).setCell (by exact hb) _).setCell (by exact hb) _).setCell (by exact hb) _
theorem ret6 {P : Program} {fn : Func} {R : Ending → World → Prop} {fr : Act} {W : World} {b : Nat} {cs : Array Value} {T : TypeId} {v : Value} (h : W.heap[b]? = some (.cells cs T (0, 0))) (hs : cs.size = 6) (v0 v1 v2 v3 v4 v5 : Value)
    (hr : ∀ F : World, F.heap[b]? = some (.cells #[v0, v1, v2, v3, v4, v5] T (0, 0)) → (results fn fr.tmps).run P F = .ok v F) (hd : fr.defers = []) (hR : R (.returned v) (put6 W b v0 v1 v2 v3 v4 v5)) :
    bodyPost P fn R .ret fr (put6 W b v0 v1 v2 v3 v4 v5) := bodyPost_ret (hr _ (put6_at h hs v0 v1 v2 v3 v4 v5)) hd hR

def put3 (W : World) (b : Nat) (v0 v1 v2 : Value) : World := ((W.setCell ⟨b, 0, none⟩ v0).setCell ⟨b, 1, none⟩ v1).setCell ⟨b, 2, none⟩ v2
theorem put3_at {W : World} {b : Nat} {cs : Array Value} {T : TypeId} (h : W.heap[b]? = some (.cells cs T (0, 0))) (hs : cs.size = 3) (v0 v1 v2 : Value) : (put3 W b v0 v1 v2).heap[b]? = some (.cells #[v0, v1, v2] T (0, 0)) := by
  obtain ⟨l⟩ := cs
  match l, hs with
  | [u0, u1, u2], _ =>
    have := obj_set (obj_set (obj_set h 0 v0) 1 v1) 2 v2
    simp only [List.setIfInBounds_toArray, List.set_cons_zero, List.set_cons_succ] at this
    exact this
theorem put3_below {n : Nat} {w W : World} {b : Nat} (h : Below n w W) (hb : n ≤ b) (v0 v1 v2 : Value) : Below n w (put3 W b v0 v1 v2) := by
  unfold put3
  exact ((h.setCell (by exact hb) _).setCell (by exact hb) _).setCell (by exact hb) _
theorem ret3 {P : Program} {fn : Func} {R : Ending → World → Prop} {fr : Act} {W : World} {b : Nat} {cs : Array Value} {T : TypeId} {v : Value} (h : W.heap[b]? = some (.cells cs T (0, 0))) (hs : cs.size = 3) (v0 v1 v2 : Value)
    (hr : ∀ F : World, F.heap[b]? = some (.cells #[v0, v1, v2] T (0, 0)) → (results fn fr.tmps).run P F = .ok v F) (hd : fr.defers = []) (hR : R (.returned v) (put3 W b v0 v1 v2)) :
    bodyPost P fn R .ret fr (put3 W b v0 v1 v2) := bodyPost_ret (hr _ (put3_at h hs v0 v1 v2)) hd hR

theorem setCell_grown {A : World} {b : Nat} (j : Nat) (v : Value) : A.grownBy (A.setCell ⟨b, j, none⟩ v) (some b) :=
  ⟨rfl, rfl, rfl, by simp [World.setCell], fun k _ hne => Below.heap_setCell A _ _ k (by show k ≠ b; exact fun e => hne (by rw [e]))⟩
theorem grown_step {A B C : World} {r : Option Nat} (h : A.grownBy B r) (k : B.grownBy C r) : A.grownBy C r :=
  ⟨k.os.trans h.os, k.tape.trans h.tape, k.output.trans h.output, Nat.le_trans h.size k.size, fun i hi hne => (k.block i (Nat.lt_of_lt_of_le hi h.size) hne).trans (h.block i hi hne)⟩
theorem put6_grown (W : World) (b : Nat) (v0 v1 v2 v3 v4 v5 : Value) : W.grownBy (put6 W b v0 v1 v2 v3 v4 v5) (some b) := by
  unfold put6
  exact grown_step (grown_step (grown_step (grown_step (grown_step (setCell_grown _ _) (setCell_grown _ _)) (setCell_grown _ _)) (setCell_grown _ _)) (setCell_grown _ _)) (setCell_grown _ _)
theorem put3_grown (W : World) (b : Nat) (v0 v1 v2 : Value) : W.grownBy (put3 W b v0 v1 v2) (some b) := by
  unfold put3
  exact grown_step (grown_step (setCell_grown _ _) (setCell_grown _ _)) (setCell_grown _ _)
theorem retB {P : Program} {fn : Func} {R : Ending → World → Prop} {fr : Act} {W : World} {b : Nat} {cs : Array Value} {T : TypeId} {v : Value} (h : W.heap[b]? = some (.cells cs T (0, 0)))
    (hr : ∀ F : World, F.heap[b]? = some (.cells cs T (0, 0)) → (results fn fr.tmps).run P F = .ok v F) (hd : fr.defers = []) (hR : R (.returned v) W) : bodyPost P fn R .ret fr W := bodyPost_ret (hr _ h) hd hR
theorem alloc2_at (w : World) (o1 o2 : Obj) : ((w.alloc o1).alloc o2).heap[w.heap.size + 1]? = some o2 := by
  have := heap_alloc_new (w.alloc o1) o2
  rwa [World.size_alloc] at this
theorem alloc1_at (w : World) (o1 o2 : Obj) : ((w.alloc o1).alloc o2).heap[w.heap.size]? = some o1 := (Below.heap_alloc _ _ _ (by simp)).trans (heap_alloc_new w o1)
theorem below2 (w : World) (o1 o2 : Obj) : Below w.heap.size w ((w.alloc o1).alloc o2) := ((Below.refl _ _).alloc (Nat.le_refl _) _).alloc (by simp) _

end Go.Proofs.Ytblidmkkbcobgaa

/- Securities: what is asked of them, as the program's register and treasuryplay's source have it; of a security that is right alone. -/
namespace Go.Proofs.Ytblidmkkbcobgaa
open Go.RowKit Go.Lib Go.Proofs

structure Sec where
  id : Int
  unit : Int
  iss : Int
  mat : Int
  rate : Int
  ev : Int
  ix : Bool

def Sec.cells (s : Sec) : List Value := [.int .i64 s.id, .int .i64 s.unit, .int .i64 s.iss, .int .i64 s.mat, .int .i64 s.rate, .int .i64 s.ev, .bool s.ix]

/-- A security that is right: its coupons are z months apart (z is 1 without coupons), and there are r times so many months. -/
structure SecOk (s : Sec) (z r : Int) : Prop where
  id0 : 1 ≤ s.id
  id1 : s.id ≤ 1000
  unit0 : 1 ≤ s.unit
  unit1 : s.unit ≤ 1000000000
  iss0 : 0 ≤ s.iss
  iss1 : s.iss ≤ 36000
  mat1 : s.mat ≤ 35990
  r0 : 1 ≤ r
  term : s.mat = s.iss + 30 * (z * r)
  zr : z * r ≤ 600
  rate0 : 0 ≤ s.rate
  rate1 : s.rate ≤ 20000
  ev : (s.ev = 0 ∧ s.rate = 0 ∧ z = 1) ∨ (s.ev = 1 ∧ z = 1) ∨ (s.ev = 3 ∧ z = 3) ∨ (s.ev = 6 ∧ z = 6) ∨ (s.ev = 12 ∧ z = 12)

set_option maxHeartbeats 400000 in
theorem rgwithin_any (n lo hi : Int) (w : World) :
    Calls Try.prog 113 #[.int .i64 n, .int .i64 lo, .int .i64 hi] w fun e w' => e = .returned (.bool (inB n lo hi)) ∧ w = w' := by
  by_cases h1 : lo ≤ n
  · by_cases h2 : n ≤ hi
    · have h : inB n lo hi = true := inB_true.2 ⟨h1, h2⟩
      rw [h]; clear h
      go_enter Try.func113, Try.ntmps113
      go_wp2
      go_ret
      exact ⟨rfl, rfl⟩
    · have h : inB n lo hi = false := inB_false.2 (fun q => h2 q.2)
      rw [h]; clear h
      go_enter Try.func113, Try.ntmps113
      go_wp2
      go_ret
      exact ⟨rfl, rfl⟩
  · have h : inB n lo hi = false := inB_false.2 (fun q => h1 q.1)
    rw [h]; clear h
    go_enter Try.func113, Try.ntmps113
    go_wp2
    go_ret
    exact ⟨rfl, rfl⟩

theorem rgwithin_yes {n lo hi : Int} (w : World) (h1 : lo ≤ n) (h2 : n ≤ hi) :
    Calls Try.prog 113 #[.int .i64 n, .int .i64 lo, .int .i64 hi] w fun e w' => e = .returned (.bool true) ∧ w = w' := by
  have := rgwithin_any n lo hi w; rw [inB_true.2 ⟨h1, h2⟩] at this; exact this

set_option maxHeartbeats 1000000 in
theorem rgfits_ok {s : Sec} {z r : Int} (h : SecOk s z r) (t : Int) (ht : t = 30 * (z * r)) (w : World) :
    Calls Try.prog 114 #[.agg s.cells.toArray, .int .i64 t] w fun e w' => e = .returned (.bool true) ∧ Below w.heap.size w w' := by
  obtain ⟨i, u, a, m, q, e, x⟩ := s
  obtain ⟨_, _, _, _, _, _, _, hr0, _, hzr, _, _, hev⟩ := h
  simp only [Sec.cells] at *
  rcases hev with ⟨rfl, rfl, rfl⟩ | ⟨rfl, rfl⟩ | ⟨rfl, rfl⟩ | ⟨rfl, rfl⟩ | ⟨rfl, rfl⟩
  · go_enter Try.func114, Try.ntmps114
    go_wp2
    go_ret
    exact ⟨rfl, below_alloc w _⟩
  · have ht0 : 0 ≤ t := by omega
    have ht1 : t ≤ 18000 := by omega
    have hm : t % 30 = 0 := by omega
    clear ht hzr
    go_enter Try.func114, Try.ntmps114
    go_wp2
    go_ret
    exact ⟨rfl, below_alloc w _⟩
  · have ht0 : 0 ≤ t := by omega
    have ht1 : t ≤ 18000 := by omega
    have hm : t % 90 = 0 := by omega
    clear ht hzr
    go_enter Try.func114, Try.ntmps114
    go_wp2
    go_ret
    exact ⟨rfl, below_alloc w _⟩
  · have ht0 : 0 ≤ t := by omega
    have ht1 : t ≤ 18000 := by omega
    have hm : t % 180 = 0 := by omega
    clear ht hzr
    go_enter Try.func114, Try.ntmps114
    go_wp2
    go_ret
    exact ⟨rfl, below_alloc w _⟩
  · have ht0 : 0 ≤ t := by omega
    have ht1 : t ≤ 18000 := by omega
    have hm : t % 360 = 0 := by omega
    clear ht hzr
    go_enter Try.func114, Try.ntmps114
    go_wp2
    go_ret
    exact ⟨rfl, below_alloc w _⟩

set_option maxHeartbeats 2000000 in
theorem rgSecurity_ok {s : Sec} {z r : Int} (h : SecOk s z r) (w : World) :
    Calls Try.prog 80 #[.agg s.cells.toArray] w fun e w' => e = .returned (.bool true) ∧ Below w.heap.size w w' := by
  have HF := Lib.hid (fun W => rgfits_ok h (s.mat - s.iss) (by have := h.term; omega) W)
  obtain ⟨i, u, a, m, q, e, x⟩ := s
  obtain ⟨i0, i1, u0, u1, a0, a1, m1, hr0, ht, hzr, q0, q1, hev⟩ := h
  simp only [Sec.cells] at *
  have hz : 1 ≤ z * r := by
    rcases hev with ⟨_, _, rfl⟩ | ⟨_, rfl⟩ | ⟨_, rfl⟩ | ⟨_, rfl⟩ | ⟨_, rfl⟩ <;> omega
  generalize z * r = p at *
  have t0 : 30 ≤ m - a := by omega
  have t1 : m - a ≤ 18000 := by omega
  have t2 : (m - a) % 30 = 0 := by omega
  have m0 : 0 ≤ m := by omega
  have HB := Lib.hid (below_alloc w (.cells #[.int .i64 i, .int .i64 u, .int .i64 a, .int .i64 m, .int .i64 q, .int .i64 e, .bool x] 55))
  clear hev ht hzr hr0 hz
  go_enter Try.func80, Try.ntmps80
  go_wp2_with (first | (go_at_call 113; refine (rgwithin_yes _ (by omega) (by omega)).mono ?_; rintro e w' ⟨rfl, rfl⟩) | (go_at_call 114; refine (HF.out _).mono ?_; rintro e w2 ⟨rfl, hb2⟩))
  go_ret
  exact ⟨rfl, HB.out.trans (hb2.mono (by simp))⟩

end Go.Proofs.Ytblidmkkbcobgaa

/- Registers, as mathematics: holdings in their order, moves, what they make; of no function of the program; no condition. -/
namespace Go.Proofs.Ytblidmkkbcobgaa
open Go.RowKit Go.Lib Go.Proofs

structure Hld where
  sec : Int
  who : Int
  amt : Int
deriving DecidableEq
def Hld.zero : Hld := ⟨0, 0, 0⟩
def hldC (h : Hld) : List Value := [.int .i64 h.sec, .int .i64 h.who, .int .i64 h.amt]
theorem hldF : Fields hldC 3 := ⟨fun _ => rfl, fun _ u hu => by simp only [hldC, List.mem_cons, List.mem_nil_iff, or_false] at hu; rcases hu with rfl | rfl | rfl <;> rfl, by decide⟩
structure Mv where
  num : Int
  day : Int
  kind : Int
  sec : Int
  frm : Int
  «to» : Int
  amt : Int
def Mv.zero : Mv := ⟨0, 0, 0, 0, 0, 0, 0⟩
def mvC (m : Mv) : List Value := [.int .i64 m.num, .int .i64 m.day, .int .i64 m.kind, .int .i64 m.sec, .int .i64 m.frm, .int .i64 m.to, .int .i64 m.amt]
theorem mvF : Fields mvC 7 := ⟨fun _ => rfl, fun _ u hu => by simp only [mvC, List.mem_cons, List.mem_nil_iff, or_false] at hu; rcases hu with rfl | rfl | rfl | rfl | rfl | rfl | rfl <;> rfl, by decide⟩
theorem secF : Fields Sec.cells 7 := ⟨fun _ => rfl, fun _ u hu => by simp only [Sec.cells, List.mem_cons, List.mem_nil_iff, or_false] at hu; rcases hu with rfl | rfl | rfl | rfl | rfl | rfl | rfl <;> rfl, by decide⟩

/-! ### Holdings -/
def hlt (a b : Hld) : Prop := a.sec < b.sec ∨ (a.sec = b.sec ∧ a.who < b.who)
structure HldOk (h : Hld) : Prop where
  sec : 1 ≤ h.sec ∧ h.sec ≤ 1000
  who : 1 ≤ h.who ∧ h.who ≤ 1000
  amt : 1 ≤ h.amt ∧ h.amt ≤ 1000000000000
structure HsOk (l : List Hld) : Prop where
  asc : l.Pairwise hlt
  ok : ∀ h ∈ l, HldOk h
theorem hsOk_nil : HsOk [] := ⟨List.Pairwise.nil, fun h hh => by simp at hh⟩
theorem HsOk.tail {h : Hld} {l : List Hld} (k : HsOk (h :: l)) : HsOk l := ⟨(List.pairwise_cons.1 k.asc).2, fun x hx => k.ok x (List.mem_cons_of_mem _ hx)⟩
/-- The sum of the holdings that are wanted. -/
def sumH (p : Hld → Bool) : List Hld → Int
  | [] => 0
  | h :: l => (if p h then h.amt else 0) + sumH p l
theorem sumH_app (p : Hld → Bool) : ∀ l m : List Hld, sumH p (l ++ m) = sumH p l + sumH p m
  | [], m => by simp [sumH]
  | h :: l, m => by simp only [List.cons_append, sumH, sumH_app p l m]; omega
theorem sumH_bound {p : Hld → Bool} : ∀ {l : List Hld}, (∀ h ∈ l, HldOk h) → 0 ≤ sumH p l ∧ sumH p l ≤ 1000000000000 * (l.length : Int)
  | [], _ => by simp [sumH]
  | h :: l, k => by
    have ih := sumH_bound (p := p) (l := l) fun x hx => k x (List.mem_cons_of_mem _ hx)
    have h1 := (k h List.mem_cons_self).amt
    simp only [sumH, List.length_cons]
    split <;> omega
def isAt (id who : Int) (h : Hld) : Bool := h.sec == id && h.who == who
def isOf (id : Int) (h : Hld) : Bool := h.sec == id
def heldM (l : List Hld) (id who : Int) : Int := sumH (isAt id who) l
def outM (l : List Hld) (id : Int) : Int := sumH (isOf id) l
def debtM (l : List Hld) : Int := sumH (fun _ => true) l

/-- What a holder has of a security changes by an amount; nothing stands there for 0. -/
def setM (id who n : Int) : List Hld → List Hld
  | [] => if n = 0 then [] else [⟨id, who, n⟩]
  | h :: l =>
    if h.sec < id ∨ (h.sec = id ∧ h.who < who) then h :: setM id who n l
    else if h.sec = id ∧ h.who = who then (if h.amt + n = 0 then l else ⟨id, who, h.amt + n⟩ :: l)
    else if n = 0 then h :: l else ⟨id, who, n⟩ :: h :: l
theorem sumH_set {p : Hld → Bool} (hp : ∀ a b : Hld, a.sec = b.sec → a.who = b.who → p a = p b) (id who n : Int) : ∀ l : List Hld, sumH p (setM id who n l) = sumH p l + (if p ⟨id, who, 0⟩ then n else 0)
  | [] => by
    unfold setM
    split
    · rename_i h; subst h; simp [sumH]
    · simp only [sumH]
      rw [hp ⟨id, who, n⟩ ⟨id, who, 0⟩ rfl rfl]; omega
  | h :: l => by
    unfold setM
    split
    · simp only [sumH]; rw [sumH_set hp id who n l]; omega
    · split
      · rename_i h2
        have e : p h = p ⟨id, who, 0⟩ := hp _ _ h2.1 h2.2
        split
        · rename_i h3
          simp only [sumH, e]
          split <;> omega
        · simp only [sumH, e]
          rw [hp ⟨id, who, h.amt + n⟩ ⟨id, who, 0⟩ rfl rfl]
          split <;> omega
      · split
        · rename_i h3; subst h3; simp [sumH]
        · simp only [sumH]
          rw [hp ⟨id, who, n⟩ ⟨id, who, 0⟩ rfl rfl]; omega
theorem heldM_set (id who n i w : Int) (l : List Hld) : heldM (setM id who n l) i w = heldM l i w + (if id = i ∧ who = w then n else 0) := by
  unfold heldM
  rw [sumH_set (fun a b h1 h2 => by simp [isAt, h1, h2])]
  simp [isAt]
theorem outM_set (id who n i : Int) (l : List Hld) : outM (setM id who n l) i = outM l i + (if id = i then n else 0) := by
  unfold outM
  rw [sumH_set (fun a b h1 h2 => by simp [isOf, h1])]
  simp [isOf]
theorem debtM_set (id who n : Int) (l : List Hld) : debtM (setM id who n l) = debtM l + n := by
  unfold debtM
  rw [sumH_set (fun a b h1 h2 => rfl)]
  simp
theorem setM_len (id who n : Int) : ∀ l : List Hld, (setM id who n l).length ≤ l.length + 1
  | [] => by unfold setM; split <;> simp
  | h :: l => by
    unfold setM
    have := setM_len id who n l
    repeat' split
    all_goals simp only [List.length_cons]
    all_goals omega
/-- Nothing of a smaller key, and of the key itself once. -/
theorem heldM_low {id who : Int} : ∀ {l : List Hld}, (∀ h ∈ l, hlt ⟨id, who, 0⟩ h) → heldM l id who = 0
  | [], _ => rfl
  | h :: l, k => by
    have h1 := k h List.mem_cons_self
    have h2 : isAt id who h = false := by
      unfold isAt
      rcases h1 with h1 | ⟨h1, h3⟩
      · simp only at h1; rw [beq_eq_false_iff_ne.2 (show h.sec ≠ id by omega)]; rfl
      · simp only at h3; rw [beq_eq_false_iff_ne.2 (show h.who ≠ who by omega)]; simp
    unfold heldM sumH
    rw [h2]
    have := heldM_low (id := id) (who := who) (l := l) fun x hx => k x (List.mem_cons_of_mem _ hx)
    unfold heldM at this
    simp [this]
theorem hlt_trans {a b c : Hld} (h : hlt a b) (k : hlt b c) : hlt a c := by unfold hlt at *; omega
theorem setM_mem {id who n : Int} {x : Hld} : ∀ {l : List Hld}, x ∈ setM id who n l → x ∈ l ∨ (x.sec = id ∧ x.who = who)
  | [], h => by
    unfold setM at h
    split at h
    · simp at h
    · simp at h; exact Or.inr (by rw [h]; exact ⟨rfl, rfl⟩)
  | a :: l, h => by
    unfold setM at h
    split at h
    · rcases List.mem_cons.1 h with h | h
      · exact Or.inl (by rw [h]; exact List.mem_cons_self)
      · rcases setM_mem h with h | h
        · exact Or.inl (List.mem_cons_of_mem _ h)
        · exact Or.inr h
    · split at h
      · split at h
        · exact Or.inl (List.mem_cons_of_mem _ h)
        · rcases List.mem_cons.1 h with h | h
          · exact Or.inr (by rw [h]; exact ⟨rfl, rfl⟩)
          · exact Or.inl (List.mem_cons_of_mem _ h)
      · split at h
        · exact Or.inl h
        · rcases List.mem_cons.1 h with h | h
          · exact Or.inr (by rw [h]; exact ⟨rfl, rfl⟩)
          · exact Or.inl h
theorem setM_asc {id who n : Int} : ∀ {l : List Hld}, l.Pairwise hlt → (setM id who n l).Pairwise hlt
  | [], _ => by unfold setM; split <;> simp
  | a :: l, h => by
    have h1 := List.pairwise_cons.1 h
    unfold setM
    split
    · rename_i hc
      refine List.pairwise_cons.2 ⟨fun x hx => ?_, setM_asc h1.2⟩
      rcases setM_mem hx with hx | hx
      · exact h1.1 x hx
      · unfold hlt; omega
    · rename_i hc
      split
      · rename_i he
        split
        · exact h1.2
        · refine List.pairwise_cons.2 ⟨fun x hx => ?_, h1.2⟩
          have := h1.1 x hx
          unfold hlt at *; simp only; omega
      · rename_i he
        split
        · exact h
        · refine List.pairwise_cons.2 ⟨fun x hx => ?_, h⟩
          rcases List.mem_cons.1 hx with rfl | hx
          · unfold hlt; simp only; omega
          · have := h1.1 x hx
            unfold hlt at *; simp only; omega
theorem heldM_mem {l : List Hld} (hl : l.Pairwise hlt) {h : Hld} (hm : h ∈ l) : heldM l h.sec h.who = h.amt := by
  induction l with
  | nil => simp at hm
  | cons a l ih =>
    have h1 := List.pairwise_cons.1 hl
    rcases List.mem_cons.1 hm with rfl | hm
    · have h2 : heldM l h.sec h.who = 0 := heldM_low fun x hx => by
        have := h1.1 x hx
        unfold hlt at *; simpa using this
      unfold heldM at h2 ⊢
      simp [sumH, isAt, h2]
    · have h2 := ih h1.2 hm
      have h3 := h1.1 h hm
      have h4 : isAt h.sec h.who a = false := by
        unfold isAt
        rcases h3 with h3 | ⟨h3, h5⟩
        · rw [beq_eq_false_iff_ne.2 (show a.sec ≠ h.sec by omega)]; rfl
        · rw [beq_eq_false_iff_ne.2 (show a.who ≠ h.who by omega)]; simp
      unfold heldM at h2 ⊢
      simp only [sumH, h4]
      simpa using h2
/-- What everybody has tells the holdings. -/
theorem hs_ext : ∀ {l m : List Hld}, HsOk l → HsOk m → (∀ i w, heldM l i w = heldM m i w) → l = m
  | [], [], _, _, _ => rfl
  | [], b :: m, _, hm, h => by
    have h1 := heldM_mem hm.asc (h := b) List.mem_cons_self
    rw [← h] at h1
    have := (hm.ok b List.mem_cons_self).amt
    simp [heldM, sumH] at h1
    omega
  | a :: l, [], hl, _, h => by
    have h1 := heldM_mem hl.asc (h := a) List.mem_cons_self
    rw [h] at h1
    have := (hl.ok a List.mem_cons_self).amt
    simp [heldM, sumH] at h1
    omega
  | a :: l, b :: m, hl, hm, h => by
    have ha := heldM_mem hl.asc (h := a) List.mem_cons_self
    have hb := heldM_mem hm.asc (h := b) List.mem_cons_self
    have pa := (hl.ok a List.mem_cons_self).amt
    have pb := (hm.ok b List.mem_cons_self).amt
    have la := (List.pairwise_cons.1 hl.asc).1
    have lb := (List.pairwise_cons.1 hm.asc).1
    have hab : a = b := by
      by_cases h1 : hlt a b
      · exfalso
        have : heldM (b :: m) a.sec a.who = 0 := heldM_low fun x hx => by
          rcases List.mem_cons.1 hx with rfl | hx
          · unfold hlt at *; simpa using h1
          · have := hlt_trans h1 (lb x hx); unfold hlt at *; simpa using this
        rw [← h, ha] at this; omega
      · by_cases h2 : hlt b a
        · exfalso
          have : heldM (a :: l) b.sec b.who = 0 := heldM_low fun x hx => by
            rcases List.mem_cons.1 hx with rfl | hx
            · unfold hlt at *; simpa using h2
            · have := hlt_trans h2 (la x hx); unfold hlt at *; simpa using this
          rw [h, hb] at this; omega
        · have e1 : a.sec = b.sec := by unfold hlt at *; omega
          have e2 : a.who = b.who := by unfold hlt at *; omega
          have e3 : a.amt = b.amt := by rw [← ha, ← hb, h, e1, e2]
          cases a; cases b; simp_all
    subst hab
    have : l = m := hs_ext hl.tail hm.tail fun i w => by
      have := h i w
      unfold heldM at this ⊢
      simp only [sumH] at this
      omega
    rw [this]
theorem heldM_le_out {l : List Hld} (hl : ∀ h ∈ l, HldOk h) (id who : Int) : heldM l id who ≤ outM l id := by
  induction l with
  | nil => simp [heldM, outM, sumH]
  | cons a l ih =>
    have h1 := ih fun x hx => hl x (List.mem_cons_of_mem _ hx)
    have h2 := (hl a List.mem_cons_self).amt
    unfold heldM outM at *
    simp only [sumH]
    by_cases h3 : isAt id who a = true
    · have h4 : isOf id a = true := by unfold isAt at h3; unfold isOf; simp at h3 ⊢; exact h3.1
      rw [h3, h4]; simp; omega
    · rw [Bool.not_eq_true] at h3
      have h5 : (if isAt id who a = true then a.amt else 0) = 0 := by rw [h3]; rfl
      have h6 : 0 ≤ (if isOf id a = true then a.amt else 0) := by split <;> omega
      omega
theorem setM_ok {l : List Hld} {id who n : Int} (h : HsOk l) (hi : 1 ≤ id ∧ id ≤ 1000) (hw : 1 ≤ who ∧ who ≤ 1000) (h0 : 0 ≤ heldM l id who + n) (h1 : outM l id + n ≤ 1000000000000) : HsOk (setM id who n l) := by
  have hasc := setM_asc (id := id) (who := who) (n := n) h.asc
  refine ⟨hasc, ?_⟩
  have hgen : ∀ l : List Hld, (∀ h ∈ l, HldOk h) → l.Pairwise hlt → 0 ≤ heldM l id who + n → heldM l id who + n ≤ 1000000000000 → ∀ x ∈ setM id who n l, HldOk x := by
    intro l
    induction l with
    | nil =>
      intro _ _ q0 q1 x hx
      simp [heldM, sumH] at q0 q1
      unfold setM at hx
      split at hx
      · simp at hx
      · simp at hx; subst hx; exact ⟨hi, hw, by simp only; omega⟩
    | cons a l ih =>
      intro hk hp q0 q1 x hx
      have hp1 := List.pairwise_cons.1 hp
      unfold setM at hx
      split at hx
      · rename_i hc
        rcases List.mem_cons.1 hx with rfl | hx
        · exact hk _ List.mem_cons_self
        · have e : isAt id who a = false := by
            unfold isAt
            rcases hc with hc | ⟨hc, hc2⟩
            · rw [beq_eq_false_iff_ne.2 (show a.sec ≠ id by omega)]; rfl
            · rw [beq_eq_false_iff_ne.2 (show a.who ≠ who by omega)]; simp
          have e2 : heldM (a :: l) id who = heldM l id who := by unfold heldM; simp [sumH, e]
          rw [e2] at q0 q1
          exact ih (fun y hy => hk y (List.mem_cons_of_mem _ hy)) hp1.2 q0 q1 x hx
      · rename_i hc
        split at hx
        · rename_i he
          have e2 : heldM (a :: l) id who = a.amt := by have := heldM_mem hp (h := a) List.mem_cons_self; rwa [he.1, he.2] at this
          rw [e2] at q0 q1
          split at hx
          · exact hk x (List.mem_cons_of_mem _ hx)
          · rcases List.mem_cons.1 hx with rfl | hx
            · exact ⟨hi, hw, by simp only; omega⟩
            · exact hk x (List.mem_cons_of_mem _ hx)
        · rename_i he
          have e2 : heldM (a :: l) id who = 0 := heldM_low fun y hy => by
            rcases List.mem_cons.1 hy with rfl | hy
            · unfold hlt; simp only; omega
            · have := hp1.1 y hy; unfold hlt at *; simp only; omega
          rw [e2] at q0 q1
          split at hx
          · exact hk x hx
          · rcases List.mem_cons.1 hx with rfl | hx
            · exact ⟨hi, hw, by simp only; omega⟩
            · exact hk x hx
  have h2 := heldM_le_out h.ok id who
  exact hgen l h.ok h.asc h0 (by omega)

/-! ### Moves -/
def findS (id : Int) : List Sec → Option Sec
  | [] => none
  | s :: l => if s.id = id then some s else findS id l
def endsB (m : Mv) : Bool :=
  if m.kind = 1 then decide (m.frm = 0 ∧ 1 ≤ m.to ∧ m.to ≤ 1000)
  else if m.kind = 2 then decide (1 ≤ m.frm ∧ m.frm ≤ 1000 ∧ 1 ≤ m.to ∧ m.to ≤ 1000 ∧ m.frm ≠ m.to)
  else if m.kind = 3 then decide (1 ≤ m.frm ∧ m.frm ≤ 1000 ∧ m.to = 0)
  else false
def faultS (s : Sec) (l : List Hld) (bd : Int) (m : Mv) : Int :=
  if m.day < bd ∨ m.day < s.iss ∨ (if m.kind = 3 then 36000 else s.mat) < m.day then 8
  else if m.amt < 1 ∨ 1000000000000 < m.amt ∨ m.amt.tmod s.unit ≠ 0 then 79
  else if endsB m = false then 6
  else if m.kind ≠ 1 ∧ heldM l m.sec m.frm < m.amt then 77
  else if m.kind = 1 ∧ 1000000000000 < outM l m.sec + m.amt then 2
  else 0
/-- The error of a move on holdings, behind a day. -/
def faultM (secs : List Sec) (l : List Hld) (bd : Int) (m : Mv) : Int :=
  match findS m.sec secs with
  | none => 76
  | some s => faultS s l bd m
def carryM (l : List Hld) (m : Mv) : List Hld :=
  let l1 := if m.kind = 1 then l else setM m.sec m.frm (-m.amt) l
  if m.kind = 3 then l1 else setM m.sec m.to m.amt l1
def replayM (secs : List Sec) : List Hld → Mv → List Mv → Option (List Hld)
  | l, _, [] => some l
  | l, b, m :: ms => if m.num = b.num + 1 ∧ faultM secs l b.day m = 0 then replayM secs (carryM l m) m ms else none
theorem replayM_app (secs : List Sec) : ∀ (ms : List Mv) (l : List Hld) (b : Mv) (ns : List Mv), replayM secs l b (ms ++ ns) = match replayM secs l b ms with | none => none | some k => replayM secs k ((b :: ms).getLast (by simp)) ns
  | [], l, b, ns => rfl
  | m :: ms, l, b, ns => by
    simp only [List.cons_append, replayM]
    split
    · rw [replayM_app secs ms (carryM l m) m ns]
      simp [List.getLast_cons]
    · rfl
/-- A move that is possible has its shape. -/
structure MvOk (secs : List Sec) (l : List Hld) (bd : Int) (m : Mv) (s : Sec) : Prop where
  sec : findS m.sec secs = some s
  day0 : bd ≤ m.day
  day1 : s.iss ≤ m.day
  day2 : m.day ≤ 36000
  mat : m.kind ≠ 3 → m.day ≤ s.mat
  amt : 1 ≤ m.amt ∧ m.amt ≤ 1000000000000
  unit : m.amt.tmod s.unit = 0
  kind : m.kind = 1 ∨ m.kind = 2 ∨ m.kind = 3
  frm : m.kind ≠ 1 → 1 ≤ m.frm ∧ m.frm ≤ 1000
  «to» : m.kind ≠ 3 → 1 ≤ m.to ∧ m.to ≤ 1000
  ne : m.kind = 2 → m.frm ≠ m.to
  frm0 : m.kind = 1 → m.frm = 0
  to0 : m.kind = 3 → m.to = 0
  has : m.kind ≠ 1 → m.amt ≤ heldM l m.sec m.frm
  room : m.kind = 1 → outM l m.sec + m.amt ≤ 1000000000000
theorem fault_zero {secs : List Sec} {l : List Hld} {bd : Int} {m : Mv} (hm : ∀ s ∈ secs, s.mat ≤ 36000) (h : faultM secs l bd m = 0) : ∃ s, MvOk secs l bd m s := by
  unfold faultM at h
  split at h
  · omega
  · rename_i s hs
    have hsm : s.mat ≤ 36000 := by
      have : ∀ {l : List Sec}, findS m.sec l = some s → s ∈ l := by
        intro l
        induction l with
        | nil => intro h; simp [findS] at h
        | cons a l ih =>
          intro h
          simp only [findS] at h
          split at h
          · injection h with h; rw [h]; exact List.mem_cons_self
          · exact List.mem_cons_of_mem _ (ih h)
      exact hm s (this hs)
    unfold faultS at h
    generalize hmx : (if m.kind = 3 then (36000 : Int) else s.mat) = mx at h
    split at h
    · omega
    · rename_i h1
      split at h
      · omega
      · rename_i h2
        split at h
        · omega
        · rename_i h3
          split at h
          · omega
          · rename_i h4
            split at h
            · omega
            · rename_i h5
              rw [Bool.not_eq_false] at h3
              unfold endsB at h3
              refine ⟨s, ?_⟩
              have h2b : ¬ m.amt.tmod s.unit ≠ 0 := fun hc => h2 (Or.inr (Or.inr hc))
              by_cases k1 : m.kind = 1
              · rw [if_pos k1, decide_eq_true_eq] at h3
                rw [if_neg (by omega)] at hmx
                exact ⟨hs, by omega, by omega, by omega, fun _ => by omega, by omega, Decidable.not_not.1 h2b, Or.inl k1, fun q => absurd k1 q, fun _ => h3.2, fun q => by omega, fun _ => h3.1, fun q => by omega, fun q => absurd k1 q, fun _ => by omega⟩
              · rw [if_neg k1] at h3
                by_cases k2 : m.kind = 2
                · rw [if_pos k2, decide_eq_true_eq] at h3
                  rw [if_neg (by omega)] at hmx
                  exact ⟨hs, by omega, by omega, by omega, fun _ => by omega, by omega, Decidable.not_not.1 h2b, Or.inr (Or.inl k2), fun _ => ⟨h3.1, h3.2.1⟩, fun _ => ⟨h3.2.2.1, h3.2.2.2.1⟩, fun _ => h3.2.2.2.2, fun q => by omega, fun q => by omega, fun q => by omega, fun q => by omega⟩
                · rw [if_neg k2] at h3
                  by_cases k3 : m.kind = 3
                  · rw [if_pos k3, decide_eq_true_eq] at h3
                    rw [if_pos k3] at hmx
                    exact ⟨hs, by omega, by omega, by omega, fun q => absurd k3 q, by omega, Decidable.not_not.1 h2b, Or.inr (Or.inr k3), fun _ => ⟨h3.1, h3.2.1⟩, fun q => absurd k3 q, fun q => by omega, fun q => by omega, fun _ => h3.2.2, fun q => by omega, fun q => by omega⟩
                  · rw [if_neg k3] at h3; cases h3

end Go.Proofs.Ytblidmkkbcobgaa

/- Registers, as mathematics: what replaying moves keeps, right registers, adding a move; of no function of the program; no condition. -/
namespace Go.Proofs.Ytblidmkkbcobgaa
open Go.RowKit Go.Lib Go.Proofs

/-- What a move changes for a holder. -/
def effM (m : Mv) (i w : Int) : Int := (if m.kind ≠ 1 ∧ m.sec = i ∧ m.frm = w then -m.amt else 0) + (if m.kind ≠ 3 ∧ m.sec = i ∧ m.to = w then m.amt else 0)
/-- What a move changes of what is outstanding. -/
def issM (m : Mv) (i : Int) : Int := if m.sec = i then (if m.kind = 1 then m.amt else if m.kind = 3 then -m.amt else 0) else 0
theorem heldM_carry (l : List Hld) (m : Mv) (i w : Int) : heldM (carryM l m) i w = heldM l i w + effM m i w := by
  unfold carryM effM
  by_cases h1 : m.kind = 1
  · have h3 : ¬ m.kind = 3 := by omega
    simp only [if_pos h1, if_neg h3]
    rw [heldM_set, if_neg (show ¬ (m.kind ≠ 1 ∧ m.sec = i ∧ m.frm = w) from fun h => h.1 h1)]
    simp only [Int.zero_add]
    congr 1
    by_cases h : m.sec = i ∧ m.to = w
    · rw [if_pos h, if_pos ⟨h3, h⟩]
    · rw [if_neg h, if_neg fun q => h q.2]
  · by_cases h3 : m.kind = 3
    · simp only [if_neg h1, if_pos h3]
      rw [heldM_set, if_neg (show ¬ (m.kind ≠ 3 ∧ m.sec = i ∧ m.to = w) from fun h => h.1 h3)]
      simp only [Int.add_zero]
      congr 1
      by_cases h : m.sec = i ∧ m.frm = w
      · rw [if_pos h, if_pos ⟨h1, h⟩]
      · rw [if_neg h, if_neg fun q => h q.2]
    · simp only [if_neg h1, if_neg h3]
      rw [heldM_set, heldM_set, Int.add_assoc]
      congr 1
      congr 1
      · by_cases h : m.sec = i ∧ m.frm = w
        · rw [if_pos h, if_pos ⟨h1, h⟩]
        · rw [if_neg h, if_neg fun q => h q.2]
      · by_cases h : m.sec = i ∧ m.to = w
        · rw [if_pos h, if_pos ⟨h3, h⟩]
        · rw [if_neg h, if_neg fun q => h q.2]
theorem outM_carry (l : List Hld) (m : Mv) (i : Int) : outM (carryM l m) i = outM l i + issM m i := by
  unfold carryM issM
  by_cases h1 : m.kind = 1
  · have h3 : ¬ m.kind = 3 := by omega
    simp only [if_pos h1, if_neg h3]
    rw [outM_set]
  · by_cases h3 : m.kind = 3
    · simp only [if_neg h1, if_pos h3]
      rw [outM_set]
    · simp only [if_neg h1, if_neg h3]
      rw [outM_set, outM_set]
      split <;> omega
theorem debtM_carry (l : List Hld) (m : Mv) : debtM (carryM l m) = debtM l + issM m m.sec := by
  unfold carryM issM
  simp only [if_true]
  by_cases h1 : m.kind = 1
  · have h3 : ¬ m.kind = 3 := by omega
    simp only [if_pos h1, if_neg h3]
    rw [debtM_set]
  · by_cases h3 : m.kind = 3
    · simp only [if_neg h1, if_pos h3]
      rw [debtM_set]
    · simp only [if_neg h1, if_neg h3]
      rw [debtM_set, debtM_set]
      omega
theorem carryM_len (l : List Hld) (m : Mv) : (carryM l m).length ≤ l.length + 2 := by
  unfold carryM
  have h1 := setM_len m.sec m.frm (-m.amt) l
  have h2 := setM_len m.sec m.to m.amt l
  have h3 := setM_len m.sec m.to m.amt (setM m.sec m.frm (-m.amt) l)
  simp only
  split <;> split <;> omega
structure HsI (l : List Hld) : Prop where
  ok : HsOk l
  out : ∀ i, outM l i ≤ 1000000000000
theorem hsI_nil : HsI [] := ⟨hsOk_nil, fun i => by simp [outM, sumH]⟩
theorem findS_id {id : Int} {s : Sec} : ∀ {l : List Sec}, findS id l = some s → s.id = id ∧ s ∈ l
  | [], h => by simp [findS] at h
  | a :: l, h => by
    simp only [findS] at h
    split at h
    · rename_i ha
      injection h with h
      subst h
      exact ⟨ha, List.mem_cons_self⟩
    · have := findS_id h
      exact ⟨this.1, List.mem_cons_of_mem _ this.2⟩
theorem HsI.carry {secs : List Sec} {l : List Hld} {bd : Int} {m : Mv} {s : Sec} (h : HsI l) (hs : ∀ s ∈ secs, 1 ≤ s.id ∧ s.id ≤ 1000) (hm : MvOk secs l bd m s) : HsI (carryM l m) := by
  have hid : 1 ≤ m.sec ∧ m.sec ≤ 1000 := by
    have := findS_id hm.sec
    have := hs s this.2
    omega
  refine ⟨?_, fun i => ?_⟩
  · have ho := h.out m.sec
    have ha := hm.amt
    unfold carryM
    by_cases h1 : m.kind = 1
    · have h3 : ¬ m.kind = 3 := by omega
      simp only [if_pos h1, if_neg h3]
      have hb := (sumH_bound (p := isAt m.sec m.to) h.ok.ok).1
      exact setM_ok h.ok hid (hm.to h3) (by unfold heldM; omega) (hm.room h1)
    · have hh := hm.has h1
      have k1 : HsOk (setM m.sec m.frm (-m.amt) l) := setM_ok h.ok hid (hm.frm h1) (by omega) (by omega)
      by_cases h3 : m.kind = 3
      · simp only [if_neg h1, if_pos h3]
        exact k1
      · simp only [if_neg h1, if_neg h3]
        have hb := (sumH_bound (p := isAt m.sec m.to) k1.ok).1
        exact setM_ok k1 hid (hm.to h3) (by unfold heldM; omega) (by rw [outM_set]; simp; omega)
  · rw [outM_carry]
    have ho := h.out i
    have ha := hm.amt
    unfold issM
    by_cases h1 : m.kind = 1
    · rw [if_pos h1]
      split
      · rename_i hi
        have := hm.room h1
        rw [← hi]; omega
      · omega
    · rw [if_neg h1]
      split
      · split <;> omega
      · omega

/-- The last of a row of moves behind a move. -/
def lastM (b : Mv) : List Mv → Mv
  | [] => b
  | m :: ms => lastM m ms
theorem lastM_snoc (b m : Mv) : ∀ ms : List Mv, lastM b (ms ++ [m]) = m
  | [] => rfl
  | x :: ms => lastM_snoc x m ms
theorem replayM_snoc (secs : List Sec) (m : Mv) : ∀ (ms : List Mv) (l : List Hld) (b : Mv), replayM secs l b (ms ++ [m]) = match replayM secs l b ms with
    | none => none
    | some k => if m.num = (lastM b ms).num + 1 ∧ faultM secs k (lastM b ms).day m = 0 then some (carryM k m) else none
  | [], l, b => rfl
  | x :: ms, l, b => by
    simp only [List.cons_append, replayM, lastM]
    split
    · rw [replayM_snoc secs m ms (carryM l x) x]
      rfl
    · rfl
/-- What a run of moves keeps. -/
structure RunM (secs : List Sec) (l : List Hld) (b : Mv) (ms : List Mv) (k : List Hld) : Prop where
  inv : HsI k
  len : k.length ≤ l.length + 2 * ms.length
  num : (lastM b ms).num = b.num + ms.length
  day : b.day ≤ (lastM b ms).day
theorem replay_run {secs : List Sec} (hs : ∀ s ∈ secs, 1 ≤ s.id ∧ s.id ≤ 1000 ∧ s.mat ≤ 36000) : ∀ {ms : List Mv} {l : List Hld} {b : Mv} {k : List Hld}, HsI l → replayM secs l b ms = some k → RunM secs l b ms k
  | [], l, b, k, hl, h => by
    simp only [replayM] at h
    injection h with h
    subst h
    exact ⟨hl, by simp, by simp [lastM], Int.le_refl _⟩
  | m :: ms, l, b, k, hl, h => by
    simp only [replayM] at h
    split at h
    · rename_i hc
      obtain ⟨s, hm⟩ := fault_zero (fun s hs' => (hs s hs').2.2) hc.2
      have hl2 := hl.carry (fun s hs' => ⟨(hs s hs').1, (hs s hs').2.1⟩) hm
      have r := replay_run hs hl2 h
      have hlen := carryM_len l m
      have h1 := r.len
      have h2 := r.num
      have h3 := r.day
      have h4 := hm.day0
      exact ⟨r.inv, by simp only [List.length_cons]; omega, by simp only [lastM, List.length_cons]; omega, by simp only [lastM]; omega⟩
    · cases h
/-- A security that is right. -/
def SecR (s : Sec) : Prop := ∃ z r, SecOk s z r
theorem SecR.id {s : Sec} (h : SecR s) : 1 ≤ s.id ∧ s.id ≤ 1000 := by obtain ⟨z, r, k⟩ := h; exact ⟨k.id0, k.id1⟩
theorem SecR.mat {s : Sec} (h : SecR s) : s.mat ≤ 35990 := by obtain ⟨z, r, k⟩ := h; exact k.mat1
theorem SecR.unit {s : Sec} (h : SecR s) : 1 ≤ s.unit ∧ s.unit ≤ 1000000000 := by obtain ⟨z, r, k⟩ := h; exact ⟨k.unit0, k.unit1⟩
theorem SecR.iss {s : Sec} (h : SecR s) : 0 ≤ s.iss ∧ s.iss ≤ 36000 := by obtain ⟨z, r, k⟩ := h; exact ⟨k.iss0, k.iss1⟩
structure SecsOk (secs : List Sec) : Prop where
  ok : ∀ s ∈ secs, SecR s
  asc : secs.Pairwise fun a b => a.id < b.id
  len : secs.length ≤ 20
theorem SecsOk.bound {secs : List Sec} (h : SecsOk secs) : ∀ s ∈ secs, 1 ≤ s.id ∧ s.id ≤ 1000 ∧ s.mat ≤ 36000 := fun s hs => by
  have h1 := (h.ok s hs).id
  have h2 := (h.ok s hs).mat
  omega
structure Reg where
  secs : List Sec
  hs : List Hld
  ms : List Mv
structure RegOk (r : Reg) : Prop where
  secs : SecsOk r.secs
  len : r.ms.length ≤ 400
  run : replayM r.secs [] Mv.zero r.ms = some r.hs
theorem RegOk.runM {r : Reg} (h : RegOk r) : RunM r.secs [] Mv.zero r.ms r.hs := replay_run h.secs.bound hsI_nil h.run
theorem RegOk.hsLen {r : Reg} (h : RegOk r) : r.hs.length ≤ 800 := by
  have h1 := h.runM.len
  have h2 := h.len
  simp at h1
  omega
/-- A register with a move more. -/
def addM (r : Reg) (m : Mv) : Reg := ⟨r.secs, carryM r.hs m, r.ms ++ [m]⟩
theorem RegOk.add {r : Reg} (h : RegOk r) {m : Mv} (hl : r.ms.length < 400) (hn : m.num = (r.ms.length : Int) + 1) (hf : faultM r.secs r.hs (lastM Mv.zero r.ms).day m = 0) : RegOk (addM r m) := by
  refine ⟨h.secs, by unfold addM; simp; omega, ?_⟩
  unfold addM
  simp only
  rw [replayM_snoc, h.run]
  have h1 := h.runM.num
  simp only
  rw [if_pos ⟨by rw [hn, h1]; simp [Mv.zero], hf⟩]
/-- Sums over moves. -/
def effL (i w : Int) : List Mv → Int
  | [] => 0
  | m :: ms => effM m i w + effL i w ms
def issL (i : Int) : List Mv → Int
  | [] => 0
  | m :: ms => issM m i + issL i ms
theorem replay_held {secs : List Sec} (i w : Int) : ∀ {ms : List Mv} {l : List Hld} {b : Mv} {k : List Hld}, replayM secs l b ms = some k → heldM k i w = heldM l i w + effL i w ms
  | [], l, b, k, h => by simp only [replayM] at h; injection h with h; subst h; simp [effL]
  | m :: ms, l, b, k, h => by
    simp only [replayM] at h
    split at h
    · rw [replay_held i w h, heldM_carry, effL]; omega
    · cases h
theorem replay_out {secs : List Sec} (i : Int) : ∀ {ms : List Mv} {l : List Hld} {b : Mv} {k : List Hld}, replayM secs l b ms = some k → outM k i = outM l i + issL i ms
  | [], l, b, k, h => by simp only [replayM] at h; injection h with h; subst h; simp [issL]
  | m :: ms, l, b, k, h => by
    simp only [replayM] at h
    split at h
    · rw [replay_out i h, outM_carry, issL]; omega
    · cases h

end Go.Proofs.Ytblidmkkbcobgaa

/- Registers, as mathematics: bent registers, moving back, whole units; of no function of the program; no condition. -/
namespace Go.Proofs.Ytblidmkkbcobgaa
open Go.RowKit Go.Lib Go.Proofs

theorem effL_set (i w : Int) : ∀ (ms : List Mv) (k : Nat) (h : k < ms.length) (m : Mv), effL i w (ms.set k m) = effL i w ms - effM ms[k] i w + effM m i w
  | [], _, h, _ => by simp at h
  | a :: ms, 0, _, m => by simp [effL]; omega
  | a :: ms, k + 1, h, m => by
    have := effL_set i w ms k (by simpa using h) m
    simp only [List.set_cons_succ, effL, List.getElem_cons_succ]
    omega
/-- Each move of a run is possible somewhere. -/
theorem replay_mem {secs : List Sec} (hs : ∀ s ∈ secs, s.mat ≤ 36000) : ∀ {ms : List Mv} {l : List Hld} {b : Mv} {k : List Hld}, replayM secs l b ms = some k → ∀ m ∈ ms, ∃ l' bd s, MvOk secs l' bd m s
  | [], _, _, _, _, _, hm => by simp at hm
  | a :: ms, l, b, k, h, m, hm => by
    simp only [replayM] at h
    split at h
    · rename_i hc
      rcases List.mem_cons.1 hm with rfl | hm
      · obtain ⟨s, hk⟩ := fault_zero hs hc.2
        exact ⟨l, b.day, s, hk⟩
      · exact replay_mem hs h m hm
    · cases h
/-- A register of which the amount of a move was changed is not right any more. -/
theorem bent_move {r : Reg} (h : RegOk r) (k : Nat) (hk : k < r.ms.length) (d : Int) (hd : d ≠ 0) : replayM r.secs [] Mv.zero (r.ms.set k { r.ms[k] with amt := r.ms[k].amt + d }) ≠ some r.hs := by
  intro hq
  obtain ⟨l', bd, s, hm⟩ := replay_mem (fun s hs => (h.secs.bound s hs).2.2) h.run r.ms[k] (List.getElem_mem hk)
  have h1 := fun i w => replay_held i w hq
  have h2 := fun i w => replay_held i w h.run
  have h3 : ∀ i w, effM { r.ms[k] with amt := r.ms[k].amt + d } i w = effM r.ms[k] i w := fun i w => by
    have e1 := h1 i w
    have e2 := h2 i w
    rw [effL_set i w r.ms k hk] at e1
    omega
  generalize r.ms[k] = m at *
  have hkind := hm.kind
  by_cases k3 : m.kind = 3
  · have := h3 m.sec m.frm
    unfold effM at this
    simp [k3] at this
    omega
  · by_cases k1 : m.kind = 1
    · have := h3 m.sec m.to
      unfold effM at this
      simp [k1] at this
      omega
    · have hne := hm.ne (by omega)
      have := h3 m.sec m.to
      unfold effM at this
      simp [k1, k3, hne] at this
      omega
/-- What is outstanding is in whole units. -/
theorem replay_unit {secs : List Sec} (hs : ∀ s ∈ secs, s.mat ≤ 36000 ∧ 1 ≤ s.unit) {i : Int} {s : Sec} (hf : findS i secs = some s) : ∀ {ms : List Mv} {l : List Hld} {b : Mv} {k : List Hld}, replayM secs l b ms = some k → outM l i % s.unit = 0 → outM k i % s.unit = 0
  | [], l, b, k, h, h0 => by simp only [replayM] at h; injection h with h; subst h; exact h0
  | m :: ms, l, b, k, h, h0 => by
    simp only [replayM] at h
    split at h
    · rename_i hc
      obtain ⟨s', hk⟩ := fault_zero (fun s hs' => (hs s hs').1) hc.2
      refine replay_unit hs hf h ?_
      rw [outM_carry]
      unfold issM
      by_cases hi : m.sec = i
      · have hss : s' = s := by have := hk.sec; rw [hi, hf] at this; injection this with this; exact this.symm
        subst hss
        have hu : m.amt % s'.unit = 0 := by
          have h1 := hk.unit
          rwa [Int.tmod_eq_emod_of_nonneg (by have := hk.amt; omega)] at h1
        rw [if_pos hi]
        have hd1 := Int.dvd_of_emod_eq_zero h0
        have hd2 := Int.dvd_of_emod_eq_zero hu
        apply Int.emod_eq_zero_of_dvd
        split
        · exact Int.dvd_add hd1 hd2
        · split
          · exact Int.dvd_add hd1 (Int.dvd_neg.2 hd2)
          · simpa using hd1
      · rw [if_neg hi]; simpa using h0
    · cases h
/-- A transfer back leads back. -/
def swapM (m : Mv) (n : Int) : Mv := { m with num := n, frm := m.to, «to» := m.frm }
theorem back_fault {r : Reg} (h : RegOk r) {m : Mv} {n : Int} (hk : m.kind = 2) (hf : faultM r.secs r.hs (lastM Mv.zero r.ms).day m = 0) : faultM r.secs (carryM r.hs m) m.day (swapM m n) = 0 := by
  obtain ⟨s, hm⟩ := fault_zero (fun s hs => (h.secs.bound s hs).2.2) hf
  have h1 := hm.amt
  have h2 := hm.frm (by omega)
  have h3 := hm.to (by omega)
  have h4 := hm.ne hk
  have h5 := hm.mat (by omega)
  have h6 := (sumH_bound (p := isAt m.sec m.to) h.runM.inv.ok.ok).1
  unfold faultM
  have e : findS (swapM m n).sec r.secs = some s := hm.sec
  rw [e]
  simp only
  unfold faultS
  have d1 := hm.day1
  have d2 := hm.day2
  have hu := hm.unit
  have hk3 : ¬ (swapM m n).kind = 3 := by show ¬ m.kind = 3; omega
  have hk1 : ¬ (swapM m n).kind = 1 := by show ¬ m.kind = 1; omega
  have he : endsB (swapM m n) = true := by
    unfold endsB
    rw [if_neg hk1, if_pos (show (swapM m n).kind = 2 from hk)]
    exact decide_eq_true ⟨h3.1, h3.2, h2.1, h2.2, fun q => h4 q.symm⟩
  have hh : heldM (carryM r.hs m) m.sec m.to = heldM r.hs m.sec m.to + m.amt := by
    rw [heldM_carry]
    unfold effM
    have n1 : ¬ m.kind = 1 := hk1
    have n3 : ¬ m.kind = 3 := hk3
    simp [n3, h4]
  rw [if_neg hk3]
  rw [if_neg (show ¬ ((swapM m n).day < m.day ∨ (swapM m n).day < s.iss ∨ s.mat < (swapM m n).day) by show ¬ (m.day < m.day ∨ m.day < s.iss ∨ s.mat < m.day); omega)]
  rw [if_neg (show ¬ ((swapM m n).amt < 1 ∨ 1000000000000 < (swapM m n).amt ∨ (swapM m n).amt.tmod s.unit ≠ 0) by show ¬ (m.amt < 1 ∨ 1000000000000 < m.amt ∨ m.amt.tmod s.unit ≠ 0); rw [hu]; omega)]
  rw [he]
  rw [if_neg (show ¬ true = false by simp)]
  rw [if_neg (show ¬ ((swapM m n).kind ≠ 1 ∧ heldM (carryM r.hs m) (swapM m n).sec (swapM m n).frm < (swapM m n).amt) by
    show ¬ (m.kind ≠ 1 ∧ heldM (carryM r.hs m) m.sec m.to < m.amt)
    rw [hh]
    unfold heldM
    omega)]
  rw [if_neg (fun q => hk1 q.1)]
theorem back_same {r : Reg} (h : RegOk r) {m : Mv} {n : Int} (hk : m.kind = 2) (hl : r.ms.length + 1 < 400) (hn : m.num = (r.ms.length : Int) + 1) (hn2 : n = (r.ms.length : Int) + 2) (hf : faultM r.secs r.hs (lastM Mv.zero r.ms).day m = 0) : carryM (carryM r.hs m) (swapM m n) = r.hs := by
  have a1 := h.add (by omega) hn hf
  have hb := back_fault (n := n) h hk hf
  have a2 := RegOk.add a1 (m := swapM m n) (by unfold addM; simp; omega) (by unfold addM; simp [swapM]; omega) (by
    have e : lastM Mv.zero (addM r m).ms = m := lastM_snoc _ _ _
    rw [e]
    exact hb)
  refine hs_ext a2.runM.inv.ok h.runM.inv.ok fun i w => ?_
  show heldM (carryM (carryM r.hs m) (swapM m n)) i w = heldM r.hs i w
  rw [heldM_carry, heldM_carry]
  unfold effM swapM
  have n1 : ¬ m.kind = 1 := by omega
  have n3 : ¬ m.kind = 3 := by omega
  simp only [n1, n3, ne_eq, not_false_eq_true, true_and]
  split <;> split <;> omega

end Go.Proofs.Ytblidmkkbcobgaa

/- Registers, as mathematics: what is outstanding, and the debt, as sums over moves and securities; of no function of the program; no condition. -/
namespace Go.Proofs.Ytblidmkkbcobgaa
open Go.RowKit Go.Lib Go.Proofs

theorem issL_snoc (i : Int) (m : Mv) : ∀ ms : List Mv, issL i (ms ++ [m]) = issL i ms + issM m i
  | [] => by simp [issL]
  | a :: ms => by
    have := issL_snoc i m ms
    simp only [List.cons_append, issL, this]
    omega
theorem issM_bound {m : Mv} (h : 1 ≤ m.amt ∧ m.amt ≤ 1000000000000) (i : Int) : -1000000000000 ≤ issM m i ∧ issM m i ≤ 1000000000000 := by
  unfold issM
  split
  · split
    · omega
    · split <;> omega
  · omega
theorem issL_bound (i : Int) : ∀ {ms : List Mv}, (∀ m ∈ ms, 1 ≤ m.amt ∧ m.amt ≤ 1000000000000) → -1000000000000 * (ms.length : Int) ≤ issL i ms ∧ issL i ms ≤ 1000000000000 * (ms.length : Int)
  | [], _ => by simp [issL]
  | m :: ms, h => by
    have h1 := issM_bound (h m List.mem_cons_self) i
    have h2 := issL_bound i (ms := ms) fun x hx => h x (List.mem_cons_of_mem _ hx)
    simp only [issL, List.length_cons]
    push_cast
    omega
/-- A sum over securities. -/
def sumS (f : Int → Int) : List Sec → Int
  | [] => 0
  | s :: l => f s.id + sumS f l
theorem sumS_snoc (f : Int → Int) (s : Sec) : ∀ l : List Sec, sumS f (l ++ [s]) = sumS f l + f s.id
  | [] => by simp [sumS]
  | a :: l => by
    have := sumS_snoc f s l
    simp only [List.cons_append, sumS, this]
    omega
theorem sumS_add (f g : Int → Int) : ∀ l : List Sec, sumS (fun i => f i + g i) l = sumS f l + sumS g l
  | [] => rfl
  | s :: l => by
    have := sumS_add f g l
    simp only [sumS, this]
    omega
theorem sumS_none {a i : Int} : ∀ {l : List Sec}, (∀ s ∈ l, i ≠ s.id) → sumS (fun j => if i = j then a else 0) l = 0
  | [], _ => rfl
  | s :: l, h => by
    have := sumS_none (a := a) (i := i) (l := l) fun x hx => h x (List.mem_cons_of_mem _ hx)
    simp only [sumS, this, if_neg (h s List.mem_cons_self)]
    omega
theorem sumS_one {a i : Int} {t : Sec} : ∀ {l : List Sec}, l.Pairwise (fun a b => a.id < b.id) → findS i l = some t → sumS (fun j => if i = j then a else 0) l = a
  | [], _, h => by simp [findS] at h
  | s :: l, hp, h => by
    have hp2 := List.pairwise_cons.1 hp
    simp only [findS] at h
    by_cases e : s.id = i
    · have := sumS_none (a := a) (i := i) (l := l) fun x hx => by have := hp2.1 x hx; omega
      simp only [sumS, this, if_pos e.symm]
      omega
    · rw [if_neg e] at h
      have := sumS_one (a := a) hp2.2 h
      simp only [sumS, this, if_neg (show ¬ i = s.id from fun q => e q.symm)]
      omega
theorem debt_out {secs : List Sec} (hs : ∀ s ∈ secs, s.mat ≤ 36000) (ha : secs.Pairwise fun a b => a.id < b.id) : ∀ {ms : List Mv} {l : List Hld} {b : Mv} {k : List Hld}, replayM secs l b ms = some k → debtM l = sumS (outM l) secs → debtM k = sumS (outM k) secs
  | [], l, b, k, h, h0 => by simp only [replayM] at h; injection h with h; subst h; exact h0
  | m :: ms, l, b, k, h, h0 => by
    simp only [replayM] at h
    split at h
    · rename_i hc
      obtain ⟨s, hk⟩ := fault_zero hs hc.2
      refine debt_out hs ha h ?_
      rw [debtM_carry, h0]
      have e : outM (carryM l m) = fun i => outM l i + (if m.sec = i then issM m m.sec else 0) := by
        funext i
        rw [outM_carry]
        congr 1
        by_cases q : m.sec = i
        · rw [if_pos q, q]
        · rw [if_neg q]; unfold issM; rw [if_neg q]
      rw [e, sumS_add, sumS_one ha hk.sec]
    · cases h
theorem sumS_zero : ∀ l : List Sec, sumS (fun _ => 0) l = 0
  | [] => rfl
  | s :: l => by simp [sumS, sumS_zero l]
theorem RegOk.debt {r : Reg} (h : RegOk r) : debtM r.hs = sumS (outM r.hs) r.secs :=
  debt_out (fun s hs => (h.secs.bound s hs).2.2) h.secs.asc h.run (by
    show (0 : Int) = sumS (fun _ => 0) r.secs
    rw [sumS_zero])
theorem RegOk.out {r : Reg} (h : RegOk r) (i : Int) : outM r.hs i = issL i r.ms := by
  have := replay_out i h.run
  rw [this]
  show (0 : Int) + _ = _
  omega
theorem RegOk.amts {r : Reg} (h : RegOk r) : ∀ m ∈ r.ms, 1 ≤ m.amt ∧ m.amt ≤ 1000000000000 := fun m hm => by
  obtain ⟨l', bd, s, hk⟩ := replay_mem (fun s hs => (h.secs.bound s hs).2.2) h.run m hm
  exact hk.amt
theorem findS_at {l : List Sec} (ha : l.Pairwise fun a b => a.id < b.id) {s : Sec} (hs : s ∈ l) : findS s.id l = some s := by
  induction l with
  | nil => cases hs
  | cons a l ih =>
    have hp := List.pairwise_cons.1 ha
    unfold findS
    rcases List.mem_cons.1 hs with rfl | hs
    · rw [if_pos rfl]
    · have := hp.1 s hs
      rw [if_neg (by omega)]
      exact ih hp.2 hs
theorem RegOk.unit {r : Reg} (h : RegOk r) {s : Sec} (hs : s ∈ r.secs) : outM r.hs s.id % s.unit = 0 :=
  replay_unit (fun s hs => ⟨(h.secs.bound s hs).2.2, ((h.secs.ok s hs).unit).1⟩) (findS_at h.secs.asc hs) h.run (by show (0 : Int) % _ = 0; simp)

end Go.Proofs.Ytblidmkkbcobgaa

/- A world within a call that has a treasuryplay source: what Pick, N and Range do to it. -/
namespace Go.Proofs.Ytblidmkkbcobgaa
open Go.RowKit Go.Lib Go.Proofs

/-- A world within a call that has a source at tb: it stands, and only its place has turned of what was there. -/
structure SI (w : World) (tb : Nat) (W : World) : Prop where
  src : SrcAt W tb
  old : w.grownBy W (some tb)
  lt : tb < w.heap.size

theorem si_start {w : World} {tb : Nat} (h : SrcAt w tb) : SI w tb w := ⟨h, ⟨rfl, rfl, rfl, Nat.le_refl _, fun _ _ _ => rfl⟩, h.lt⟩
theorem SI.below {w : World} {tb : Nat} {A B : World} (h : SI w tb A) (hb : Below A.heap.size A B) : SI w tb B :=
  ⟨h.src.below hb, grown_step h.old ⟨hb.os, hb.tape, hb.output, hb.size, fun k hk _ => hb.block k hk⟩, h.lt⟩
theorem SI.alloc {w : World} {tb : Nat} {A : World} (h : SI w tb A) (o : Obj) : SI w tb (A.alloc o) := h.below (below_alloc A o)
theorem SI.drew {w : World} {tb : Nat} {A : World} (h : SI w tb A) : SI w tb A.drew := h.below ((Below.refl _ _).drew)
theorem SI.turn {w : World} {tb : Nat} {A B : World} (h : SI w tb A) (ht : SrcAt B tb) (hg : A.grownBy B (some tb)) : SI w tb B := ⟨ht, grown_step h.old hg, h.lt⟩
theorem SI.set {w : World} {tb : Nat} {A : World} (h : SI w tb A) {b : Nat} (hb : w.heap.size ≤ b) (i : Nat) (v : Value) : SI w tb (A.setCell ⟨b, i, none⟩ v) :=
  ⟨h.src.grown (setCell_grown i v) (fun r hr => by simp at hr; have := h.lt; omega), ⟨h.old.os, h.old.tape, h.old.output, by simpa [World.setCell] using h.old.size, fun k hk hne => (Below.heap_setCell A _ _ k (by show k ≠ b; omega)).trans (h.old.block k hk hne)⟩, h.lt⟩
theorem SI.grown {w : World} {tb : Nat} {A B : World} {row : Option Nat} (h : SI w tb A) (hg : A.grownBy B row) (hr : ∀ r, row = some r → w.heap.size ≤ r) : SI w tb B :=
  ⟨h.src.grown hg (fun r e => by have := hr r e; have := h.lt; omega), ⟨hg.os.trans h.old.os, hg.tape.trans h.old.tape, hg.output.trans h.old.output, Nat.le_trans h.old.size hg.size, fun k hk hne => (hg.block k (Nat.lt_of_lt_of_le hk h.old.size) (fun e => by have := hr k e.symm; omega)).trans (h.old.block k hk hne)⟩, h.lt⟩
theorem obj_turn {A B : World} {tb b : Nat} {o : Obj} (h : A.heap[b]? = some o) (hg : A.grownBy B (some tb)) (hne : b ≠ tb) : B.heap[b]? = some o :=
  (hg.block b (obj_lt h) (by simp; omega)).trans h

theorem cell_set_other (A : World) (b i j : Nat) (v : Value) (h : i ≠ j) : (A.setCell ⟨b, i, none⟩ v).cell? ⟨b, j, none⟩ = A.cell? ⟨b, j, none⟩ := by
  unfold World.cell?
  simp only [World.setCell, Array.getElem?_modify]
  cases hh : A.heap[b]? with
  | none => simp
  | some o => cases o with
    | cells cs T d => simp [h]
    | _ => simp

/-- What Pick hands back within a call. -/
def PickIn (w : World) (tb : Nat) (l : List Int) (W : World) (e : Ending) (w' : World) : Prop := ∃ x : Int, e = .returned (.int .i64 x) ∧ x ∈ l ∧ SI w tb w' ∧ W.grownBy w' (some tb)
theorem pick_in {w : World} {tb : Nat} (cap : Nat) (l : List Int) (cs : Array Value) (T : TypeId) {W : World} (hcs : cs.toList = cellsI l) (h : SI w tb W) (hl : 0 < l.length) (hl1 : l.length ≤ 1000) (m : Nat) (hm : m = l.length) (b : Nat) (hb : b = W.heap.size) :
    Calls Try.prog 24 #[.pointer (some ⟨tb, 0, none⟩), .slice (some ⟨b, 0, none⟩) m cap] (W.alloc (.cells cs T)) (PickIn w tb l (W.alloc (.cells cs T))) := by
  subst hb
  exact (sPick_new tb cap l cs T W hcs h.src hl hl1 m hm).mono fun _ _ ⟨x, h1, h2, h3, h4⟩ => ⟨x, h1, h2, (h.alloc _).turn h3 h4, h4⟩
/-- What N hands back within a call. -/
def NIn (w : World) (tb : Nat) (n : Int) (W : World) (e : Ending) (w' : World) : Prop := ∃ r : Int, e = .returned (.int .i64 r) ∧ 0 ≤ r ∧ r < n ∧ SI w tb w' ∧ W.grownBy w' (some tb)
theorem n_in {w : World} {tb : Nat} {W : World} (h : SI w tb W) (n : Int) (hn : 1 ≤ n) (hn1 : n ≤ 4611686018427387904) : Calls Try.prog 44 #[.pointer (some ⟨tb, 0, none⟩), .int .i64 n] W (NIn w tb n W) :=
  (sN_any tb n W h.src hn hn1).mono fun _ _ ⟨r, h1, h2, h3, h4, h5⟩ => ⟨r, h1, h2, h3, h.turn h4 h5, h5⟩
/-- What Range hands back within a call. -/
def RangeIn (w : World) (tb : Nat) (a b : Int) (W : World) (e : Ending) (w' : World) : Prop := ∃ r : Int, e = .returned (.int .i64 r) ∧ a ≤ r ∧ r ≤ b ∧ SI w tb w' ∧ W.grownBy w' (some tb)
theorem range_in {w : World} {tb : Nat} {W : World} (h : SI w tb W) (a b : Int) (hab : a ≤ b) (ha : -1000000000000000 ≤ a) (hb : b ≤ 1000000000000000) :
    Calls Try.prog 27 #[.pointer (some ⟨tb, 0, none⟩), .int .i64 a, .int .i64 b] W (RangeIn w tb a b W) :=
  (sRange_any tb a b W h.src hab ha hb).mono fun _ _ ⟨r, h1, h2, h3, h4, h5⟩ => ⟨r, h1, h2, h3, h.turn h4 h5, h5⟩

end Go.Proofs.Ytblidmkkbcobgaa

/- Struct results of 7 cells that are stored cell by cell into their place (as Put's of three and six); of no function of the program; no condition. -/
namespace Go.Proofs.Ytblidmkkbcobgaa
open Go.RowKit Go.Lib Go.Proofs

def put7 (W : World) (b : Nat) (v0 v1 v2 v3 v4 v5 v6 : Value) : World := ((((((W.setCell ⟨b, 0, none⟩ v0).setCell ⟨b, 1, none⟩ v1).setCell ⟨b, 2, none⟩ v2).setCell ⟨b, 3, none⟩ v3).setCell ⟨b, 4, none⟩ v4).setCell ⟨b, 5, none⟩ v5).setCell ⟨b, 6, none⟩ v6
theorem put7_at {W : World} {b : Nat} {cs : Array Value} {T : TypeId} (h : W.heap[b]? = some (.cells cs T (0, 0))) (hs : cs.size = 7) (v0 v1 v2 v3 v4 v5 v6 : Value) : (put7 W b v0 v1 v2 v3 v4 v5 v6).heap[b]? = some (.cells #[v0, v1, v2, v3, v4, v5, v6] T (0, 0)) := by
  obtain ⟨l⟩ := cs
  match l, hs with
  | [u0, u1, u2, u3, u4, u5, u6], _ =>
    have := obj_set (obj_set (obj_set (obj_set (obj_set (obj_set (obj_set h 0 v0) 1 v1) 2 v2) 3 v3) 4 v4) 5 v5) 6 v6
    simp only [List.setIfInBounds_toArray, List.set_cons_zero, List.set_cons_succ] at this
    exact this
theorem put7_below {n : Nat} {w W : World} {b : Nat} (h : Below n w W) (hb : n ≤ b) (v0 v1 v2 v3 v4 v5 v6 : Value) : Below n w (put7 W b v0 v1 v2 v3 v4 v5 v6) := by
  unfold put7
  exact ((((((h.setCell (by exact hb) _).setCell (by exact hb) _).setCell (by exact hb) _).setCell (by exact hb) _).setCell (by exact hb) _).setCell (by exact hb) _).setCell (by exact hb) _
theorem ret7 {P : Program} {fn : Func} {R : Ending → World → Prop} {fr : Act} {W : World} {b : Nat} {cs : Array Value} {T : TypeId} {v : Value} (h : W.heap[b]? = some (.cells cs T (0, 0))) (hs : cs.size = 7) (v0 v1 v2 v3 v4 v5 v6 : Value)
    (hr : ∀ F : World, F.heap[b]? = some (.cells #[v0, v1, v2, v3, v4, v5, v6] T (0, 0)) → (results fn fr.tmps).run P F = .ok v F) (hd : fr.defers = []) (hR : R (.returned v) (put7 W b v0 v1 v2 v3 v4 v5 v6)) :
    bodyPost P fn R .ret fr (put7 W b v0 v1 v2 v3 v4 v5 v6) := bodyPost_ret (hr _ (put7_at h hs v0 v1 v2 v3 v4 v5 v6)) hd hR
theorem put7_grown (W : World) (b : Nat) (v0 v1 v2 v3 v4 v5 v6 : Value) : W.grownBy (put7 W b v0 v1 v2 v3 v4 v5 v6) (some b) := by
  unfold put7
  exact grown_step (grown_step (grown_step (grown_step (grown_step (grown_step (setCell_grown _ _) (setCell_grown _ _)) (setCell_grown _ _)) (setCell_grown _ _)) (setCell_grown _ _)) (setCell_grown _ _)) (setCell_grown _ _)
theorem SI.put7 {w : World} {tb : Nat} {A : World} (h : SI w tb A) {b : Nat} (hb : w.heap.size ≤ b) (v0 v1 v2 v3 v4 v5 v6 : Value) : SI w tb (Proofs.Ytblidmkkbcobgaa.put7 A b v0 v1 v2 v3 v4 v5 v6) := by
  unfold Proofs.Ytblidmkkbcobgaa.put7
  exact ((((((h.set hb _ _).set hb _ _).set hb _ _).set hb _ _).set hb _ _).set hb _ _).set hb _ _

end Go.Proofs.Ytblidmkkbcobgaa
