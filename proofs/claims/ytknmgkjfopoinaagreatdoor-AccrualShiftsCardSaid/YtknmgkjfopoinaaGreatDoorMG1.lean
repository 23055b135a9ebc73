/- Texts of one claim, merged: Base, RowC, RowL, LgM, AaM, AcuM, Sfun, SfClm. -/
import Derived.Test.YtknmgkjfopoinaaGreatDoorRows
import Derived.WalkKit
import Derived.WalkSpells
import Derived.WalkLawsBesides
import Derived.Lib.Hide
import Derived.Laws.OwnMore
import Derived.ArgAppend
import Derived.Deep.QuietTactic
import Derived.BigQuiet
import Derived.BigRegion
import Derived.Below
/- Words and laws on memory that every layer uses: slices of int64s, rows of the call's own, ranges as a Bool; of no function of the program; no condition. -/
set_option linter.unusedSimpArgs false
set_option linter.unusedVariables false
namespace Go.Proofs.YtknmgkjfopoinaaGreatDoor
open Go.RowKit Go.Lib Go.Proofs

theorem ret_int {k : IntKind} {a b : Int} (h : a = b) : Ending.returned (.int k a) = .returned (.int k b) := by rw [h]

/-- Go's == on strings, as the walk spells it. -/
theorem strEq_true {a b : ByteArray} (h : a = b) : (a.toList == b.toList) = true := by rw [h, beq_self_eq_true]
theorem strEq_false {a b : ByteArray} (h : a ≠ b) : (a.toList == b.toList) = false := by
  rw [beq_eq_false_iff_ne, ByteArray.toList_eq, ByteArray.toList_eq]
  exact fun e => h (ByteArray.ext (Array.toList_inj.1 e))

/-- n is from lo to hi. -/
def inB (n lo hi : Int) : Bool := decide (lo ≤ n ∧ n ≤ hi)

theorem inB_true {n lo hi : Int} : inB n lo hi = true ↔ lo ≤ n ∧ n ≤ hi := by unfold inB; simp

theorem inB_false {n lo hi : Int} : inB n lo hi = false ↔ ¬ (lo ≤ n ∧ n ≤ hi) := by unfold inB; exact decide_eq_false_iff_not

/-- A list of numbers, as Go's slice of them holds it. -/
def cellsI (l : List Int) : List Value := l.map fun x => .int .i64 x

theorem cellsI_get (l : List Int) (i : Nat) (hi : i < l.length) : (cellsI l)[i]? = some (.int .i64 (l.getD i 0)) := by
  simp [cellsI, List.getD, List.getElem?_eq_getElem hi]

/-- The first k numbers of a list, and zeros behind them. -/
def upTo (l : List Int) (k : Nat) : List Value := cellsI (l.take k) ++ List.replicate (l.length - k) (.int .i64 0)

theorem upTo_zero (l : List Int) : upTo l 0 = List.replicate l.length (.int .i64 0) := by simp [upTo, cellsI]

theorem upTo_full (l : List Int) : upTo l l.length = cellsI l := by simp [upTo]

theorem upTo_get (l : List Int) (k : Nat) (h : k < l.length) : (upTo l k)[k]? = some (.int .i64 0) := by
  unfold upTo cellsI
  have hm : min k l.length = k := Nat.min_eq_left (by omega)
  rw [List.getElem?_append_right (by simp [hm])]
  simp [List.getElem?_replicate, hm]
  omega

theorem upTo_set (l : List Int) (k : Nat) (h : k < l.length) (x : Int) (hx : x = l.getD k 0) : (upTo l k).set k (.int .i64 x) = upTo l (k + 1) := by
  subst hx
  unfold upTo cellsI
  have hm : min k l.length = k := Nat.min_eq_left (by omega)
  rw [List.take_succ_eq_append_getElem h, List.map_append, List.append_assoc, List.set_append_right _ _ (by simp [hm])]
  congr 1
  obtain ⟨q, hq⟩ : ∃ q, l.length - k = q + 1 := ⟨l.length - k - 1, by omega⟩
  rw [hq, show l.length - (k + 1) = q by omega]
  simp [List.replicate_succ, List.getElem?_eq_getElem h, hm]

/-- What is owned stays owned where nothing has turned that was there. -/
theorem ownsRow_below {w w' : World} {base : Nat} {e : TypeId} {size : Nat} {v : Value} {n : Nat} {xs : List Value} (h : w.ownsRow base e size v n xs) (hb : Below w.heap.size w w') : w'.ownsRow base e size v n xs := by
  obtain ⟨h1, h2⟩ := h
  refine ⟨h1, ?_⟩
  rcases h2 with h2 | ⟨g, cap, cur, hv, hg, hh, r⟩
  · exact Or.inl h2
  · have hlt : g < w.heap.size := by
      by_cases hlt : g < w.heap.size
      · exact hlt
      · rw [Array.getElem?_eq_none (by omega)] at hh; cases hh
    exact Or.inr ⟨g, cap, cur, hv, hg, by rw [hb.block g hlt]; exact hh, r⟩

theorem cellsI_set (l : List Int) (i : Nat) (x : Int) : (cellsI l).set i (.int .i64 x) = cellsI (l.set i x) := by simp [cellsI, List.map_set]

/-- The slice v holds the numbers l in the world w. -/
def RowAt (w : World) (v : Value) (l : List Int) : Prop :=
  (l = [] ∧ ∃ ao cap, v = .slice ao 0 cap) ∨ ∃ b o cap, v = .slice (some ⟨b, o, none⟩) l.length cap ∧ b < w.heap.size ∧ ∀ i, i < l.length → w.cell? ⟨b, o + i, none⟩ = some (.int .i64 (l.getD i 0))

theorem RowAt.below {w w' : World} {v : Value} {l : List Int} (h : RowAt w v l) (hb : Below w.heap.size w w') : RowAt w' v l := by
  rcases h with h | ⟨b, o, cap, hv, hlt, hc⟩
  · exact Or.inl h
  · exact Or.inr ⟨b, o, cap, hv, Nat.lt_of_lt_of_le hlt hb.size, fun i hi => by rw [hb.cell (by exact hlt)]; exact hc i hi⟩

/-- An owned row of numbers is a slice that holds them. -/
theorem RowAt.owns {w : World} {base : Nat} {e : TypeId} {v : Value} {n : Nat} {l : List Int} (h : w.ownsRow base e 1 v n (cellsI l)) : RowAt w v l := by
  have hl : l.length = n := by have := h.1; simpa [cellsI] using this
  rcases h.2 with ⟨hv, h0⟩ | ⟨g, cap, cur, hv, hg, hh, r⟩
  · exact Or.inl ⟨List.length_eq_zero_iff.1 (by omega), none, 0, by rw [hv]⟩
  · refine Or.inr ⟨g, 0, cap, by rw [hv, hl], ?_, fun i hi => ?_⟩
    · by_cases hlt : g < w.heap.size
      · exact hlt
      · rw [Array.getElem?_eq_none (by omega)] at hh; cases hh
    · subst hv
      rw [Nat.zero_add, h.cellAt i (by omega), cellsI_get l i hi]

theorem getD_eq {l : List Int} {i : Nat} (h : i < l.length) : l.getD i 0 = l[i] := by simp [List.getD, List.getElem?_eq_getElem h]

theorem list_eq_of {a b : List Int} (hl : a.length = b.length) (h : ∀ i, i < a.length → a.getD i 0 = b.getD i 0) : a = b := by
  apply List.ext_getElem hl
  intro i h1 h2
  have := h i h1
  rwa [getD_eq h1, getD_eq h2] at this

theorem Tryz.infoInt : (Tryz.prog.info? 3).map (fun i => (i.zero, i.size, i.bytes)) = some (some (.int .i64 0), 1, 8) := by kernel_rfl

theorem ownsRow_mono {w : World} {base base' : Nat} {e : TypeId} {size : Nat} {v : Value} {n : Nat} {xs : List Value} (h : w.ownsRow base e size v n xs) (hb : base' ≤ base) : w.ownsRow base' e size v n xs := by
  obtain ⟨h1, h2⟩ := h
  refine ⟨h1, ?_⟩
  rcases h2 with h2 | ⟨g, cap, cur, hv, hg, r⟩
  · exact Or.inl h2
  · exact Or.inr ⟨g, cap, cur, hv, by omega, r⟩

theorem owns_shape {w : World} {base : Nat} {e : TypeId} {size : Nat} {v : Value} {n : Nat} {xs : List Value} (h : w.ownsRow base e size v n xs) (hn : 0 < n) : ∃ g cap, v = .slice (some ⟨g, 0, none⟩) n cap ∧ base ≤ g ∧ n ≤ cap := by
  rcases h.2 with ⟨_, h0⟩ | ⟨g, cap, cur, hv, hg, hh, hnc, _⟩
  · omega
  · exact ⟨g, cap, hv, hg, hnc⟩

theorem cellsI_snoc (l : List Int) (x : Int) : cellsI l ++ [.int .i64 x] = cellsI (l ++ [x]) := by simp [cellsI]

theorem ownBlock_le {w : World} {base : Nat} {e : TypeId} {size : Nat} {v : Value} {n : Nat} {xs : List Value} (h : w.ownsRow base e size v n xs) (r : Nat) (hr : v.ownBlock = some r) : base ≤ r := (h.lt r hr).1

theorem ownBlock_ne {w : World} {base : Nat} {e : TypeId} {size : Nat} {v : Value} {n : Nat} {xs : List Value} (h : w.ownsRow base e size v n xs) (r : Nat) (hr : r < base) : v.ownBlock = none ∨ v.ownBlock ≠ some r :=
  Or.inr fun he => by have := ownBlock_le h r he; omega

/-- One value in a new block: what an append of one element asks. -/
theorem one_new (w : World) (x : Value) (T : TypeId) (b : Nat) (hb : b = w.heap.size) : ∀ j u, [x][j]? = some u → (w.alloc (.cells #[x] T)).cell? ((⟨b, 0, none⟩ : Addr).add j) = some u := by
  subst hb
  intro j u hj
  match j, hj with
  | 0, hj => simp at hj; subst hj; simp [Addr.add]

theorem one_int (k : IntKind) (x : Int) : ∀ u ∈ [Value.int k x], u.oneCell' = true := by
  intro u hu; simp at hu; subst hu; rfl

theorem owns_gen {w : World} {base : Nat} {e : TypeId} {size : Nat} {v : Value} {n : Nat} {xs : List Value} (h : w.ownsRow base e size v n xs) : ∃ ao cap, v = .slice ao n cap ∧ n ≤ cap ∧ ((ao = none ∧ n = 0 ∧ cap = 0) ∨ ∃ g, ao = some ⟨g, 0, none⟩ ∧ base ≤ g) := by
  rcases h.2 with ⟨hv, h0⟩ | ⟨g, cap, cur, hv, hg, hh, hnc, _⟩
  · exact ⟨none, 0, by rw [hv, h0], by omega, Or.inl ⟨rfl, h0, rfl⟩⟩
  · exact ⟨some ⟨g, 0, none⟩, cap, hv, hnc, Or.inr ⟨g, rfl, hg⟩⟩

theorem rowAt_take {w : World} {g n cap k : Nat} {l : List Int} (h : RowAt w (.slice (some ⟨g, 0, none⟩) n cap) l) (hl : l.length = n) (hk : k ≤ n) : RowAt w (.slice (some ⟨g, 0, none⟩) k cap) (l.take k) := by
  have hlk : (l.take k).length = k := by simp; omega
  rcases h with ⟨rfl, ao, c, hv⟩ | ⟨b, o, c, hv, hlt, hc⟩
  · have : k = 0 := by simp at hl; omega
    subst this
    exact Or.inl ⟨rfl, _, _, rfl⟩
  · simp only [Value.slice.injEq, Option.some.injEq, Addr.mk.injEq, and_true] at hv
    obtain ⟨⟨rfl, rfl⟩, _, rfl⟩ := hv
    refine Or.inr ⟨g, 0, cap, by rw [hlk], hlt, fun i hi => ?_⟩
    rw [hc i (by omega)]
    have hik : i < k := by omega
    simp [List.getD, hik]

theorem rowAt_drop {w : World} {g n cap k c' : Nat} {l : List Int} (h : RowAt w (.slice (some ⟨g, 0, none⟩) n cap) l) (hl : l.length = n) (hk : k ≤ n) : RowAt w (.slice (some ⟨g, k, none⟩) (n - k) c') (l.drop k) := by
  have hlk : (l.drop k).length = n - k := by simp; omega
  rcases h with ⟨rfl, ao, c, hv⟩ | ⟨b, o, c, hv, hlt, hc⟩
  · have : n = 0 := by simp at hl; omega
    subst this
    exact Or.inl ⟨by simp, _, _, by simp; exact ⟨rfl, rfl⟩⟩
  · simp only [Value.slice.injEq, Option.some.injEq, Addr.mk.injEq, and_true] at hv
    obtain ⟨⟨rfl, rfl⟩, _, rfl⟩ := hv
    refine Or.inr ⟨g, k, c', by rw [hlk], hlt, fun i hi => ?_⟩
    have := hc (k + i) (by omega)
    rw [Nat.zero_add] at this
    rw [this]
    simp [List.getD, List.getElem?_drop]

theorem rowAt_nil (w : World) (ao : Option Addr) (cap : Nat) : RowAt w (.slice ao 0 cap) [] := Or.inl ⟨rfl, ao, cap, rfl⟩

/-- A slice of three numbers in a block of its own. -/
theorem rowAt_three (w : World) (b cap : Nat) (x y z : Int) (hb : b < w.heap.size) (h0 : w.cell? ⟨b, 0, none⟩ = some (.int .i64 x)) (h1 : w.cell? ⟨b, 1, none⟩ = some (.int .i64 y)) (h2 : w.cell? ⟨b, 2, none⟩ = some (.int .i64 z)) :
    RowAt w (.slice (some ⟨b, 0, none⟩) 3 cap) [x, y, z] := by
  refine Or.inr ⟨b, 0, cap, rfl, hb, fun i hi => ?_⟩
  have : i = 0 ∨ i = 1 ∨ i = 2 := by simp at hi; omega
  rcases this with rfl | rfl | rfl
  · exact h0
  · exact h1
  · exact h2

theorem rowAt_new (w : World) (T : TypeId) (b cap : Nat) (x y z : Int) (hb : b = w.heap.size) : RowAt (w.alloc (.cells #[.int .i64 x, .int .i64 y, .int .i64 z] T)) (.slice (some ⟨b, 0, none⟩) 3 cap) [x, y, z] := by
  subst hb
  exact rowAt_three _ _ _ _ _ _ (by simp) (by simp) (by simp) (by simp)

theorem RowAt.drewN {w : World} {v : Value} {l : List Int} (h : RowAt w v l) (q : Nat) : RowAt (w.drewN q) v l := h

theorem below_alloc (w : World) (o : Obj) : Below w.heap.size w (w.alloc o) := (Below.refl _ _).alloc (Nat.le_refl _) o

theorem below_drewN {B : Nat} {w w' : World} (h : Below B w w') (q : Nat) : Below B w (w'.drewN q) := ⟨h.os, h.tape, h.output, h.size, h.block⟩

theorem grownBy_row {a b : World} {r : Option Nat} (h : a.grownBy b none) : a.grownBy b r := ⟨h.os, h.tape, h.output, h.size, fun k hk _ => h.block k hk (by simp)⟩

/-- Where a slice lies behind an append: where it lay, or in a new block. -/
def Moved (w : World) (v v' : Value) : Prop := v'.ownBlock = v.ownBlock ∨ ∀ g, v'.ownBlock = some g → w.heap.size ≤ g

theorem wpList_append_moved {P : Program} (w : World) {ops : Array Oper} {rest : List Oper} {o : Oper} {a : Act} {Q : Exit → Act → World → Prop}
    (hgd : o.guard = none) (s x : Operand) (t : TypeId) (hop : o.op = Op.call { callee := Callee.builtin Builtin.append, args := #[s, x], argTypes := #[t, t] })
    (base : Nat) (e : TypeId) (i : TypeInfo) (z : Value) (size bytes : Nat) (h1 : P.underlying t = some (.slice e)) (h2 : P.info? e = some i) (h3 : i.zero = some z) (h4 : i.size = size) (h5 : i.bytes = bytes) (h6 : z.cells.size = size) (h7 : 0 < size)
    (v : Value) (n : Nat) (xs : List Value) (hs : a.eval s = v) (hown : w.ownsRow base e size v n xs)
    (ad : Addr) (m c : Nat) (news : List Value) (hx : a.eval x = .slice (some ad) m c) (hn : news.length = m * size) (hc : ∀ j u, news[j]? = some u → w.cell? (ad.add j) = some u) (h1c : ∀ u ∈ news, u.oneCell' = true) (hm : 0 < m)
    (b1 : n + m ≤ maxLen) (b2 : (n + m) * bytes ≤ 140737488355328) (hbase : base ≤ w.heap.size)
    (hK : ∀ v' w', w'.ownsRow base e size v' (n + m) (xs ++ news) → w.grownBy w' v.ownBlock → Moved w v v' → wpList P ops Q rest (a.put o.dst v') w') :
    wpList P ops Q (o :: rest) a w := by
  have hown0 := hown
  rcases hown.2 with ⟨rfl, rfl⟩ | ⟨g, cap, cur, rfl, hg, hh, hnc, hcm, hcs, htk⟩
  · have hx0 : xs = [] := by have := hown.1; simpa using this
    subst hx0
    refine wpList_append_grows w hgd s x t hop e i z size bytes h1 h2 h3 h4 h5 h6 h7 none 0 0 [] hs (fun _ => ⟨rfl, rfl⟩) (by simp) (by simp) ad m c news hx hn hc h1c (by omega) b1 b2 fun v' w' ho hgr => ?_
    exact hK v' w' (ownsRow_mono ho hbase) (grownBy_row hgr) (Or.inr fun g hg => (ho.lt g hg).1)
  · by_cases hfit : n + m ≤ cap
    · refine wpList_append_fits w hgd s x t hop base e i size h1 h2 h4 g n cap xs hs hown0 ad m c news hx hn hc h1c hfit fun w' ho hgr => ?_
      exact hK _ w' ho hgr (Or.inl rfl)
    · refine wpList_append_grows w hgd s x t hop e i z size bytes h1 h2 h3 h4 h5 h6 h7 (some ⟨g, 0, none⟩) n cap xs hs (by simp) hown0.1 (fun b hb j u hj => by cases hb; exact hown0.cells rfl j u hj) ad m c news hx hn hc h1c (by omega) b1 b2 fun v' w' ho hgr => ?_
      exact hK v' w' (ownsRow_mono ho hbase) (grownBy_row hgr) (Or.inr fun g' hg' => (ho.lt g' hg').1)

end Go.Proofs.YtknmgkjfopoinaaGreatDoor

/- Rows of elements of one cell or more that lie in memory; of no function of the program; no condition. -/
namespace Go.Proofs.YtknmgkjfopoinaaGreatDoor
open Go.RowKit Go.Lib Go.Proofs

/-- v is a slice of n elements of some cells each, and these hold xs. -/
def RowG (w : World) (v : Value) (n size : Nat) (xs : List Value) : Prop :=
  xs.length = n * size ∧ ∃ ao cap, v = .slice ao n cap ∧ n ≤ cap ∧ (n = 0 ∨ ∃ b o, ao = some ⟨b, o, none⟩ ∧ b < w.heap.size ∧ ∀ j, j < n * size → w.cell? ⟨b, o + j, none⟩ = xs[j]?)

theorem RowG.below {w w' : World} {v : Value} {n size : Nat} {xs : List Value} (h : RowG w v n size xs) (hb : Below w.heap.size w w') : RowG w' v n size xs := by
  obtain ⟨h0, ao, cap, h1, h2, h3⟩ := h
  refine ⟨h0, ao, cap, h1, h2, ?_⟩
  rcases h3 with h3 | ⟨b, o, h4, h5, h6⟩
  · exact Or.inl h3
  · exact Or.inr ⟨b, o, h4, Nat.lt_of_lt_of_le h5 hb.size, fun j hj => by rw [hb.cell (by exact h5)]; exact h6 j hj⟩

theorem RowG.owns {w : World} {base size n : Nat} {e : TypeId} {v : Value} {xs : List Value} (h : w.ownsRow base e size v n xs) : RowG w v n size xs := by
  refine ⟨h.1, ?_⟩
  rcases h.2 with ⟨hv, h0⟩ | ⟨g, cap, cur, hv, hg, hh, hnc, _⟩
  · exact ⟨none, 0, by rw [hv, h0], by omega, Or.inl h0⟩
  · refine ⟨some ⟨g, 0, none⟩, cap, hv, hnc, Or.inr ⟨g, 0, rfl, ?_, fun j hj => ?_⟩⟩
    · by_cases hlt : g < w.heap.size
      · exact hlt
      · rw [Array.getElem?_eq_none (by omega)] at hh; cases hh
    · subst hv
      rw [Nat.zero_add, h.cellAt j hj]

theorem grownBy_below {A B : World} {row : Option Nat} (h : Below A.heap.size A B) : A.grownBy B row := ⟨h.os, h.tape, h.output, h.size, fun k hk _ => h.block k hk⟩
theorem grownBy_trans {a b c : World} {row : Option Nat} (h : a.grownBy b row) (k : b.grownBy c row) : a.grownBy c row :=
  ⟨k.os.trans h.os, k.tape.trans h.tape, k.output.trans h.output, Nat.le_trans h.size k.size, fun i hi hne => (k.block i (Nat.lt_of_lt_of_le hi h.size) hne).trans (h.block i hi hne)⟩
theorem grownBy_refl (a : World) (row : Option Nat) : a.grownBy a row := ⟨rfl, rfl, rfl, Nat.le_refl _, fun _ _ _ => rfl⟩
theorem below_grownBy {A B : World} (h : A.grownBy B none) : Below A.heap.size A B := ⟨h.os, h.tape, h.output, h.size, fun k hk => h.block k hk (by simp)⟩

end Go.Proofs.YtknmgkjfopoinaaGreatDoor

/- Slices of structs in memory, for any struct of m one-cell fields: what stands at each place, own rows that grow by one; of no function of the program; no condition. -/
namespace Go.Proofs.YtknmgkjfopoinaaGreatDoor
open Go.RowKit Go.Lib Go.Proofs

/-- A struct's fields as cells: m of them, each of one cell. -/
structure Fields {α : Type} (f : α → List Value) (m : Nat) : Prop where
  len : ∀ x, (f x).length = m
  one : ∀ x, ∀ u ∈ f x, u.oneCell' = true
  pos : 0 < m

def cellsL {α : Type} (f : α → List Value) : List α → List Value
  | [] => []
  | x :: l => f x ++ cellsL f l

theorem cellsL_len {α : Type} {f : α → List Value} {m : Nat} (hf : Fields f m) : ∀ l : List α, (cellsL f l).length = l.length * m
  | [] => by simp [cellsL]
  | x :: l => by simp only [cellsL, List.length_append, hf.len, cellsL_len hf l, List.length_cons, Nat.add_mul]; omega
theorem cellsL_app {α : Type} (f : α → List Value) : ∀ l k : List α, cellsL f (l ++ k) = cellsL f l ++ cellsL f k
  | [], _ => rfl
  | x :: l, k => by simp only [List.cons_append, cellsL, cellsL_app f l k, List.append_assoc]
theorem cellsL_snoc {α : Type} (f : α → List Value) (l : List α) (x : α) : cellsL f l ++ f x = cellsL f (l ++ [x]) := by
  rw [cellsL_app]; simp [cellsL]
theorem cellsL_one {α : Type} {f : α → List Value} {m : Nat} (hf : Fields f m) : ∀ l : List α, ∀ u ∈ cellsL f l, u.oneCell' = true
  | [], u, h => by simp [cellsL] at h
  | x :: l, u, h => by
    simp only [cellsL, List.mem_append] at h
    rcases h with h | h
    · exact hf.one x u h
    · exact cellsL_one hf l u h
theorem cellsL_get {α : Type} {f : α → List Value} {m : Nat} (hf : Fields f m) : ∀ (l : List α) (i j : Nat) (h : i < l.length), j < m → (cellsL f l)[i * m + j]? = (f l[i])[j]?
  | [], _, _, h, _ => by simp at h
  | x :: l, 0, j, _, hj => by
    rw [Nat.zero_mul, Nat.zero_add]
    exact List.getElem?_append_left (by rw [hf.len]; exact hj)
  | x :: l, i + 1, j, h, hj => by
    have ih := cellsL_get hf l i j (by simpa using h) hj
    rw [show (i + 1) * m + j = (f x).length + (i * m + j) by rw [hf.len, Nat.add_mul]; omega]
    show (f x ++ cellsL f l)[(f x).length + (i * m + j)]? = _
    rw [List.getElem?_append_right (by omega), Nat.add_sub_cancel_left, ih]
    rfl

/-- A slice of structs, wherever it lies. -/
def ListAt {α : Type} (f : α → List Value) (m : Nat) (w : World) (v : Value) (l : List α) : Prop := RowG w v l.length m (cellsL f l)
theorem ListAt.below {α : Type} {f : α → List Value} {m : Nat} {w w' : World} {v : Value} {l : List α} (h : ListAt f m w v l) (hb : Below w.heap.size w w') : ListAt f m w' v l := RowG.below h hb
theorem ListAt.owns {α : Type} {f : α → List Value} {m : Nat} {w : World} {base : Nat} {e : TypeId} {v : Value} {l : List α} (h : w.ownsRow base e m v l.length (cellsL f l)) : ListAt f m w v l := RowG.owns h

/-- A slice of structs, laid open: its parts, and what stands at each place. -/
theorem ListAt.shape {α : Type} {f : α → List Value} {m : Nat} (hf : Fields f m) {w : World} {v : Value} {l : List α} (h : ListAt f m w v l) :
    ∃ ao cap, v = .slice ao l.length cap ∧ l.length ≤ cap ∧ (0 < l.length → ∃ b o, ao = some ⟨b, o, none⟩ ∧ b < w.heap.size ∧ ∀ i (hi : i < l.length), ∀ j, j < m → w.cell? ⟨b, o + i * m + j, none⟩ = (f l[i])[j]?) := by
  obtain ⟨_, ao, cap, rfl, hcap, hc⟩ := h
  refine ⟨ao, cap, rfl, hcap, fun hpos => ?_⟩
  rcases hc with hc | ⟨b, o, rfl, hb, hc⟩
  · omega
  · refine ⟨b, o, rfl, hb, fun i hi j hj => ?_⟩
    have hlt : i * m + j < l.length * m := by
      have : (i + 1) * m ≤ l.length * m := Nat.mul_le_mul_right m hi
      rw [Nat.add_mul] at this
      omega
    rw [Nat.add_assoc, hc _ hlt]
    exact cellsL_get hf l i j hi hj

theorem nil_listAt {α : Type} (f : α → List Value) (m : Nat) (w : World) (ao : Option Addr) (cap : Nat) : ListAt f m w (.slice ao 0 cap) [] := ⟨by simp [cellsL], ao, cap, rfl, Nat.zero_le _, Or.inl rfl⟩

/-- What stands in a new block: what an append of one struct asks. -/
theorem new_cells (w : World) (cs : Array Value) (T : TypeId) (b : Nat) (hb : b = w.heap.size) : ∀ j u, cs.toList[j]? = some u → (w.alloc (.cells cs T)).cell? ((⟨b, 0, none⟩ : Addr).add j) = some u := by
  subst hb
  intro j u hj
  have h1 : (w.alloc (.cells cs T)).heap[w.heap.size]? = some (.cells cs T) := heap_alloc_new w _
  have he : (⟨w.heap.size, 0, none⟩ : Addr).add j = ⟨w.heap.size, j, none⟩ := by unfold Addr.add; split <;> simp_all
  rw [he, cell_of_row _ _ j cs T (0, 0) h1, ← hj, Array.getElem?_toList]

theorem getD_map_len {α : Type} (l : List α) (x : α) : (l ++ [x]).length = l.length + 1 := by simp

end Go.Proofs.YtknmgkjfopoinaaGreatDoor

/- Books, as mathematics: right ledgers, what postings make of an account; of no function of the program; no condition. -/
namespace Go.Proofs.YtknmgkjfopoinaaGreatDoor
open Go.RowKit Go.Lib Go.Proofs

structure Pst where
  num : Int
  day : Int
  ent : Int
  deb : Int
  crd : Int
  amt : Int
  par : Int
  ref : Int
def Pst.zero : Pst := ⟨0, 0, 0, 0, 0, 0, 0, 0⟩
def pstC (p : Pst) : List Value := [.int .i64 p.num, .int .i64 p.day, .int .i64 p.ent, .int .i64 p.deb, .int .i64 p.crd, .int .i64 p.amt, .int .i64 p.par, .int .i64 p.ref]
theorem pstF : Fields pstC 8 := ⟨fun _ => rfl, fun _ u hu => by simp only [pstC, List.mem_cons, List.mem_nil_iff, or_false] at hu; rcases hu with rfl | rfl | rfl | rfl | rfl | rfl | rfl | rfl <;> rfl, by decide⟩
def pstAt (l : List Pst) (i : Nat) : Pst := l.getD i Pst.zero
theorem pstAt_get {l : List Pst} {i : Nat} (h : i < l.length) : pstAt l i = l[i] := by simp [pstAt, List.getD, List.getElem?_eq_getElem h]
abbrev PstsAt (w : World) (v : Value) (l : List Pst) : Prop := ListAt pstC 8 w v l
theorem PstsAt.open {w : World} {v : Value} {l : List Pst} (h : PstsAt w v l) : ∃ ao cap, v = .slice ao l.length cap ∧ l.length ≤ cap ∧ (0 < l.length → ∃ b o, ao = some ⟨b, o, none⟩ ∧ b < w.heap.size ∧ ∀ i, i < l.length → ∀ j, j < 8 → w.cell? ⟨b, o + i * 8 + j, none⟩ = (pstC (pstAt l i))[j]?) := by
  obtain ⟨ao, cap, h1, h2, h3⟩ := ListAt.shape pstF h
  refine ⟨ao, cap, h1, h2, fun hp => ?_⟩
  obtain ⟨b, o, h4, h5, h6⟩ := h3 hp
  exact ⟨b, o, h4, h5, fun i hi j hj => by rw [pstAt_get hi]; exact h6 i hi j hj⟩

def classM (a : Int) : Int := if 100 ≤ a ∧ a ≤ 599 then a / 100 else 0
/-- A valid posting. -/
structure PstOk (p : Pst) : Prop where
  num : 1 ≤ p.num ∧ p.num ≤ 1000000
  day : 0 ≤ p.day ∧ p.day ≤ 36000
  ent : 1 ≤ p.ent ∧ p.ent ≤ 10
  deb : 100 ≤ p.deb ∧ p.deb ≤ 599
  crd : 100 ≤ p.crd ∧ p.crd ≤ 599
  ne : p.deb ≠ p.crd
  amt : 1 ≤ p.amt ∧ p.amt ≤ 1000000000000
  par : 0 ≤ p.par ∧ p.par ≤ 10
  pne : p.par ≠ p.ent
  ref : 0 ≤ p.ref ∧ p.ref ≤ 1000000
def lastP (l : List Pst) : Pst := l.getLast?.getD Pst.zero
theorem lastP_snoc (l : List Pst) (p : Pst) : lastP (l ++ [p]) = p := by simp [lastP]
theorem lastP_at {l : List Pst} {m : Nat} (h : l.length = m + 1) : lastP l = pstAt l m := by
  unfold lastP pstAt
  rw [List.getLast?_eq_getElem?, h, Nat.add_sub_cancel, List.getD_eq_getElem?_getD]
/-- A right ledger. -/
structure LdgOk (l : List Pst) : Prop where
  len : l.length ≤ 400
  ok : ∀ i, i < l.length → PstOk (pstAt l i)
  num : ∀ i, i < l.length → (pstAt l i).num = (i : Int) + 1
  asc : ∀ i, i + 1 < l.length → (pstAt l i).day ≤ (pstAt l (i + 1)).day
theorem ldgOk_nil : LdgOk [] := ⟨by simp, fun i h => by simp at h, fun i h => by simp at h, fun i h => by simp at h⟩
theorem pstAt_app_lt {l : List Pst} {p : Pst} {i : Nat} (h : i < l.length) : pstAt (l ++ [p]) i = pstAt l i := by
  rw [pstAt_get (by simp; omega), pstAt_get h, List.getElem_append_left h]
theorem pstAt_app_eq {l : List Pst} {p : Pst} : pstAt (l ++ [p]) l.length = p := by
  rw [pstAt_get (by simp)]; simp
theorem LdgOk.last {l : List Pst} (h : LdgOk l) : (lastP l).num = l.length ∧ 0 ≤ (lastP l).day := by
  cases hl : l.length with
  | zero =>
    obtain rfl := List.length_eq_zero_iff.1 hl
    exact ⟨rfl, Int.le_refl _⟩
  | succ m =>
    rw [lastP_at hl, h.num m (by omega)]
    exact ⟨by simp, (h.ok m (by omega)).day.1⟩
theorem LdgOk.snoc {l : List Pst} {p : Pst} (h : LdgOk l) (hl : l.length < 400) (hp : PstOk p) (hn : p.num = (l.length : Int) + 1) (hd : (lastP l).day ≤ p.day) : LdgOk (l ++ [p]) := by
  refine ⟨by simp; omega, fun i hi => ?_, fun i hi => ?_, fun i hi => ?_⟩
  · simp at hi
    by_cases hi2 : i < l.length
    · rw [pstAt_app_lt hi2]; exact h.ok i hi2
    · obtain rfl : i = l.length := by omega
      rw [pstAt_app_eq]; exact hp
  · simp at hi
    by_cases hi2 : i < l.length
    · rw [pstAt_app_lt hi2]; exact h.num i hi2
    · obtain rfl : i = l.length := by omega
      rw [pstAt_app_eq]; exact hn
  · simp at hi
    by_cases hi2 : i + 1 < l.length
    · rw [pstAt_app_lt hi2, pstAt_app_lt (by omega)]; exact h.asc i hi2
    · obtain hlm : l.length = i + 1 := by omega
      rw [pstAt_app_lt (by omega), ← hlm, pstAt_app_eq, ← lastP_at hlm]
      exact hd

/-- Whether a posting counts for an entity (0: all). -/
def hitE (e : Int) (p : Pst) : Bool := decide (e = 0) || decide (p.ent = e)
/-- What one posting makes of an account. -/
def netP (a : Int) (p : Pst) : Int := (if a = p.deb then p.amt else 0) - (if a = p.crd then p.amt else 0)
/-- What postings make of an account of an entity, those on days that are wanted. -/
def ofM (e : Int) (f : Int → Bool) (a : Int) : List Pst → Int
  | [] => 0
  | p :: l => (if hitE e p && f p.day then netP a p else 0) + ofM e f a l
theorem ofM_snoc (e : Int) (f : Int → Bool) (a : Int) (p : Pst) : ∀ l : List Pst, ofM e f a (l ++ [p]) = ofM e f a l + (if hitE e p && f p.day then netP a p else 0)
  | [] => by simp [ofM]
  | q :: l => by simp only [List.cons_append, ofM, ofM_snoc e f a p l]; omega
/-- The accounts that were touched. -/
def touchM (e : Int) (f : Int → Bool) (a : Int) : List Pst → Bool
  | [] => false
  | p :: l => (hitE e p && f p.day && (decide (a = p.deb) || decide (a = p.crd))) || touchM e f a l
theorem touchM_snoc (e : Int) (f : Int → Bool) (a : Int) (p : Pst) : ∀ l : List Pst, touchM e f a (l ++ [p]) = (touchM e f a l || (hitE e p && f p.day && (decide (a = p.deb) || decide (a = p.crd))))
  | [] => by simp [touchM]
  | q :: l => by simp only [List.cons_append, touchM, touchM_snoc e f a p l, Bool.or_assoc]
theorem touchM_range {e : Int} {f : Int → Bool} {a : Int} : ∀ {l : List Pst}, (∀ p ∈ l, PstOk p) → touchM e f a l = true → 100 ≤ a ∧ a ≤ 599
  | [], _, h => by cases h
  | p :: l, hp, h => by
    simp only [touchM, Bool.or_eq_true, Bool.and_eq_true, decide_eq_true_eq] at h
    have h0 := hp p List.mem_cons_self
    rcases h with ⟨_, h | h⟩ | h
    · rw [h]; exact h0.deb
    · rw [h]; exact h0.crd
    · exact touchM_range (fun q hq => hp q (List.mem_cons_of_mem _ hq)) h
theorem ofM_untouched {e : Int} {f : Int → Bool} {a : Int} : ∀ {l : List Pst}, touchM e f a l = false → ofM e f a l = 0
  | [], _ => rfl
  | p :: l, h => by
    simp only [touchM, Bool.or_eq_false_iff] at h
    rw [ofM, ofM_untouched h.2]
    by_cases hh : (hitE e p && f p.day) = true
    · rw [if_pos hh]
      have h1 := h.1
      rw [hh] at h1
      simp only [Bool.true_and, Bool.or_eq_false_iff, decide_eq_false_iff_not] at h1
      unfold netP
      rw [if_neg h1.1, if_neg h1.2]
      omega
    · rw [if_neg hh]; rfl
theorem netP_bound {a : Int} {p : Pst} (h : PstOk p) : -1000000000000 ≤ netP a p ∧ netP a p ≤ 1000000000000 := by
  have := h.amt
  unfold netP
  constructor <;> (repeat' split) <;> omega
theorem ofM_bound {e : Int} {f : Int → Bool} {a : Int} : ∀ {l : List Pst}, (∀ p ∈ l, PstOk p) → -1000000000000 * (l.length : Int) ≤ ofM e f a l ∧ ofM e f a l ≤ 1000000000000 * (l.length : Int)
  | [], _ => by simp [ofM]
  | p :: l, hp => by
    have h1 := ofM_bound (e := e) (f := f) (a := a) (l := l) fun q hq => hp q (List.mem_cons_of_mem _ hq)
    have h2 := netP_bound (a := a) (hp p List.mem_cons_self)
    simp only [ofM, List.length_cons]
    split <;> constructor <;> omega
theorem LdgOk.mem {l : List Pst} (h : LdgOk l) : ∀ p ∈ l, PstOk p := fun p hp => by
  obtain ⟨i, hi, rfl⟩ := List.getElem_of_mem hp
  rw [← pstAt_get hi]
  exact h.ok i hi

/-! ### Sums over accounts -/
def sumZ (q : Int → Bool) (g : Int → Int) : Nat → Int
  | 0 => 0
  | n + 1 => sumZ q g n + (if q (100 + (n : Int)) then g (100 + (n : Int)) else 0)
theorem sumZ_none {q : Int → Bool} {g : Int → Int} : ∀ {n : Nat}, (∀ i : Nat, i < n → q (100 + (i : Int)) = false) → sumZ q g n = 0
  | 0, _ => rfl
  | n + 1, h => by rw [sumZ, sumZ_none (n := n) fun i hi => h i (by omega), h n (by omega)]; rfl
theorem sumZ_congr {q r : Int → Bool} {g h : Int → Int} : ∀ {n : Nat}, (∀ i : Nat, i < n → (if q (100 + (i : Int)) then g (100 + (i : Int)) else 0) = (if r (100 + (i : Int)) then h (100 + (i : Int)) else 0)) → sumZ q g n = sumZ r h n
  | 0, _ => rfl
  | n + 1, hh => by rw [sumZ, sumZ, sumZ_congr (n := n) fun i hi => hh i (by omega), hh n (by omega)]
theorem sumZ_add (q : Int → Bool) (g h : Int → Int) : ∀ n : Nat, sumZ q (fun x => g x + h x) n = sumZ q g n + sumZ q h n
  | 0 => rfl
  | n + 1 => by
    rw [sumZ, sumZ, sumZ, sumZ_add q g h n]
    cases q (100 + (n : Int)) <;> simp <;> omega
theorem sumZ_strike {q : Int → Bool} {g : Int → Int} {x : Int} : ∀ {n : Nat}, 100 ≤ x → x < 100 + (n : Int) → sumZ (fun y => q y && !decide (y = x)) g n = sumZ q g n - (if q x then g x else 0)
  | 0, h1, h2 => by omega
  | n + 1, h1, h2 => by
    rw [sumZ, sumZ]
    by_cases hx : x = 100 + (n : Int)
    · subst hx
      have : sumZ (fun y => q y && !decide (y = 100 + (n : Int))) g n = sumZ q g n := sumZ_congr fun i hi => by
        rw [decide_eq_false (show ¬ (100 + (i : Int) = 100 + (n : Int)) by omega)]
        simp
      rw [this]
      simp
    · rw [sumZ_strike (n := n) h1 (by omega), decide_eq_false (show ¬ (100 + (n : Int) = x) from fun e => hx e.symm)]
      simp only [Bool.not_false, Bool.and_true]
      omega
theorem sumZ_bound {q : Int → Bool} {g : Int → Int} {B : Int} (hB : ∀ x, -B ≤ g x ∧ g x ≤ B) (h0 : 0 ≤ B) : ∀ n : Nat, -(B * (n : Int)) ≤ sumZ q g n ∧ sumZ q g n ≤ B * (n : Int)
  | 0 => by simp [sumZ]
  | n + 1 => by
    have h1 := sumZ_bound (q := q) hB h0 n
    have h2 := hB (100 + (n : Int))
    rw [sumZ]
    have h3 : B * ((n + 1 : Nat) : Int) = B * (n : Int) + B := by rw [Int.natCast_add, Int.mul_add]; simp
    rw [h3]
    split <;> omega
theorem sumZ_single {q : Int → Bool} {x v : Int} : ∀ {n : Nat}, 100 ≤ x → x < 100 + (n : Int) → sumZ q (fun y => if y = x then v else 0) n = if q x then v else 0
  | 0, h1, h2 => by omega
  | n + 1, h1, h2 => by
    rw [sumZ]
    by_cases hx : x = 100 + (n : Int)
    · subst hx
      rw [sumZ_congr (r := q) (h := fun _ => 0) (g := fun y => if y = 100 + (n : Int) then v else 0) (n := n) fun i hi => by
        rw [if_neg (show ¬ (100 + (i : Int) = 100 + (n : Int)) by omega)]]
      have : ∀ m : Nat, sumZ q (fun _ => 0) m = 0 := fun m => by
        induction m with
        | zero => rfl
        | succ m ih => rw [sumZ, ih]; split <;> rfl
      rw [this]
      simp
    · rw [sumZ_single (n := n) h1 (by omega), if_neg (show ¬ (100 + (n : Int) = x) from fun e => hx e.symm)]
      split <;> simp

/-- What a class of accounts has together. -/
def clsN (e : Int) (f : Int → Bool) (c : Int) (l : List Pst) (n : Nat) : Int := sumZ (fun x => decide (classM x = c)) (fun x => ofM e f x l) n
def cnetP (c : Int) (p : Pst) : Int := (if classM p.deb = c then p.amt else 0) - (if classM p.crd = c then p.amt else 0)
theorem clsN_cons (e : Int) (f : Int → Bool) (c : Int) (p : Pst) (l : List Pst) (hp : PstOk p) (n : Nat) (hn : 500 ≤ n) : clsN e f c (p :: l) n = (if hitE e p && f p.day then cnetP c p else 0) + clsN e f c l n := by
  unfold clsN
  simp only [ofM]
  rw [sumZ_add]
  congr 1
  cases hh : (hitE e p && f p.day) with
  | true =>
    have h1 := hp.deb
    have h2 := hp.crd
    simp only [if_true]
    have : sumZ (fun x => decide (classM x = c)) (fun x => netP x p) n = sumZ (fun x => decide (classM x = c)) (fun x => (if x = p.deb then p.amt else 0) + (if x = p.crd then -p.amt else 0)) n := sumZ_congr fun i _ => by
      unfold netP
      congr 1
      split <;> split <;> omega
    rw [this, sumZ_add, sumZ_single h1.1 (by omega), sumZ_single h2.1 (by omega)]
    unfold cnetP
    simp only [decide_eq_true_eq]
    split <;> split <;> omega
  | false =>
    have : ∀ m : Nat, sumZ (fun x => decide (classM x = c)) (fun x => if false = true then netP x p else 0) m = 0 := fun m => by
      induction m with
      | zero => rfl
      | succ m ih => rw [sumZ, ih]; split <;> rfl
    exact this n
def clsM (e : Int) (f : Int → Bool) (c : Int) : List Pst → Int
  | [] => 0
  | p :: l => (if hitE e p && f p.day then cnetP c p else 0) + clsM e f c l
theorem clsM_eq {e : Int} {f : Int → Bool} {c : Int} {n : Nat} (hn : 500 ≤ n) : ∀ {l : List Pst}, (∀ p ∈ l, PstOk p) → clsN e f c l n = clsM e f c l
  | [], _ => by
    have : ∀ m : Nat, clsN e f c [] m = 0 := fun m => by
      induction m with
      | zero => rfl
      | succ m ih =>
        unfold clsN at ih ⊢
        rw [sumZ, ih]
        split <;> rfl
    exact this n
  | p :: l, h => by rw [clsN_cons e f c p l (h p List.mem_cons_self) n hn, clsM_eq hn fun q hq => h q (List.mem_cons_of_mem _ hq)]; rfl

end Go.Proofs.YtknmgkjfopoinaaGreatDoor

/- Claims as mathematics: what is right of one, what it is worth less; of no function of the program; no condition. -/
set_option linter.unusedSimpArgs false
set_option linter.unusedVariables false
namespace Go.Proofs.YtknmgkjfopoinaaGreatDoor
open Go.RowKit Go.Lib Go.Proofs

structure Clm where
  id : Int
  payer : Int
  amt : Int
  opn : Int
  day : Int
  code : ByteArray
def clmC (c : Clm) : List Value := [.int .i64 c.id, .int .i64 c.payer, .int .i64 c.amt, .int .i64 c.opn, .int .i64 c.day, .string c.code]
theorem clmF : Fields clmC 6 := ⟨fun _ => rfl, fun _ u hu => by simp only [clmC, List.mem_cons, List.mem_nil_iff, or_false] at hu; rcases hu with rfl | rfl | rfl | rfl | rfl | rfl <;> rfl, by decide⟩
/-- The hundredths of an age. -/
def pctA (d : Int) : Int := if d ≤ 90 then 0 else if d ≤ 180 then 25 else if d ≤ 360 then 50 else 100
theorem pctA_in (d : Int) : 0 ≤ pctA d ∧ pctA d ≤ 100 := by unfold pctA; split <;> (try split) <;> (try split) <;> omega
theorem pctA_mono {a b : Int} (h : a ≤ b) : pctA a ≤ pctA b := by
  unfold pctA
  repeat' split
  all_goals omega
theorem mul_pct {n p : Int} (hn : 0 ≤ n ∧ n ≤ 1000000000000) (hp : 0 ≤ p ∧ p ≤ 100) : 0 ≤ n * p ∧ n * p ≤ 100000000000000 :=
  ⟨Int.mul_nonneg hn.1 hp.1, Int.le_trans (Int.mul_le_mul hn.2 hp.2 hp.1 (by omega)) (by omega)⟩

end Go.Proofs.YtknmgkjfopoinaaGreatDoor

/- A closing of the books, as mathematics: the postings that it makes, and what they do to the balances; of no function of the program; no condition. -/
set_option linter.unusedSimpArgs false
set_option linter.unusedVariables false
namespace Go.Proofs.YtknmgkjfopoinaaGreatDoor
open Go.RowKit Go.Lib Go.Proofs

/-! ### Postings without a number, and with one -/
def chgP (a b m : Int) : Pst := if m < 0 then ⟨0, 0, 0, b, a, -m, 0, 0⟩ else ⟨0, 0, 0, a, b, m, 0, 0⟩
def fiveP (i u p c d : Int) : List Pst := [⟨0, 0, 0, 520, 220, i, 0, 1000000⟩, ⟨0, 0, 0, 510, 210, u, 0, 1000000⟩, ⟨0, 0, 0, 130, 510, p, 0, 1000000⟩, chgP 120 420 c, chgP 119 530 d]
def keptP (l : List Pst) : List Pst := l.filter fun p => !decide (p.amt = 0)
def numP (n d e : Int) : List Pst → List Pst
  | [] => []
  | p :: l => ⟨n + 1, d, e, p.deb, p.crd, p.amt, p.par, p.ref⟩ :: numP (n + 1) d e l
theorem numP_len (d e : Int) : ∀ (n : Int) (l : List Pst), (numP n d e l).length = l.length
  | _, [] => rfl
  | n, p :: l => by rw [numP, List.length_cons, numP_len d e (n + 1) l, List.length_cons]
theorem kept_len (l : List Pst) : (keptP l).length ≤ l.length := List.length_filter_le _ _

/-! ### What they do to an account -/
def sumN (t : Int) : List Pst → Int
  | [] => 0
  | p :: l => netP t p + sumN t l
theorem netP_zero {t : Int} {p : Pst} (h : p.amt = 0) : netP t p = 0 := by
  unfold netP
  rw [h]
  split <;> split <;> rfl
theorem sumN_kept (t : Int) : ∀ l : List Pst, sumN t (keptP l) = sumN t l
  | [] => rfl
  | p :: l => by
    unfold keptP
    rw [List.filter_cons]
    by_cases h : p.amt = 0
    · rw [if_neg (by simp [h]), sumN, netP_zero h]
      have := sumN_kept t l
      unfold keptP at this
      omega
    · rw [if_pos (by simp [h]), sumN, sumN]
      have := sumN_kept t l
      unfold keptP at this
      omega
theorem netP_chg (t a b m : Int) : netP t (chgP a b m) = (if t = a then m else 0) - (if t = b then m else 0) := by
  unfold chgP netP
  split
  · simp only
    split <;> split <;> omega
  · simp only
theorem ofM_app (x : Int) (f : Int → Bool) (t : Int) : ∀ l m : List Pst, ofM x f t (l ++ m) = ofM x f t l + ofM x f t m
  | [], m => by simp [ofM]
  | p :: l, m => by simp only [List.cons_append, ofM, ofM_app x f t l m]; omega
theorem ofM_num (x : Int) (f : Int → Bool) (t d e : Int) : ∀ (n : Int) (l : List Pst), ofM x f t (numP n d e l) = if (x = 0 ∨ e = x) ∧ f d = true then sumN t l else 0
  | _, [] => by simp [numP, ofM, sumN]
  | n, p :: l => by
    rw [numP, ofM, ofM_num x f t d e (n + 1) l, sumN]
    have h1 : netP t ⟨n + 1, d, e, p.deb, p.crd, p.amt, p.par, p.ref⟩ = netP t p := rfl
    have h2 : hitE x ⟨n + 1, d, e, p.deb, p.crd, p.amt, p.par, p.ref⟩ = (decide (x = 0) || decide (e = x)) := rfl
    rw [h1, h2]
    by_cases c1 : x = 0 ∨ e = x
    · have c2 : (decide (x = 0) || decide (e = x)) = true := by simpa using c1
      rw [c2]
      by_cases c3 : f d = true
      · simp [c1, c3]
      · simp [c1, c3]
    · have c2 : (decide (x = 0) || decide (e = x)) = false := by simpa using c1
      rw [c2, if_neg (by simp), if_neg (fun h => c1 h.1), if_neg (fun h => c1 h.1)]
      rfl
/-- What a closing does to an account. -/
def effC (i u p c d t : Int) : Int := (if t = 520 then i else 0) - (if t = 220 then i else 0) + ((if t = 510 then u else 0) - (if t = 210 then u else 0)) + ((if t = 130 then p else 0) - (if t = 510 then p else 0)) + ((if t = 120 then c else 0) - (if t = 420 then c else 0)) + ((if t = 119 then d else 0) - (if t = 530 then d else 0))
theorem sumN_five (i u p c d t : Int) : sumN t (fiveP i u p c d) = effC i u p c d t := by
  unfold fiveP effC
  simp only [sumN, netP_chg]
  unfold netP
  simp only
  omega

/-! ### The books behind a closing -/
def closeM (l : List Pst) (e d i u p c b : Int) : List Pst := l ++ numP l.length d e (keptP (fiveP i u p c b))
theorem close_of (l : List Pst) (e d i u p c b x t : Int) (f : Int → Bool) : ofM x f t (closeM l e d i u p c b) = ofM x f t l + (if (x = 0 ∨ e = x) ∧ f d = true then effC i u p c b t else 0) := by
  unfold closeM
  rw [ofM_app, ofM_num, sumN_kept, sumN_five]
theorem close_len (l : List Pst) (e d i u p c b : Int) : l.length ≤ (closeM l e d i u p c b).length ∧ (closeM l e d i u p c b).length ≤ l.length + 5 := by
  unfold closeM
  rw [List.length_append, numP_len]
  have := kept_len (fiveP i u p c b)
  have h : (fiveP i u p c b).length = 5 := rfl
  omega

/-- What numbering asks of a posting. -/
structure RawOk (p : Pst) : Prop where
  deb : 100 ≤ p.deb ∧ p.deb ≤ 599
  crd : 100 ≤ p.crd ∧ p.crd ≤ 599
  ne : p.deb ≠ p.crd
  amt : 1 ≤ p.amt ∧ p.amt ≤ 1000000000000
  par : p.par = 0
  ref : 0 ≤ p.ref ∧ p.ref ≤ 1000000
theorem LdgOk.num_on {d e : Int} (hd : 0 ≤ d ∧ d ≤ 36000) (he : 1 ≤ e ∧ e ≤ 10) : ∀ (ps l : List Pst), LdgOk l → (∀ p ∈ ps, RawOk p) → l.length + ps.length ≤ 400 → (lastP l).day ≤ d → LdgOk (l ++ numP l.length d e ps)
  | [], l, h, _, _, _ => by rw [numP, List.append_nil]; exact h
  | p :: ps, l, h, hp, hl, hday => by
    rw [List.length_cons] at hl
    have h1 := hp p List.mem_cons_self
    have hq : PstOk ⟨(l.length : Int) + 1, d, e, p.deb, p.crd, p.amt, p.par, p.ref⟩ := ⟨by simp only; omega, hd, he, h1.deb, h1.crd, h1.ne, h1.amt, by show 0 ≤ p.par ∧ p.par ≤ 10; rw [h1.par]; omega, by show p.par ≠ e; rw [h1.par]; omega, h1.ref⟩
    have h2 := h.snoc (by omega) hq rfl hday
    have h3 := LdgOk.num_on hd he ps (l ++ [⟨(l.length : Int) + 1, d, e, p.deb, p.crd, p.amt, p.par, p.ref⟩]) h2 (fun x hx => hp x (List.mem_cons_of_mem _ hx)) (by rw [List.length_append, List.length_singleton]; omega) (by rw [lastP_snoc]; exact Int.le_refl _)
    rw [List.length_append, List.length_singleton, List.append_assoc] at h3
    rw [numP]
    have e1 : (((l.length + 1 : Nat)) : Int) = (l.length : Int) + 1 := by omega
    rw [e1] at h3
    exact h3
theorem chg_raw {a b m : Int} (ha : 100 ≤ a ∧ a ≤ 599) (hb : 100 ≤ b ∧ b ≤ 599) (hab : a ≠ b) (h0 : m ≠ 0) (hm : -1000000000000 ≤ m ∧ m ≤ 1000000000000) : RawOk (chgP a b m) := by
  unfold chgP
  split
  · exact ⟨hb, ha, fun h => hab h.symm, by simp only; omega, rfl, by simp⟩
  · exact ⟨ha, hb, hab, by simp only; omega, rfl, by simp⟩
theorem kept_raw {i u p c d : Int} (hi : 0 ≤ i ∧ i ≤ 1000000000000) (hu : 0 ≤ u ∧ u ≤ 1000000000000) (hp : 0 ≤ p ∧ p ≤ 1000000000000) (hc : -1000000000000 ≤ c ∧ c ≤ 1000000000000) (hd : -1000000000000 ≤ d ∧ d ≤ 1000000000000) : ∀ q ∈ keptP (fiveP i u p c d), RawOk q := by
  intro q hq
  unfold keptP at hq
  rw [List.mem_filter] at hq
  obtain ⟨hm, hne⟩ := hq
  have h0 : q.amt ≠ 0 := by simpa using hne
  unfold fiveP at hm
  simp only [List.mem_cons, List.mem_nil_iff, or_false] at hm
  have hz : ∀ a b m : Int, (chgP a b m).amt ≠ 0 → m ≠ 0 := by
    intro a b m h e
    apply h
    unfold chgP
    subst e
    rfl
  rcases hm with rfl | rfl | rfl | rfl | rfl
  · exact ⟨by simp, by simp, by simp, by simp only at h0 ⊢; omega, rfl, by simp⟩
  · exact ⟨by simp, by simp, by simp, by simp only at h0 ⊢; omega, rfl, by simp⟩
  · exact ⟨by simp, by simp, by simp, by simp only at h0 ⊢; omega, rfl, by simp⟩
  · exact chg_raw (by omega) (by omega) (by omega) (hz _ _ _ h0) hc
  · exact chg_raw (by omega) (by omega) (by omega) (hz _ _ _ h0) hd
theorem close_ok {l : List Pst} (h : LdgOk l) {e d i u p c b : Int} (hl : l.length + 5 ≤ 400) (hday : (lastP l).day ≤ d) (hd : 0 ≤ d ∧ d ≤ 36000) (he : 1 ≤ e ∧ e ≤ 10) (hi : 0 ≤ i ∧ i ≤ 1000000000000) (hu : 0 ≤ u ∧ u ≤ 1000000000000) (hp : 0 ≤ p ∧ p ≤ 1000000000000) (hc : -1000000000000 ≤ c ∧ c ≤ 1000000000000) (hb : -1000000000000 ≤ b ∧ b ≤ 1000000000000) : LdgOk (closeM l e d i u p c b) := by
  unfold closeM
  refine LdgOk.num_on hd he _ _ h (kept_raw hi hu hp hc hb) ?_ hday
  have := kept_len (fiveP i u p c b)
  have h5 : (fiveP i u p c b).length = 5 := rfl
  omega
theorem lastP_app {l m : List Pst} (h : m ≠ []) : lastP (l ++ m) = lastP m := by
  unfold lastP
  rw [List.getLast?_append]
  cases hm : m.getLast? with
  | none => rw [List.getLast?_eq_none_iff] at hm; exact absurd hm h
  | some x => rfl

end Go.Proofs.YtknmgkjfopoinaaGreatDoor

/- What IndexFunc hands back, for any type; of no function of the program; no condition. -/
namespace Go.Proofs.YtknmgkjfopoinaaGreatDoor
open Go.RowKit Go.Lib Go.Proofs

/-- What IndexFunc hands back. -/
def IndexPost {α : Type} (p : α → Bool) (xs : List α) (w : World) (e : Ending) (w' : World) : Prop :=
  ∃ i : Int, e = .returned (.int .i64 i) ∧ ((i = -1 ∧ ∀ x ∈ xs, p x = false) ∨ ∃ k : Nat, i = k ∧ ∃ h : k < xs.length, p xs[k] = true ∧ ∀ x ∈ xs.take k, p x = false) ∧ Below w.heap.size w w'

theorem take_snoc_pred {α : Type} {p : α → Bool} {xs : List α} {k : Nat} (hk : k < xs.length) (h : ∀ x ∈ xs.take k, p x = false) (h2 : p xs[k] = false) : ∀ x ∈ xs.take (k + 1), p x = false := by
  intro x hx
  rw [List.take_succ_eq_append_getElem hk] at hx
  rcases List.mem_append.1 hx with hx | hx
  · exact h x hx
  · rw [List.mem_singleton] at hx; rw [hx]; exact h2

end Go.Proofs.YtknmgkjfopoinaaGreatDoor

/- slices.IndexFunc and ContainsFunc at Clm, for every predicate that returns; for rows of up to 10^6 elements. -/
set_option linter.unusedSimpArgs false
set_option linter.unusedVariables false
namespace Go.Proofs.YtknmgkjfopoinaaGreatDoor
open Go.RowKit Go.Lib Go.Proofs

/-- A predicate that is called with one Clm. -/
def clmPred (f : Nat) (lb : Array Value) (p : Clm → Bool) (xs : List Clm) (Old : World → Prop) : Prop :=
  ∀ x ∈ xs, ∀ W, Old W → Calls Tryz.prog f (#[.agg (clmC x).toArray] ++ lb) W fun e W' => e = .returned (.bool (p x)) ∧ Below W.heap.size W W'

set_option maxRecDepth 100000 in
set_option maxHeartbeats 4000000 in
theorem clmIndex_any (f : Nat) (lb : Array Value) (eg : ∀ args w, (callFunc f args).run Tryz.prog w = .ok (.enter f args) w) (p : Clm → Bool) (xs : List Clm) (v : Value) (w : World)
    (hr : ListAt clmC 6 w v xs) (hlen : xs.length ≤ 1000000) (hp : clmPred f lb p xs fun W => Below w.heap.size w W) :
    Calls Tryz.prog 72 #[v, .func (.func f) #[] lb] w (IndexPost p xs w) := by
  obtain ⟨ao, cap, rfl, hcap, hc⟩ := hr.shape clmF
  obtain ⟨n, hn⟩ : ∃ n, n = xs.length := ⟨_, rfl⟩
  have HN := Lib.hid hn
  have HP := Lib.hid hp
  rw [← hn] at hlen hcap ⊢
  have HC := Lib.hid hc
  clear hp hn hr hc
  go_enter Tryz.func72, Tryz.ntmps72
  go_wp2
  go_loopw [8] (fun i wr => ∃ k : Nat, i = .int .i64 k ∧ k ≤ n ∧ Hid (∀ x ∈ xs.take k, p x = false) ∧ Hid (Below w.heap.size w wr)) (fun i _ => n - (RowKit.intOf i).toNat)
  case atStart => exact ⟨0, rfl, by omega, Lib.hid (by simp), Lib.hid (Below.refl _ _)⟩
  case round =>
    obtain ⟨k, rfl, hkn, HF, HB⟩ := hrel
    by_cases hlt : k < n
    · have hlx : k < xs.length := by rw [← HN.out]; exact hlt
      obtain ⟨b, o, rfl, hb, hcc⟩ := HC.out (by omega)
      have hcell := fun j (hj : j < 6) => (HB.out.cell (p := ⟨b, o + k * 6 + j, none⟩) hb).trans (hcc k hlx j hj)
      have hcall := HP.out xs[k] (List.getElem_mem hlx) wr HB.out
      obtain ⟨x, hx⟩ : ∃ x, x = xs[k] := ⟨_, rfl⟩
      rw [← hx] at hcell hcall
      have HX := Lib.hid hx
      have hpx : Hid (∃ c, c = p x) := Lib.hid ⟨_, rfl⟩
      obtain ⟨c, hc⟩ := hpx.out
      have HPX := Lib.hid hc
      rw [← hc] at hcall
      clear hx hc hpx hcc
      obtain ⟨y0, y1, y2, y3, y4, y5⟩ := x
      have c0 := hcell 0 (by omega)
      have c1 := hcell 1 (by omega)
      have c2 := hcell 2 (by omega)
      have c3 := hcell 3 (by omega)
      have c4 := hcell 4 (by omega)
      have c5 := hcell 5 (by omega)
      simp [clmC] at c0 c1 c2 c3 c4 c5 hcall
      have HCALL := Lib.hid hcall
      have hk0 : (0 : Int) ≤ (k : Int) := by omega
      have hk1 : (k : Int) < (n : Int) := by omega
      clear hcell hcall HC
      cases c with
      | true =>
        go_wp2_with fail
        with_reducible refine (HCALL.out).mono ?_
        rintro e w1 ⟨rfl, hb1⟩
        go_wp2
        go_ret
        exact ⟨k, rfl, Or.inr ⟨k, rfl, hlx, by rw [← HX.out]; exact HPX.out.symm, HF.out⟩, HB.out.trans (hb1.mono HB.out.size)⟩
      | false =>
        go_wp2_with fail
        with_reducible refine (HCALL.out).mono ?_
        rintro e w1 ⟨rfl, hb1⟩
        go_wp2
        go_roundw
        case rel => exact ⟨k + 1, by first | rfl | go_num, by omega, Lib.hid (take_snoc_pred hlx HF.out (by rw [← HX.out]; exact HPX.out.symm)), Lib.hid (HB.out.trans (hb1.mono HB.out.size))⟩
        case measure => simp [RowKit.intOf]; omega
    · obtain rfl : k = n := by omega
      clear HC
      go_wp2
      go_ret
      exact ⟨-1, rfl, Or.inl ⟨rfl, fun x hx => HF.out x (by rw [HN.out, List.take_length]; exact hx)⟩, HB.out⟩

set_option maxHeartbeats 1000000 in
theorem clmContains_any (f : Nat) (lb : Array Value) (eg : ∀ args w, (callFunc f args).run Tryz.prog w = .ok (.enter f args) w) (p : Clm → Bool) (xs : List Clm) (v : Value) (w : World)
    (hr : ListAt clmC 6 w v xs) (hlen : xs.length ≤ 1000000) (hp : clmPred f lb p xs fun W => Below w.heap.size w W) :
    Calls Tryz.prog 51 #[v, .func (.func f) #[] lb] w fun e w' => e = .returned (.bool (xs.any p)) ∧ Below w.heap.size w w' := by
  have HI := Lib.hid (clmIndex_any f lb eg p xs v w hr hlen hp)
  obtain ⟨c, hc⟩ : ∃ c, c = xs.any p := ⟨_, rfl⟩
  rw [← hc]
  have HCC := Lib.hid hc
  clear hr hp hc
  go_enter Tryz.func51, Tryz.ntmps51
  go_wp2_with fail
  refine (HI.out).mono ?_
  rintro e w1 ⟨i, rfl, hi, hb⟩
  rcases hi with ⟨rfl, hall⟩ | ⟨k, rfl, hk, hpk, _⟩
  · obtain rfl : c = false := HCC.out.trans (List.any_eq_false.2 fun x hx => by rw [hall x hx]; simp)
    clear hall HCC
    go_wp2
    go_ret
    exact ⟨rfl, hb⟩
  · obtain rfl : c = true := HCC.out.trans (List.any_eq_true.2 ⟨xs[k], List.getElem_mem hk, hpk⟩)
    have hk0 : (0 : Int) ≤ (k : Int) := by omega
    clear hpk HCC
    go_wp2
    go_ret
    exact ⟨rfl, hb⟩

end Go.Proofs.YtknmgkjfopoinaaGreatDoor
