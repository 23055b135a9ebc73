/- Words and laws on memory that every layer uses: slices of int64s, rows of the call's own, ranges as a Bool; of no function of the program; no condition. -/
import Derived.Test.YtoccnindkimjdaaRows
import Derived.WalkKit
import Derived.WalkSpells
import Derived.WalkLawsBesides
import Derived.Lib.Hide
import Derived.Laws.OwnMore
import Derived.ArgAppend
import Derived.Deep.QuietTactic
import Derived.BigQuiet
import Derived.BigRegion
import Derived.Below
set_option linter.unusedSimpArgs false
set_option linter.unusedVariables false
namespace Go.Proofs.Ytoccnindkimjdaa
open Go.RowKit Go.Lib Go.Proofs

theorem ret_int {k : IntKind} {a b : Int} (h : a = b) : Ending.returned (.int k a) = .returned (.int k b) := by rw [h]

/-- Go's == on strings, as the walk spells it. -/
theorem strEq_true {a b : ByteArray} (h : a = b) : (a.toList == b.toList) = true := by rw [h, beq_self_eq_true]
theorem strEq_false {a b : ByteArray} (h : a ≠ b) : (a.toList == b.toList) = false := by
  rw [beq_eq_false_iff_ne, ByteArray.toList_eq, ByteArray.toList_eq]
  exact fun e => h (ByteArray.ext (Array.toList_inj.1 e))

/-- n is from lo to hi. -/
def inB (n lo hi : Int) : Bool := decide (lo ≤ n ∧ n ≤ hi)

theorem inB_true {n lo hi : Int} : inB n lo hi = true ↔ lo ≤ n ∧ n ≤ hi := by unfold inB; simp

theorem inB_false {n lo hi : Int} : inB n lo hi = false ↔ ¬ (lo ≤ n ∧ n ≤ hi) := by unfold inB; exact decide_eq_false_iff_not

/-- A list of numbers, as Go's slice of them holds it. -/
def cellsI (l : List Int) : List Value := l.map fun x => .int .i64 x

theorem cellsI_get (l : List Int) (i : Nat) (hi : i < l.length) : (cellsI l)[i]? = some (.int .i64 (l.getD i 0)) := by
  simp [cellsI, List.getD, List.getElem?_eq_getElem hi]

/-- The first k numbers of a list, and zeros behind them. -/
def upTo (l : List Int) (k : Nat) : List Value := cellsI (l.take k) ++ List.replicate (l.length - k) (.int .i64 0)

theorem upTo_zero (l : List Int) : upTo l 0 = List.replicate l.length (.int .i64 0) := by simp [upTo, cellsI]

theorem upTo_full (l : List Int) : upTo l l.length = cellsI l := by simp [upTo]

theorem upTo_get (l : List Int) (k : Nat) (h : k < l.length) : (upTo l k)[k]? = some (.int .i64 0) := by
  unfold upTo cellsI
  have hm : min k l.length = k := Nat.min_eq_left (by omega)
  rw [List.getElem?_append_right (by simp [hm])]
  simp [List.getElem?_replicate, hm]
  omega

theorem upTo_set (l : List Int) (k : Nat) (h : k < l.length) (x : Int) (hx : x = l.getD k 0) : (upTo l k).set k (.int .i64 x) = upTo l (k + 1) := by
  subst hx
  unfold upTo cellsI
  have hm : min k l.length = k := Nat.min_eq_left (by omega)
  rw [List.take_succ_eq_append_getElem h, List.map_append, List.append_assoc, List.set_append_right _ _ (by simp [hm])]
  congr 1
  obtain ⟨q, hq⟩ : ∃ q, l.length - k = q + 1 := ⟨l.length - k - 1, by omega⟩
  rw [hq, show l.length - (k + 1) = q by omega]
  simp [List.replicate_succ, List.getElem?_eq_getElem h, hm]

/-- What is owned stays owned where nothing has turned that was there. -/
theorem ownsRow_below {w w' : World} {base : Nat} {e : TypeId} {size : Nat} {v : Value} {n : Nat} {xs : List Value} (h : w.ownsRow base e size v n xs) (hb : Below w.heap.size w w') : w'.ownsRow base e size v n xs := by
  obtain ⟨h1, h2⟩ := h
  refine ⟨h1, ?_⟩
  rcases h2 with h2 | ⟨g, cap, cur, hv, hg, hh, r⟩
  · exact Or.inl h2
  · have hlt : g < w.heap.size := by
      by_cases hlt : g < w.heap.size
      · exact hlt
      · rw [Array.getElem?_eq_none (by omega)] at hh; cases hh
    exact Or.inr ⟨g, cap, cur, hv, hg, by rw [hb.block g hlt]; exact hh, r⟩

theorem cellsI_set (l : List Int) (i : Nat) (x : Int) : (cellsI l).set i (.int .i64 x) = cellsI (l.set i x) := by simp [cellsI, List.map_set]

/-- The slice v holds the numbers l in the world w. -/
def RowAt (w : World) (v : Value) (l : List Int) : Prop :=
  (l = [] ∧ ∃ ao cap, v = .slice ao 0 cap) ∨ ∃ b o cap, v = .slice (some ⟨b, o, none⟩) l.length cap ∧ b < w.heap.size ∧ ∀ i, i < l.length → w.cell? ⟨b, o + i, none⟩ = some (.int .i64 (l.getD i 0))

theorem RowAt.below {w w' : World} {v : Value} {l : List Int} (h : RowAt w v l) (hb : Below w.heap.size w w') : RowAt w' v l := by
  rcases h with h | ⟨b, o, cap, hv, hlt, hc⟩
  · exact Or.inl h
  · exact Or.inr ⟨b, o, cap, hv, Nat.lt_of_lt_of_le hlt hb.size, fun i hi => by rw [hb.cell (by exact hlt)]; exact hc i hi⟩

/-- An owned row of numbers is a slice that holds them. -/
theorem RowAt.owns {w : World} {base : Nat} {e : TypeId} {v : Value} {n : Nat} {l : List Int} (h : w.ownsRow base e 1 v n (cellsI l)) : RowAt w v l := by
  have hl : l.length = n := by have := h.1; simpa [cellsI] using this
  rcases h.2 with ⟨hv, h0⟩ | ⟨g, cap, cur, hv, hg, hh, r⟩
  · exact Or.inl ⟨List.length_eq_zero_iff.1 (by omega), none, 0, by rw [hv]⟩
  · refine Or.inr ⟨g, 0, cap, by rw [hv, hl], ?_, fun i hi => ?_⟩
    · by_cases hlt : g < w.heap.size
      · exact hlt
      · rw [Array.getElem?_eq_none (by omega)] at hh; cases hh
    · subst hv
      rw [Nat.zero_add, h.cellAt i (by omega), cellsI_get l i hi]

theorem getD_eq {l : List Int} {i : Nat} (h : i < l.length) : l.getD i 0 = l[i] := by simp [List.getD, List.getElem?_eq_getElem h]

theorem list_eq_of {a b : List Int} (hl : a.length = b.length) (h : ∀ i, i < a.length → a.getD i 0 = b.getD i 0) : a = b := by
  apply List.ext_getElem hl
  intro i h1 h2
  have := h i h1
  rwa [getD_eq h1, getD_eq h2] at this

theorem Try.infoInt : (Try.prog.info? 3).map (fun i => (i.zero, i.size, i.bytes)) = some (some (.int .i64 0), 1, 8) := by kernel_rfl

theorem ownsRow_mono {w : World} {base base' : Nat} {e : TypeId} {size : Nat} {v : Value} {n : Nat} {xs : List Value} (h : w.ownsRow base e size v n xs) (hb : base' ≤ base) : w.ownsRow base' e size v n xs := by
  obtain ⟨h1, h2⟩ := h
  refine ⟨h1, ?_⟩
  rcases h2 with h2 | ⟨g, cap, cur, hv, hg, r⟩
  · exact Or.inl h2
  · exact Or.inr ⟨g, cap, cur, hv, by omega, r⟩

theorem owns_shape {w : World} {base : Nat} {e : TypeId} {size : Nat} {v : Value} {n : Nat} {xs : List Value} (h : w.ownsRow base e size v n xs) (hn : 0 < n) : ∃ g cap, v = .slice (some ⟨g, 0, none⟩) n cap ∧ base ≤ g ∧ n ≤ cap := by
  rcases h.2 with ⟨_, h0⟩ | ⟨g, cap, cur, hv, hg, hh, hnc, _⟩
  · omega
  · exact ⟨g, cap, hv, hg, hnc⟩

theorem cellsI_snoc (l : List Int) (x : Int) : cellsI l ++ [.int .i64 x] = cellsI (l ++ [x]) := by simp [cellsI]

theorem ownBlock_le {w : World} {base : Nat} {e : TypeId} {size : Nat} {v : Value} {n : Nat} {xs : List Value} (h : w.ownsRow base e size v n xs) (r : Nat) (hr : v.ownBlock = some r) : base ≤ r := (h.lt r hr).1

theorem ownBlock_ne {w : World} {base : Nat} {e : TypeId} {size : Nat} {v : Value} {n : Nat} {xs : List Value} (h : w.ownsRow base e size v n xs) (r : Nat) (hr : r < base) : v.ownBlock = none ∨ v.ownBlock ≠ some r :=
  Or.inr fun he => by have := ownBlock_le h r he; omega

/-- One value in a new block: what an append of one element asks. -/
theorem one_new (w : World) (x : Value) (T : TypeId) (b : Nat) (hb : b = w.heap.size) : ∀ j u, [x][j]? = some u → (w.alloc (.cells #[x] T)).cell? ((⟨b, 0, none⟩ : Addr).add j) = some u := by
  subst hb
  intro j u hj
  match j, hj with
  | 0, hj => simp at hj; subst hj; simp [Addr.add]

theorem one_int (k : IntKind) (x : Int) : ∀ u ∈ [Value.int k x], u.oneCell' = true := by
  intro u hu; simp at hu; subst hu; rfl

theorem owns_gen {w : World} {base : Nat} {e : TypeId} {size : Nat} {v : Value} {n : Nat} {xs : List Value} (h : w.ownsRow base e size v n xs) : ∃ ao cap, v = .slice ao n cap ∧ n ≤ cap ∧ ((ao = none ∧ n = 0 ∧ cap = 0) ∨ ∃ g, ao = some ⟨g, 0, none⟩ ∧ base ≤ g) := by
  rcases h.2 with ⟨hv, h0⟩ | ⟨g, cap, cur, hv, hg, hh, hnc, _⟩
  · exact ⟨none, 0, by rw [hv, h0], by omega, Or.inl ⟨rfl, h0, rfl⟩⟩
  · exact ⟨some ⟨g, 0, none⟩, cap, hv, hnc, Or.inr ⟨g, rfl, hg⟩⟩

theorem rowAt_take {w : World} {g n cap k : Nat} {l : List Int} (h : RowAt w (.slice (some ⟨g, 0, none⟩) n cap) l) (hl : l.length = n) (hk : k ≤ n) : RowAt w (.slice (some ⟨g, 0, none⟩) k cap) (l.take k) := by
  have hlk : (l.take k).length = k := by simp; omega
  rcases h with ⟨rfl, ao, c, hv⟩ | ⟨b, o, c, hv, hlt, hc⟩
  · have : k = 0 := by simp at hl; omega
    subst this
    exact Or.inl ⟨rfl, _, _, rfl⟩
  · simp only [Value.slice.injEq, Option.some.injEq, Addr.mk.injEq, and_true] at hv
    obtain ⟨⟨rfl, rfl⟩, _, rfl⟩ := hv
    refine Or.inr ⟨g, 0, cap, by rw [hlk], hlt, fun i hi => ?_⟩
    rw [hc i (by omega)]
    have hik : i < k := by omega
    simp [List.getD, hik]

theorem rowAt_drop {w : World} {g n cap k c' : Nat} {l : List Int} (h : RowAt w (.slice (some ⟨g, 0, none⟩) n cap) l) (hl : l.length = n) (hk : k ≤ n) : RowAt w (.slice (some ⟨g, k, none⟩) (n - k) c') (l.drop k) := by
  have hlk : (l.drop k).length = n - k := by simp; omega
  rcases h with ⟨rfl, ao, c, hv⟩ | ⟨b, o, c, hv, hlt, hc⟩
  · have : n = 0 := by simp at hl; omega
    subst this
    exact Or.inl ⟨by simp, _, _, by simp; exact ⟨rfl, rfl⟩⟩
  · simp only [Value.slice.injEq, Option.some.injEq, Addr.mk.injEq, and_true] at hv
    obtain ⟨⟨rfl, rfl⟩, _, rfl⟩ := hv
    refine Or.inr ⟨g, k, c', by rw [hlk], hlt, fun i hi => ?_⟩
    have := hc (k + i) (by omega)
    rw [Nat.zero_add] at this
    rw [this]
    simp [List.getD, List.getElem?_drop]

theorem rowAt_nil (w : World) (ao : Option Addr) (cap : Nat) : RowAt w (.slice ao 0 cap) [] := Or.inl ⟨rfl, ao, cap, rfl⟩

/-- A slice of three numbers in a block of its own. -/
theorem rowAt_three (w : World) (b cap : Nat) (x y z : Int) (hb : b < w.heap.size) (h0 : w.cell? ⟨b, 0, none⟩ = some (.int .i64 x)) (h1 : w.cell? ⟨b, 1, none⟩ = some (.int .i64 y)) (h2 : w.cell? ⟨b, 2, none⟩ = some (.int .i64 z)) :
    RowAt w (.slice (some ⟨b, 0, none⟩) 3 cap) [x, y, z] := by
  refine Or.inr ⟨b, 0, cap, rfl, hb, fun i hi => ?_⟩
  have : i = 0 ∨ i = 1 ∨ i = 2 := by simp at hi; omega
  rcases this with rfl | rfl | rfl
  · exact h0
  · exact h1
  · exact h2

theorem rowAt_new (w : World) (T : TypeId) (b cap : Nat) (x y z : Int) (hb : b = w.heap.size) : RowAt (w.alloc (.cells #[.int .i64 x, .int .i64 y, .int .i64 z] T)) (.slice (some ⟨b, 0, none⟩) 3 cap) [x, y, z] := by
  subst hb
  exact rowAt_three _ _ _ _ _ _ (by simp) (by simp) (by simp) (by simp)

theorem RowAt.drewN {w : World} {v : Value} {l : List Int} (h : RowAt w v l) (q : Nat) : RowAt (w.drewN q) v l := h

theorem below_alloc (w : World) (o : Obj) : Below w.heap.size w (w.alloc o) := (Below.refl _ _).alloc (Nat.le_refl _) o

theorem below_drewN {B : Nat} {w w' : World} (h : Below B w w') (q : Nat) : Below B w (w'.drewN q) := ⟨h.os, h.tape, h.output, h.size, h.block⟩

theorem grownBy_row {a b : World} {r : Option Nat} (h : a.grownBy b none) : a.grownBy b r := ⟨h.os, h.tape, h.output, h.size, fun k hk _ => h.block k hk (by simp)⟩

/-- Where a slice lies behind an append: where it lay, or in a new block. -/
def Moved (w : World) (v v' : Value) : Prop := v'.ownBlock = v.ownBlock ∨ ∀ g, v'.ownBlock = some g → w.heap.size ≤ g

theorem wpList_append_moved {P : Program} (w : World) {ops : Array Oper} {rest : List Oper} {o : Oper} {a : Act} {Q : Exit → Act → World → Prop}
    (hgd : o.guard = none) (s x : Operand) (t : TypeId) (hop : o.op = Op.call { callee := Callee.builtin Builtin.append, args := #[s, x], argTypes := #[t, t] })
    (base : Nat) (e : TypeId) (i : TypeInfo) (z : Value) (size bytes : Nat) (h1 : P.underlying t = some (.slice e)) (h2 : P.info? e = some i) (h3 : i.zero = some z) (h4 : i.size = size) (h5 : i.bytes = bytes) (h6 : z.cells.size = size) (h7 : 0 < size)
    (v : Value) (n : Nat) (xs : List Value) (hs : a.eval s = v) (hown : w.ownsRow base e size v n xs)
    (ad : Addr) (m c : Nat) (news : List Value) (hx : a.eval x = .slice (some ad) m c) (hn : news.length = m * size) (hc : ∀ j u, news[j]? = some u → w.cell? (ad.add j) = some u) (h1c : ∀ u ∈ news, u.oneCell' = true) (hm : 0 < m)
    (b1 : n + m ≤ maxLen) (b2 : (n + m) * bytes ≤ 140737488355328) (hbase : base ≤ w.heap.size)
    (hK : ∀ v' w', w'.ownsRow base e size v' (n + m) (xs ++ news) → w.grownBy w' v.ownBlock → Moved w v v' → wpList P ops Q rest (a.put o.dst v') w') :
    wpList P ops Q (o :: rest) a w := by
  have hown0 := hown
  rcases hown.2 with ⟨rfl, rfl⟩ | ⟨g, cap, cur, rfl, hg, hh, hnc, hcm, hcs, htk⟩
  · have hx0 : xs = [] := by have := hown.1; simpa using this
    subst hx0
    refine wpList_append_grows w hgd s x t hop e i z size bytes h1 h2 h3 h4 h5 h6 h7 none 0 0 [] hs (fun _ => ⟨rfl, rfl⟩) (by simp) (by simp) ad m c news hx hn hc h1c (by omega) b1 b2 fun v' w' ho hgr => ?_
    exact hK v' w' (ownsRow_mono ho hbase) (grownBy_row hgr) (Or.inr fun g hg => (ho.lt g hg).1)
  · by_cases hfit : n + m ≤ cap
    · refine wpList_append_fits w hgd s x t hop base e i size h1 h2 h4 g n cap xs hs hown0 ad m c news hx hn hc h1c hfit fun w' ho hgr => ?_
      exact hK _ w' ho hgr (Or.inl rfl)
    · refine wpList_append_grows w hgd s x t hop e i z size bytes h1 h2 h3 h4 h5 h6 h7 (some ⟨g, 0, none⟩) n cap xs hs (by simp) hown0.1 (fun b hb j u hj => by cases hb; exact hown0.cells rfl j u hj) ad m c news hx hn hc h1c (by omega) b1 b2 fun v' w' ho hgr => ?_
      exact hK v' w' (ownsRow_mono ho hbase) (grownBy_row hgr) (Or.inr fun g' hg' => (ho.lt g' hg').1)

end Go.Proofs.Ytoccnindkimjdaa
