/- Texts of one claim, merged: Base, Tap, Src, Put, Sec, SrcI. -/
import Derived.Test.YtnfllgeneehjjaaRows
import Derived.WalkKit
import Derived.WalkSpells
import Derived.WalkLawsBesides
import Derived.Lib.Hide
import Derived.Laws.OwnMore
import Derived.ArgAppend
import Derived.Deep.QuietTactic
import Derived.BigQuiet
import Derived.BigRegion
import Derived.Below
/- Words and laws on memory that every layer uses: slices of int64s, rows of the call's own, ranges as a Bool; of no function of the program; no condition. -/
set_option linter.unusedSimpArgs false
set_option linter.unusedVariables false
namespace Go.Proofs.Ytnfllgeneehjjaa
open Go.RowKit Go.Lib Go.Proofs

theorem ret_int {k : IntKind} {a b : Int} (h : a = b) : Ending.returned (.int k a) = .returned (.int k b) := by rw [h]

/-- Go's == on strings, as the walk spells it. -/
theorem strEq_true {a b : ByteArray} (h : a = b) : (a.toList == b.toList) = true := by rw [h, beq_self_eq_true]
theorem strEq_false {a b : ByteArray} (h : a ≠ b) : (a.toList == b.toList) = false := by
  rw [beq_eq_false_iff_ne, ByteArray.toList_eq, ByteArray.toList_eq]
  exact fun e => h (ByteArray.ext (Array.toList_inj.1 e))

/-- n is from lo to hi. -/
def inB (n lo hi : Int) : Bool := decide (lo ≤ n ∧ n ≤ hi)

theorem inB_true {n lo hi : Int} : inB n lo hi = true ↔ lo ≤ n ∧ n ≤ hi := by unfold inB; simp

theorem inB_false {n lo hi : Int} : inB n lo hi = false ↔ ¬ (lo ≤ n ∧ n ≤ hi) := by unfold inB; exact decide_eq_false_iff_not

/-- A list of numbers, as Go's slice of them holds it. -/
def cellsI (l : List Int) : List Value := l.map fun x => .int .i64 x

theorem cellsI_get (l : List Int) (i : Nat) (hi : i < l.length) : (cellsI l)[i]? = some (.int .i64 (l.getD i 0)) := by
  simp [cellsI, List.getD, List.getElem?_eq_getElem hi]

/-- The first k numbers of a list, and zeros behind them. -/
def upTo (l : List Int) (k : Nat) : List Value := cellsI (l.take k) ++ List.replicate (l.length - k) (.int .i64 0)

theorem upTo_zero (l : List Int) : upTo l 0 = List.replicate l.length (.int .i64 0) := by simp [upTo, cellsI]

theorem upTo_full (l : List Int) : upTo l l.length = cellsI l := by simp [upTo]

theorem upTo_get (l : List Int) (k : Nat) (h : k < l.length) : (upTo l k)[k]? = some (.int .i64 0) := by
  unfold upTo cellsI
  have hm : min k l.length = k := Nat.min_eq_left (by omega)
  rw [List.getElem?_append_right (by simp [hm])]
  simp [List.getElem?_replicate, hm]
  omega

theorem upTo_set (l : List Int) (k : Nat) (h : k < l.length) (x : Int) (hx : x = l.getD k 0) : (upTo l k).set k (.int .i64 x) = upTo l (k + 1) := by
  subst hx
  unfold upTo cellsI
  have hm : min k l.length = k := Nat.min_eq_left (by omega)
  rw [List.take_succ_eq_append_getElem h, List.map_append, List.append_assoc, List.set_append_right _ _ (by simp [hm])]
  congr 1
  obtain ⟨q, hq⟩ : ∃ q, l.length - k = q + 1 := ⟨l.length - k - 1, by omega⟩
  rw [hq, show l.length - (k + 1) = q by omega]
  simp [List.replicate_succ, List.getElem?_eq_getElem h, hm]

/-- What is owned stays owned where nothing has turned that was there. -/
theorem ownsRow_below {w w' : World} {base : Nat} {e : TypeId} {size : Nat} {v : Value} {n : Nat} {xs : List Value} (h : w.ownsRow base e size v n xs) (hb : Below w.heap.size w w') : w'.ownsRow base e size v n xs := by
  obtain ⟨h1, h2⟩ := h
  refine ⟨h1, ?_⟩
  rcases h2 with h2 | ⟨g, cap, cur, hv, hg, hh, r⟩
  · exact Or.inl h2
  · have hlt : g < w.heap.size := by
      by_cases hlt : g < w.heap.size
      · exact hlt
      · rw [Array.getElem?_eq_none (by omega)] at hh; cases hh
    exact Or.inr ⟨g, cap, cur, hv, hg, by rw [hb.block g hlt]; exact hh, r⟩

theorem cellsI_set (l : List Int) (i : Nat) (x : Int) : (cellsI l).set i (.int .i64 x) = cellsI (l.set i x) := by simp [cellsI, List.map_set]

/-- The slice v holds the numbers l in the world w. -/
def RowAt (w : World) (v : Value) (l : List Int) : Prop :=
  (l = [] ∧ ∃ ao cap, v = .slice ao 0 cap) ∨ ∃ b o cap, v = .slice (some ⟨b, o, none⟩) l.length cap ∧ b < w.heap.size ∧ ∀ i, i < l.length → w.cell? ⟨b, o + i, none⟩ = some (.int .i64 (l.getD i 0))

theorem RowAt.below {w w' : World} {v : Value} {l : List Int} (h : RowAt w v l) (hb : Below w.heap.size w w') : RowAt w' v l := by
  rcases h with h | ⟨b, o, cap, hv, hlt, hc⟩
  · exact Or.inl h
  · exact Or.inr ⟨b, o, cap, hv, Nat.lt_of_lt_of_le hlt hb.size, fun i hi => by rw [hb.cell (by exact hlt)]; exact hc i hi⟩

/-- An owned row of numbers is a slice that holds them. -/
theorem RowAt.owns {w : World} {base : Nat} {e : TypeId} {v : Value} {n : Nat} {l : List Int} (h : w.ownsRow base e 1 v n (cellsI l)) : RowAt w v l := by
  have hl : l.length = n := by have := h.1; simpa [cellsI] using this
  rcases h.2 with ⟨hv, h0⟩ | ⟨g, cap, cur, hv, hg, hh, r⟩
  · exact Or.inl ⟨List.length_eq_zero_iff.1 (by omega), none, 0, by rw [hv]⟩
  · refine Or.inr ⟨g, 0, cap, by rw [hv, hl], ?_, fun i hi => ?_⟩
    · by_cases hlt : g < w.heap.size
      · exact hlt
      · rw [Array.getElem?_eq_none (by omega)] at hh; cases hh
    · subst hv
      rw [Nat.zero_add, h.cellAt i (by omega), cellsI_get l i hi]

theorem getD_eq {l : List Int} {i : Nat} (h : i < l.length) : l.getD i 0 = l[i] := by simp [List.getD, List.getElem?_eq_getElem h]

theorem list_eq_of {a b : List Int} (hl : a.length = b.length) (h : ∀ i, i < a.length → a.getD i 0 = b.getD i 0) : a = b := by
  apply List.ext_getElem hl
  intro i h1 h2
  have := h i h1
  rwa [getD_eq h1, getD_eq h2] at this

theorem Try.infoInt : (Try.prog.info? 3).map (fun i => (i.zero, i.size, i.bytes)) = some (some (.int .i64 0), 1, 8) := by kernel_rfl

theorem ownsRow_mono {w : World} {base base' : Nat} {e : TypeId} {size : Nat} {v : Value} {n : Nat} {xs : List Value} (h : w.ownsRow base e size v n xs) (hb : base' ≤ base) : w.ownsRow base' e size v n xs := by
  obtain ⟨h1, h2⟩ := h
  refine ⟨h1, ?_⟩
  rcases h2 with h2 | ⟨g, cap, cur, hv, hg, r⟩
  · exact Or.inl h2
  · exact Or.inr ⟨g, cap, cur, hv, by omega, r⟩

theorem owns_shape {w : World} {base : Nat} {e : TypeId} {size : Nat} {v : Value} {n : Nat} {xs : List Value} (h : w.ownsRow base e size v n xs) (hn : 0 < n) : ∃ g cap, v = .slice (some ⟨g, 0, none⟩) n cap ∧ base ≤ g ∧ n ≤ cap := by
  rcases h.2 with ⟨_, h0⟩ | ⟨g, cap, cur, hv, hg, hh, hnc, _⟩
  · omega
  · exact ⟨g, cap, hv, hg, hnc⟩

theorem cellsI_snoc (l : List Int) (x : Int) : cellsI l ++ [.int .i64 x] = cellsI (l ++ [x]) := by simp [cellsI]

theorem ownBlock_le {w : World} {base : Nat} {e : TypeId} {size : Nat} {v : Value} {n : Nat} {xs : List Value} (h : w.ownsRow base e size v n xs) (r : Nat) (hr : v.ownBlock = some r) : base ≤ r := (h.lt r hr).1

theorem ownBlock_ne {w : World} {base : Nat} {e : TypeId} {size : Nat} {v : Value} {n : Nat} {xs : List Value} (h : w.ownsRow base e size v n xs) (r : Nat) (hr : r < base) : v.ownBlock = none ∨ v.ownBlock ≠ some r :=
  Or.inr fun he => by have := ownBlock_le h r he; omega

/-- One value in a new block: what an append of one element asks. -/
theorem one_new (w : World) (x : Value) (T : TypeId) (b : Nat) (hb : b = w.heap.size) : ∀ j u, [x][j]? = some u → (w.alloc (.cells #[x] T)).cell? ((⟨b, 0, none⟩ : Addr).add j) = some u := by
  subst hb
  intro j u hj
  match j, hj with
  | 0, hj => simp at hj; subst hj; simp [Addr.add]

theorem one_int (k : IntKind) (x : Int) : ∀ u ∈ [Value.int k x], u.oneCell' = true := by
  intro u hu; simp at hu; subst hu; rfl

theorem owns_gen {w : World} {base : Nat} {e : TypeId} {size : Nat} {v : Value} {n : Nat} {xs : List Value} (h : w.ownsRow base e size v n xs) : ∃ ao cap, v = .slice ao n cap ∧ n ≤ cap ∧ ((ao = none ∧ n = 0 ∧ cap = 0) ∨ ∃ g, ao = some ⟨g, 0, none⟩ ∧ base ≤ g) := by
  rcases h.2 with ⟨hv, h0⟩ | ⟨g, cap, cur, hv, hg, hh, hnc, _⟩
  · exact ⟨none, 0, by rw [hv, h0], by omega, Or.inl ⟨rfl, h0, rfl⟩⟩
  · exact ⟨some ⟨g, 0, none⟩, cap, hv, hnc, Or.inr ⟨g, rfl, hg⟩⟩

theorem rowAt_take {w : World} {g n cap k : Nat} {l : List Int} (h : RowAt w (.slice (some ⟨g, 0, none⟩) n cap) l) (hl : l.length = n) (hk : k ≤ n) : RowAt w (.slice (some ⟨g, 0, none⟩) k cap) (l.take k) := by
  have hlk : (l.take k).length = k := by simp; omega
  rcases h with ⟨rfl, ao, c, hv⟩ | ⟨b, o, c, hv, hlt, hc⟩
  · have : k = 0 := by simp at hl; omega
    subst this
    exact Or.inl ⟨rfl, _, _, rfl⟩
  · simp only [Value.slice.injEq, Option.some.injEq, Addr.mk.injEq, and_true] at hv
    obtain ⟨⟨rfl, rfl⟩, _, rfl⟩ := hv
    refine Or.inr ⟨g, 0, cap, by rw [hlk], hlt, fun i hi => ?_⟩
    rw [hc i (by omega)]
    have hik : i < k := by omega
    simp [List.getD, hik]

theorem rowAt_drop {w : World} {g n cap k c' : Nat} {l : List Int} (h : RowAt w (.slice (some ⟨g, 0, none⟩) n cap) l) (hl : l.length = n) (hk : k ≤ n) : RowAt w (.slice (some ⟨g, k, none⟩) (n - k) c') (l.drop k) := by
  have hlk : (l.drop k).length = n - k := by simp; omega
  rcases h with ⟨rfl, ao, c, hv⟩ | ⟨b, o, c, hv, hlt, hc⟩
  · have : n = 0 := by simp at hl; omega
    subst this
    exact Or.inl ⟨by simp, _, _, by simp; exact ⟨rfl, rfl⟩⟩
  · simp only [Value.slice.injEq, Option.some.injEq, Addr.mk.injEq, and_true] at hv
    obtain ⟨⟨rfl, rfl⟩, _, rfl⟩ := hv
    refine Or.inr ⟨g, k, c', by rw [hlk], hlt, fun i hi => ?_⟩
    have := hc (k + i) (by omega)
    rw [Nat.zero_add] at this
    rw [this]
    simp [List.getD, List.getElem?_drop]

theorem rowAt_nil (w : World) (ao : Option Addr) (cap : Nat) : RowAt w (.slice ao 0 cap) [] := Or.inl ⟨rfl, ao, cap, rfl⟩

/-- A slice of three numbers in a block of its own. -/
theorem rowAt_three (w : World) (b cap : Nat) (x y z : Int) (hb : b < w.heap.size) (h0 : w.cell? ⟨b, 0, none⟩ = some (.int .i64 x)) (h1 : w.cell? ⟨b, 1, none⟩ = some (.int .i64 y)) (h2 : w.cell? ⟨b, 2, none⟩ = some (.int .i64 z)) :
    RowAt w (.slice (some ⟨b, 0, none⟩) 3 cap) [x, y, z] := by
  refine Or.inr ⟨b, 0, cap, rfl, hb, fun i hi => ?_⟩
  have : i = 0 ∨ i = 1 ∨ i = 2 := by simp at hi; omega
  rcases this with rfl | rfl | rfl
  · exact h0
  · exact h1
  · exact h2

theorem rowAt_new (w : World) (T : TypeId) (b cap : Nat) (x y z : Int) (hb : b = w.heap.size) : RowAt (w.alloc (.cells #[.int .i64 x, .int .i64 y, .int .i64 z] T)) (.slice (some ⟨b, 0, none⟩) 3 cap) [x, y, z] := by
  subst hb
  exact rowAt_three _ _ _ _ _ _ (by simp) (by simp) (by simp) (by simp)

theorem RowAt.drewN {w : World} {v : Value} {l : List Int} (h : RowAt w v l) (q : Nat) : RowAt (w.drewN q) v l := h

theorem below_alloc (w : World) (o : Obj) : Below w.heap.size w (w.alloc o) := (Below.refl _ _).alloc (Nat.le_refl _) o

theorem below_drewN {B : Nat} {w w' : World} (h : Below B w w') (q : Nat) : Below B w (w'.drewN q) := ⟨h.os, h.tape, h.output, h.size, h.block⟩

theorem grownBy_row {a b : World} {r : Option Nat} (h : a.grownBy b none) : a.grownBy b r := ⟨h.os, h.tape, h.output, h.size, fun k hk _ => h.block k hk (by simp)⟩

/-- Where a slice lies behind an append: where it lay, or in a new block. -/
def Moved (w : World) (v v' : Value) : Prop := v'.ownBlock = v.ownBlock ∨ ∀ g, v'.ownBlock = some g → w.heap.size ≤ g

theorem wpList_append_moved {P : Program} (w : World) {ops : Array Oper} {rest : List Oper} {o : Oper} {a : Act} {Q : Exit → Act → World → Prop}
    (hgd : o.guard = none) (s x : Operand) (t : TypeId) (hop : o.op = Op.call { callee := Callee.builtin Builtin.append, args := #[s, x], argTypes := #[t, t] })
    (base : Nat) (e : TypeId) (i : TypeInfo) (z : Value) (size bytes : Nat) (h1 : P.underlying t = some (.slice e)) (h2 : P.info? e = some i) (h3 : i.zero = some z) (h4 : i.size = size) (h5 : i.bytes = bytes) (h6 : z.cells.size = size) (h7 : 0 < size)
    (v : Value) (n : Nat) (xs : List Value) (hs : a.eval s = v) (hown : w.ownsRow base e size v n xs)
    (ad : Addr) (m c : Nat) (news : List Value) (hx : a.eval x = .slice (some ad) m c) (hn : news.length = m * size) (hc : ∀ j u, news[j]? = some u → w.cell? (ad.add j) = some u) (h1c : ∀ u ∈ news, u.oneCell' = true) (hm : 0 < m)
    (b1 : n + m ≤ maxLen) (b2 : (n + m) * bytes ≤ 140737488355328) (hbase : base ≤ w.heap.size)
    (hK : ∀ v' w', w'.ownsRow base e size v' (n + m) (xs ++ news) → w.grownBy w' v.ownBlock → Moved w v v' → wpList P ops Q rest (a.put o.dst v') w') :
    wpList P ops Q (o :: rest) a w := by
  have hown0 := hown
  rcases hown.2 with ⟨rfl, rfl⟩ | ⟨g, cap, cur, rfl, hg, hh, hnc, hcm, hcs, htk⟩
  · have hx0 : xs = [] := by have := hown.1; simpa using this
    subst hx0
    refine wpList_append_grows w hgd s x t hop e i z size bytes h1 h2 h3 h4 h5 h6 h7 none 0 0 [] hs (fun _ => ⟨rfl, rfl⟩) (by simp) (by simp) ad m c news hx hn hc h1c (by omega) b1 b2 fun v' w' ho hgr => ?_
    exact hK v' w' (ownsRow_mono ho hbase) (grownBy_row hgr) (Or.inr fun g hg => (ho.lt g hg).1)
  · by_cases hfit : n + m ≤ cap
    · refine wpList_append_fits w hgd s x t hop base e i size h1 h2 h4 g n cap xs hs hown0 ad m c news hx hn hc h1c hfit fun w' ho hgr => ?_
      exact hK _ w' ho hgr (Or.inl rfl)
    · refine wpList_append_grows w hgd s x t hop e i z size bytes h1 h2 h3 h4 h5 h6 h7 (some ⟨g, 0, none⟩) n cap xs hs (by simp) hown0.1 (fun b hb j u hj => by cases hb; exact hown0.cells rfl j u hj) ad m c news hx hn hc h1c (by omega) b1 b2 fun v' w' ho hgr => ?_
      exact hK v' w' (ownsRow_mono ho hbase) (grownBy_row hgr) (Or.inr fun g' hg' => (ho.lt g' hg').1)

end Go.Proofs.Ytnfllgeneehjjaa

/- Contracts of treasurymake's tape: New and N; a tape's numbers are any int64s; what N returns is within its bounds, and only the tape's place has turned. -/
namespace Go.Proofs.Ytnfllgeneehjjaa
open Go.RowKit Go.Lib Go.Proofs

/-- v is a slice of n int64s in the world w, all in blocks below B. -/
def IntsAt (w : World) (v : Value) (n B : Nat) : Prop :=
  ∃ (ao : Option Addr) (cap : Nat), v = .slice ao n cap ∧ n ≤ cap ∧ ∀ i, i < n → ∃ (b o : Nat) (x : Int), ao = some ⟨b, o, none⟩ ∧ b < B ∧ w.cell? ⟨b, o + i, none⟩ = some (.int .i64 x) ∧ -9223372036854775808 ≤ x ∧ x ≤ 9223372036854775807

theorem IntsAt.keep {w w' : World} {v : Value} {n B : Nat} (h : IntsAt w v n B) (hk : ∀ k, k < B → w'.heap[k]? = w.heap[k]?) : IntsAt w' v n B := by
  obtain ⟨ao, cap, hv, hc, hx⟩ := h
  refine ⟨ao, cap, hv, hc, fun i hi => ?_⟩
  obtain ⟨b, o, x, h1, h2, h3, h4⟩ := hx i hi
  exact ⟨b, o, x, h1, h2, by rw [World.cell?_of_block (w := w) (hk b h2)]; exact h3, h4⟩

theorem cell_pair {w : World} {tb : Nat} {a b : Value} {T : TypeId} (h : w.heap[tb]? = some (.cells #[a, b] T (0, 0))) : w.cell? ⟨tb, 0, none⟩ = some a ∧ w.cell? ⟨tb, 1, none⟩ = some b ∧ w.frozen? ⟨tb, 1, none⟩ = false := by
  simp [World.cell?, World.frozen?, h]

end Go.Proofs.Ytnfllgeneehjjaa

/- Contracts of treasuryplay's source: New, N, Range and Pick; its numbers are any int64s; what N returns is within its bounds, and only the source's place has turned. -/
namespace Go.Proofs.Ytnfllgeneehjjaa
open Go.RowKit Go.Lib Go.Proofs

/-- Block tb is a tape: at most 900 numbers in blocks before it, and its place among them. -/
def SrcAt (w : World) (tb : Nat) : Prop :=
  ∃ (ao : Option Addr) (n cap k : Nat), w.heap[tb]? = some (.cells #[.slice ao n cap, .int .i64 (k : Int)] 83 (0, 0)) ∧ k ≤ n ∧ n ≤ 900 ∧ IntsAt w (.slice ao n cap) n tb

theorem SrcAt.lt {w : World} {tb : Nat} (h : SrcAt w tb) : tb < w.heap.size := by
  obtain ⟨ao, n, cap, k, h1, _⟩ := h
  by_cases hlt : tb < w.heap.size
  · exact hlt
  · rw [Array.getElem?_eq_none (by omega)] at h1; cases h1

theorem SrcAt.keep {w w' : World} {tb : Nat} (h : SrcAt w tb) (hk : ∀ k, k ≤ tb → w'.heap[k]? = w.heap[k]?) : SrcAt w' tb := by
  obtain ⟨ao, n, cap, k, h1, h2, h3, h4⟩ := h
  exact ⟨ao, n, cap, k, by rw [hk tb (Nat.le_refl _)]; exact h1, h2, h3, h4.keep fun j hj => hk j (by omega)⟩

theorem SrcAt.below {w w' : World} {tb : Nat} (h : SrcAt w tb) (hb : Below w.heap.size w w') : SrcAt w' tb :=
  h.keep fun k hk => hb.block k (by have := h.lt; omega)

theorem SrcAt.grown {w w' : World} {tb : Nat} {row : Option Nat} (h : SrcAt w tb) (hg : w.grownBy w' row) (hr : ∀ r, row = some r → tb < r) : SrcAt w' tb :=
  h.keep fun k hk => hg.block k (by have := h.lt; omega) (fun e => by have := hr k e.symm; omega)

/-- What N hands back: a number from 0 to n - 1; only the tape's place has turned. -/
def SNPost (tb : Nat) (n : Int) (w : World) (e : Ending) (w' : World) : Prop := ∃ r : Int, e = .returned (.int .i64 r) ∧ 0 ≤ r ∧ r < n ∧ SrcAt w' tb ∧ w.grownBy w' (some tb)

theorem src_step {w : World} {tb n cap k : Nat} {ao : Option Addr} (h : w.heap[tb]? = some (.cells #[.slice ao n cap, .int .i64 (k : Int)] 83 (0, 0))) (hk : k < n) (hn : n ≤ 900) (hi : IntsAt w (.slice ao n cap) n tb) (q : Nat) (z : Int) (hz : z = (k + 1 : Nat)) :
    SrcAt ((w.drewN q).setCell ⟨tb, 1, none⟩ (.int .i64 z)) tb ∧ w.grownBy ((w.drewN q).setCell ⟨tb, 1, none⟩ (.int .i64 z)) (some tb) := by
  subst hz
  have hlt : tb < w.heap.size := by
    by_cases hlt : tb < w.heap.size
    · exact hlt
    · rw [Array.getElem?_eq_none (by omega)] at h; cases h
  have hsame : ((w.drewN q).setCell ⟨tb, 1, none⟩ (.int .i64 ((k + 1 : Nat) : Int))).heap[tb]? = some (.cells #[.slice ao n cap, .int .i64 ((k + 1 : Nat) : Int)] 83 (0, 0)) := by
    rw [heap_setCell_same (w.drewN q) tb 1 _ _ _ h]
    rfl
  have hother : ∀ j, j ≠ tb → ((w.drewN q).setCell ⟨tb, 1, none⟩ (.int .i64 ((k + 1 : Nat) : Int))).heap[j]? = w.heap[j]? := fun j hj => Below.heap_setCell (w.drewN q) _ _ j hj
  refine ⟨⟨ao, n, cap, k + 1, hsame, by omega, hn, hi.keep fun j hj => hother j (by omega)⟩, rfl, rfl, rfl, by simp [World.setCell, World.drewN], fun j hj hne => hother j fun e => hne (by rw [e])⟩

set_option maxHeartbeats 1000000 in
theorem sN_any (tb : Nat) (n : Int) (w : World) (ht : SrcAt w tb) (hn : 1 ≤ n) (hn1 : n ≤ 4611686018427387904) :
    Calls Try.prog 23 #[.pointer (some ⟨tb, 0, none⟩), .int .i64 n] w (SNPost tb n w) := by
  obtain ⟨ao, m, cap, k, h1, h2, h3, h4⟩ := ht
  obtain ⟨c0, c1, f1⟩ := cell_pair h1
  by_cases hlt : k < m
  · obtain ⟨ao', cap', hv, hcap, hx⟩ := h4
    obtain ⟨b, o, x, e1, e2, hc, x0, x1⟩ := hx k hlt
    have H1 := Lib.hid h1
    have H4 : Hid (IntsAt w (.slice ao m cap) m tb) := ⟨ao', cap', hv, hcap, hx⟩
    simp only [Value.slice.injEq, true_and] at hv
    obtain ⟨rfl, rfl⟩ := hv
    subst e1
    clear h1 hx
    have r1 : x.tmod n < n := by
      rcases Int.le_total 0 x with hx0 | hx0
      · exact Int.tmod_lt_of_pos _ (by omega)
      · have := Int.tmod_nonneg n (a := -x) (by omega)
        rw [Int.neg_tmod] at this
        omega
    have r2 : -n < x.tmod n := by
      have := Int.tmod_lt_of_pos (-x) (b := n) (by omega)
      rw [Int.neg_tmod] at this
      omega
    have hk0 : (0 : Int) ≤ (k : Int) := by omega
    have hk1 : (k : Int) < (m : Int) := by omega
    have hge : ¬ (m : Int) ≤ (k : Int) := by omega
    go_enter Try.func23, Try.ntmps23
    go_wp2
    go_quiet (fail)
    go_wp2
    go_quiet (fail)
    generalize x.tmod n = r at *
    have hn2 : ¬ n < 1 := by omega
    have e0 := Int.emod_nonneg r (show n ≠ 0 by omega)
    have e1 := Int.emod_lt_of_pos r (show 0 < n by omega)
    go_wp2
    go_ret
    obtain ⟨t1, t2⟩ := src_step H1.out hlt h3 H4.out _ ((k : Int) + 1) (by omega)
    exact ⟨r % n, rfl, e0, e1, t1, t2.os, t2.tape, t2.output, t2.size, t2.block⟩
  · obtain rfl : k = m := by omega
    have H1 := Lib.hid h1
    have H4 := Lib.hid h4
    clear h1 h4
    have hge : (k : Int) ≤ (k : Int) := by omega
    go_enter Try.func23, Try.ntmps23
    go_wp2
    go_quiet (fail)
    go_wp2
    go_ret
    exact ⟨0, rfl, by omega, by omega, ⟨ao, k, cap, k, H1.out, Nat.le_refl _, h3, H4.out⟩, rfl, rfl, rfl, Nat.le_refl _, fun _ _ _ => rfl⟩

set_option maxHeartbeats 1000000 in
theorem sNew_any (v : Value) (n : Nat) (w : World) (hi : IntsAt w v n w.heap.size) (hn : n ≤ 9223372036854775807) :
    Calls Try.prog 11 #[v] w fun e w' => e = .returned (.pointer (some ⟨w.heap.size, 0, none⟩)) ∧ SrcAt w' w.heap.size ∧ Below w.heap.size w w' := by
  obtain ⟨ao, cap, rfl, hcap, hx⟩ := hi
  have HX := Lib.hid hx
  clear hx
  have fin : ∀ m : Nat, m ≤ n → m ≤ 900 → SrcAt (w.alloc (.cells #[.slice ao m cap, .int .i64 0] 83)) w.heap.size ∧ Below w.heap.size w (w.alloc (.cells #[.slice ao m cap, .int .i64 0] 83)) := fun m h1 h2 => by
    refine ⟨⟨ao, m, cap, 0, heap_alloc_new w _, Nat.zero_le _, h2, ao, cap, rfl, by omega, fun i hi => ?_⟩, (Below.refl _ _).alloc (Nat.le_refl _) _⟩
    obtain ⟨b, o, x, e1, e2, e3, e4⟩ := HX.out i (by omega)
    exact ⟨b, o, x, e1, e2, by rw [World.cell?_of_block (w := w) (Below.heap_alloc w _ b e2)]; exact e3, e4⟩
  have FIN := Lib.hid fin
  clear fin
  by_cases h5 : n ≤ 900
  · have hz : (n : Int) ≤ 900 := by omega
    have hmin : min (n : Int) 900 = (n : Int) := by omega
    cases ao with
    | none =>
      go_enter Try.func11, Try.ntmps11
      go_wp2
      go_ret
      obtain ⟨f1, f2⟩ := FIN.out n (Nat.le_refl _) h5
      exact ⟨rfl, f1, f2⟩
    | some a =>
      go_enter Try.func11, Try.ntmps11
      go_wp2
      go_ret
      obtain ⟨f1, f2⟩ := FIN.out n (Nat.le_refl _) h5
      exact ⟨rfl, f1, f2⟩
  · have hz : 900 ≤ (n : Int) := by omega
    have hmin : min (n : Int) 900 = 900 := by omega
    cases ao with
    | none =>
      obtain ⟨b, o, x, e1, _⟩ := HX.out 0 (by omega)
      cases e1
    | some a =>
      go_enter Try.func11, Try.ntmps11
      go_wp2
      go_ret
      obtain ⟨f1, f2⟩ := FIN.out 900 (by omega) (by omega)
      exact ⟨rfl, f1, f2⟩

/-- What Range hands back. -/
def SRangePost (tb : Nat) (a b : Int) (w : World) (e : Ending) (w' : World) : Prop := ∃ r : Int, e = .returned (.int .i64 r) ∧ a ≤ r ∧ r ≤ b ∧ SrcAt w' tb ∧ w.grownBy w' (some tb)

set_option maxHeartbeats 1000000 in
theorem sRange_any (tb : Nat) (a b : Int) (w : World) (ht : SrcAt w tb) (hab : a ≤ b) (ha : -1000000000000000 ≤ a) (hb : b ≤ 1000000000000000) :
    Calls Try.prog 18 #[.pointer (some ⟨tb, 0, none⟩), .int .i64 a, .int .i64 b] w (SRangePost tb a b w) := by
  have HN := Lib.hid (sN_any tb (b - a + 1) w ht (by omega) (by omega))
  clear ht
  go_enter Try.func18, Try.ntmps18
  go_wp2_with fail
  refine (HN.out).mono ?_
  rintro e w' ⟨r, rfl, r0, r1, t1, g1⟩
  go_wp2
  go_ret
  exact ⟨a + r, rfl, by omega, by omega, t1, g1⟩

/-- What Pick hands back: one of the numbers of l; only the tape's place has turned. -/
def SPickPost (tb : Nat) (l : List Int) (w : World) (e : Ending) (w' : World) : Prop := ∃ x : Int, e = .returned (.int .i64 x) ∧ x ∈ l ∧ SrcAt w' tb ∧ w.grownBy w' (some tb)

set_option maxHeartbeats 1000000 in
theorem sPick_any (tb b cap : Nat) (l : List Int) (w : World) (ht : SrcAt w tb) (hb : tb < b) (hbw : b < w.heap.size) (hl : 0 < l.length) (hl1 : l.length ≤ 1000) (hc : ∀ i, i < l.length → w.cell? ⟨b, i, none⟩ = some (.int .i64 (l.getD i 0))) :
    Calls Try.prog 19 #[.pointer (some ⟨tb, 0, none⟩), .slice (some ⟨b, 0, none⟩) l.length cap] w (SPickPost tb l w) := by
  obtain ⟨m, hm⟩ : ∃ m, m = l.length := ⟨_, rfl⟩
  have hm0 : 0 < m := by omega
  have hm1 : m ≤ 1000 := by omega
  have HM := Lib.hid hm
  have HC := Lib.hid hc
  have HN := Lib.hid (sN_any tb (m : Int) w ht (by omega) (by omega))
  rw [← hm]
  clear hc hm hl hl1 ht
  go_enter Try.func19, Try.ntmps19
  go_wp2_with fail
  refine (HN.out).mono ?_
  rintro e w' ⟨r, rfl, r0, r1, t1, g1⟩
  obtain ⟨i, rfl⟩ : ∃ i : Nat, r = i := ⟨r.toNat, by omega⟩
  have hi : i < m := by omega
  obtain ⟨x, hx⟩ : ∃ x, x = l.getD i 0 := ⟨_, rfl⟩
  have hcell : w'.cell? ⟨b, i, none⟩ = some (.int .i64 x) := by
    rw [World.cell?_of_block (w := w) (g1.block b hbw (by simp; omega)), hx]
    exact HC.out i (by have := HM.out; omega)
  have HX := Lib.hid hx
  clear hx
  go_wp2
  go_ret
  exact ⟨x, rfl, by rw [HX.out, getD_eq (by have := HM.out; omega)]; exact List.getElem_mem _, t1, g1⟩

/-- Pick among numbers that lie in a new block. -/
theorem sPick_new (tb cap : Nat) (l : List Int) (cs : Array Value) (T : TypeId) (w : World) (hcs : cs.toList = cellsI l) (ht : SrcAt w tb) (hl : 0 < l.length) (hl1 : l.length ≤ 1000) (m : Nat) (hm : m = l.length) :
    Calls Try.prog 19 #[.pointer (some ⟨tb, 0, none⟩), .slice (some ⟨w.heap.size, 0, none⟩) m cap] (w.alloc (.cells cs T)) (SPickPost tb l (w.alloc (.cells cs T))) := by
  subst hm
  refine sPick_any tb w.heap.size cap l _ (ht.below ((Below.refl _ _).alloc (Nat.le_refl _) _)) ht.lt (by simp) hl hl1 fun i hi => ?_
  have h1 : (w.alloc (.cells cs T)).heap[w.heap.size]? = some (.cells cs T) := heap_alloc_new w _
  have h2 : cs[i]? = some (.int .i64 (l.getD i 0)) := by rw [← Array.getElem?_toList, hcs, cellsI_get l i hi]
  rw [cell_of_row _ _ i cs T (0, 0) h1]
  exact h2

end Go.Proofs.Ytnfllgeneehjjaa

/- Struct results of three and six cells that are stored cell by cell into their place: what lies there then, and how a function ends with it; of no function of the program; no condition. -/
namespace Go.Proofs.Ytnfllgeneehjjaa
open Go.RowKit Go.Lib Go.Proofs

theorem obj_cell {W : World} {b : Nat} {cs : Array Value} {T : TypeId} (h : W.heap[b]? = some (.cells cs T (0, 0))) (j : Nat) : W.cell? ⟨b, j, none⟩ = cs[j]? := by
  simp [World.cell?, h]
theorem obj_free {W : World} {b : Nat} {cs : Array Value} {T : TypeId} (h : W.heap[b]? = some (.cells cs T (0, 0))) (j : Nat) : W.frozen? ⟨b, j, none⟩ = false := by
  simp [World.frozen?, h]
theorem obj_set {W : World} {b : Nat} {cs : Array Value} {T : TypeId} (h : W.heap[b]? = some (.cells cs T (0, 0))) (j : Nat) (v : Value) : (W.setCell ⟨b, j, none⟩ v).heap[b]? = some (.cells (cs.setIfInBounds j v) T (0, 0)) := by
  simp [World.setCell, Array.getElem?_modify, h]
theorem obj_lt {W : World} {b : Nat} {o : Obj} (h : W.heap[b]? = some o) : b < W.heap.size := (Array.getElem?_eq_some_iff.1 h).1
theorem obj_below {A B : World} {b : Nat} {o : Obj} (h : A.heap[b]? = some o) (hb : Below A.heap.size A B) : B.heap[b]? = some o := (hb.block b (obj_lt h)).trans h

def put6 (W : World) (b : Nat) (v0 v1 v2 v3 v4 v5 : Value) : World := (((((W.setCell ⟨b, 0, none⟩ v0).setCell ⟨b, 1, none⟩ v1).setCell ⟨b, 2, none⟩ v2).setCell ⟨b, 3, none⟩ v3).setCell ⟨b, 4, none⟩ v4).setCell ⟨b, 5, none⟩ v5
theorem put6_at {W : World} {b : Nat} {cs : Array Value} {T : TypeId} (h : W.heap[b]? = some (.cells cs T (0, 0))) (hs : cs.size = 6) (v0 v1 v2 v3 v4 v5 : Value) : (put6 W b v0 v1 v2 v3 v4 v5).heap[b]? = some (.cells #[v0, v1, v2, v3, v4, v5] T (0, 0)) := by
  obtain ⟨l⟩ := cs
  match l, hs with
  | [u0, u1, u2, u3, u4, u5], _ =>
    have := obj_set (obj_set (obj_set (obj_set (obj_set (obj_set h 0 v0) 1 v1) 2 v2) 3 v3) 4 v4) 5 v5
    simp only [List.setIfInBounds_toArray, List.set_cons_zero, List.set_cons_succ] at this
    exact this
theorem put6_below {n : Nat} {w W : World} {b : Nat} (h : Below n w W) (hb : n ≤ b) (v0 v1 v2 v3 v4 v5 : Value) : Below n w (put6 W b v0 v1 v2 v3 v4 v5) := by
  unfold put6
  exact (((((h.setCell (by exact hb) _).setCell (by exact hb) _).setCell (by exact hb) _).setCell (by exact hb) _).setCell (by exact hb) _).setCell (by exact hb) _
theorem ret6 {P : Program} {fn : Func} {R : Ending → World → Prop} {fr : Act} {W : World} {b : Nat} {cs : Array Value} {T : TypeId} {v : Value} (h : W.heap[b]? = some (.cells cs T (0, 0))) (hs : cs.size = 6) (v0 v1 v2 v3 v4 v5 : Value)
    (hr : ∀ F : World, F.heap[b]? = some (.cells #[v0, v1, v2, v3, v4, v5] T (0, 0)) → (results fn fr.tmps).run P F = .ok v F) (hd : fr.defers = []) (hR : R (.returned v) (put6 W b v0 v1 v2 v3 v4 v5)) :
    bodyPost P fn R .ret fr (put6 W b v0 v1 v2 v3 v4 v5) := bodyPost_ret (hr _ (put6_at h hs v0 v1 v2 v3 v4 v5)) hd hR

def put3 (W : World) (b : Nat) (v0 v1 v2 : Value) : World := ((W.setCell ⟨b, 0, none⟩ v0).setCell ⟨b, 1, none⟩ v1).setCell ⟨b, 2, none⟩ v2
theorem put3_at {W : World} {b : Nat} {cs : Array Value} {T : TypeId} (h : W.heap[b]? = some (.cells cs T (0, 0))) (hs : cs.size = 3) (v0 v1 v2 : Value) : (put3 W b v0 v1 v2).heap[b]? = some (.cells #[v0, v1, v2] T (0, 0)) := by
  obtain ⟨l⟩ := cs
  match l, hs with
  | [u0, u1, u2], _ =>
    have := obj_set (obj_set (obj_set h 0 v0) 1 v1) 2 v2
    simp only [List.setIfInBounds_toArray, List.set_cons_zero, List.set_cons_succ] at this
    exact this
theorem put3_below {n : Nat} {w W : World} {b : Nat} (h : Below n w W) (hb : n ≤ b) (v0 v1 v2 : Value) : Below n w (put3 W b v0 v1 v2) := by
  unfold put3
  exact ((h.setCell (by exact hb) _).setCell (by exact hb) _).setCell (by exact hb) _
theorem ret3 {P : Program} {fn : Func} {R : Ending → World → Prop} {fr : Act} {W : World} {b : Nat} {cs : Array Value} {T : TypeId} {v : Value} (h : W.heap[b]? = some (.cells cs T (0, 0))) (hs : cs.size = 3) (v0 v1 v2 : Value)
    (hr : ∀ F : World, F.heap[b]? = some (.cells #[v0, v1, v2] T (0, 0)) → (results fn fr.tmps).run P F = .ok v F) (hd : fr.defers = []) (hR : R (.returned v) (put3 W b v0 v1 v2)) :
    bodyPost P fn R .ret fr (put3 W b v0 v1 v2) := bodyPost_ret (hr _ (put3_at h hs v0 v1 v2)) hd hR

theorem setCell_grown {A : World} {b : Nat} (j : Nat) (v : Value) : A.grownBy (A.setCell ⟨b, j, none⟩ v) (some b) :=
  ⟨rfl, rfl, rfl, by simp [World.setCell], fun k _ hne => Below.heap_setCell A _ _ k (by show k ≠ b; exact fun e => hne (by rw [e]))⟩
theorem grown_step {A B C : World} {r : Option Nat} (h : A.grownBy B r) (k : B.grownBy C r) : A.grownBy C r :=
  ⟨k.os.trans h.os, k.tape.trans h.tape, k.output.trans h.output, Nat.le_trans h.size k.size, fun i hi hne => (k.block i (Nat.lt_of_lt_of_le hi h.size) hne).trans (h.block i hi hne)⟩
theorem put6_grown (W : World) (b : Nat) (v0 v1 v2 v3 v4 v5 : Value) : W.grownBy (put6 W b v0 v1 v2 v3 v4 v5) (some b) := by
  unfold put6
  exact grown_step (grown_step (grown_step (grown_step (grown_step (setCell_grown _ _) (setCell_grown _ _)) (setCell_grown _ _)) (setCell_grown _ _)) (setCell_grown _ _)) (setCell_grown _ _)
theorem put3_grown (W : World) (b : Nat) (v0 v1 v2 : Value) : W.grownBy (put3 W b v0 v1 v2) (some b) := by
  unfold put3
  exact grown_step (grown_step (setCell_grown _ _) (setCell_grown _ _)) (setCell_grown _ _)
theorem retB {P : Program} {fn : Func} {R : Ending → World → Prop} {fr : Act} {W : World} {b : Nat} {cs : Array Value} {T : TypeId} {v : Value} (h : W.heap[b]? = some (.cells cs T (0, 0)))
    (hr : ∀ F : World, F.heap[b]? = some (.cells cs T (0, 0)) → (results fn fr.tmps).run P F = .ok v F) (hd : fr.defers = []) (hR : R (.returned v) W) : bodyPost P fn R .ret fr W := bodyPost_ret (hr _ h) hd hR
theorem alloc2_at (w : World) (o1 o2 : Obj) : ((w.alloc o1).alloc o2).heap[w.heap.size + 1]? = some o2 := by
  have := heap_alloc_new (w.alloc o1) o2
  rwa [World.size_alloc] at this
theorem alloc1_at (w : World) (o1 o2 : Obj) : ((w.alloc o1).alloc o2).heap[w.heap.size]? = some o1 := (Below.heap_alloc _ _ _ (by simp)).trans (heap_alloc_new w o1)
theorem below2 (w : World) (o1 o2 : Obj) : Below w.heap.size w ((w.alloc o1).alloc o2) := ((Below.refl _ _).alloc (Nat.le_refl _) _).alloc (by simp) _

end Go.Proofs.Ytnfllgeneehjjaa

/- Securities: what is asked of them, as the program's register and treasuryplay's source have it; of a security that is right alone. -/
namespace Go.Proofs.Ytnfllgeneehjjaa
open Go.RowKit Go.Lib Go.Proofs

structure Sec where
  id : Int
  unit : Int
  iss : Int
  mat : Int
  rate : Int
  ev : Int
  ix : Bool

def Sec.cells (s : Sec) : List Value := [.int .i64 s.id, .int .i64 s.unit, .int .i64 s.iss, .int .i64 s.mat, .int .i64 s.rate, .int .i64 s.ev, .bool s.ix]

/-- A security that is right: its coupons are z months apart (z is 1 without coupons), and there are r times so many months. -/
structure SecOk (s : Sec) (z r : Int) : Prop where
  id0 : 1 ≤ s.id
  id1 : s.id ≤ 1000
  unit0 : 1 ≤ s.unit
  unit1 : s.unit ≤ 1000000000
  iss0 : 0 ≤ s.iss
  iss1 : s.iss ≤ 36000
  mat1 : s.mat ≤ 35990
  r0 : 1 ≤ r
  term : s.mat = s.iss + 30 * (z * r)
  zr : z * r ≤ 600
  rate0 : 0 ≤ s.rate
  rate1 : s.rate ≤ 20000
  ev : (s.ev = 0 ∧ s.rate = 0 ∧ z = 1) ∨ (s.ev = 1 ∧ z = 1) ∨ (s.ev = 3 ∧ z = 3) ∨ (s.ev = 6 ∧ z = 6) ∨ (s.ev = 12 ∧ z = 12)

set_option maxHeartbeats 400000 in
theorem rgwithin_any (n lo hi : Int) (w : World) :
    Calls Try.prog 70 #[.int .i64 n, .int .i64 lo, .int .i64 hi] w fun e w' => e = .returned (.bool (inB n lo hi)) ∧ w = w' := by
  by_cases h1 : lo ≤ n
  · by_cases h2 : n ≤ hi
    · have h : inB n lo hi = true := inB_true.2 ⟨h1, h2⟩
      rw [h]; clear h
      go_enter Try.func70, Try.ntmps70
      go_wp2
      go_ret
      exact ⟨rfl, rfl⟩
    · have h : inB n lo hi = false := inB_false.2 (fun q => h2 q.2)
      rw [h]; clear h
      go_enter Try.func70, Try.ntmps70
      go_wp2
      go_ret
      exact ⟨rfl, rfl⟩
  · have h : inB n lo hi = false := inB_false.2 (fun q => h1 q.1)
    rw [h]; clear h
    go_enter Try.func70, Try.ntmps70
    go_wp2
    go_ret
    exact ⟨rfl, rfl⟩

theorem rgwithin_yes {n lo hi : Int} (w : World) (h1 : lo ≤ n) (h2 : n ≤ hi) :
    Calls Try.prog 70 #[.int .i64 n, .int .i64 lo, .int .i64 hi] w fun e w' => e = .returned (.bool true) ∧ w = w' := by
  have := rgwithin_any n lo hi w; rw [inB_true.2 ⟨h1, h2⟩] at this; exact this

set_option maxHeartbeats 1000000 in
theorem rgfits_ok {s : Sec} {z r : Int} (h : SecOk s z r) (t : Int) (ht : t = 30 * (z * r)) (w : World) :
    Calls Try.prog 71 #[.agg s.cells.toArray, .int .i64 t] w fun e w' => e = .returned (.bool true) ∧ Below w.heap.size w w' := by
  obtain ⟨i, u, a, m, q, e, x⟩ := s
  obtain ⟨_, _, _, _, _, _, _, hr0, _, hzr, _, _, hev⟩ := h
  simp only [Sec.cells] at *
  rcases hev with ⟨rfl, rfl, rfl⟩ | ⟨rfl, rfl⟩ | ⟨rfl, rfl⟩ | ⟨rfl, rfl⟩ | ⟨rfl, rfl⟩
  · go_enter Try.func71, Try.ntmps71
    go_wp2
    go_ret
    exact ⟨rfl, below_alloc w _⟩
  · have ht0 : 0 ≤ t := by omega
    have ht1 : t ≤ 18000 := by omega
    have hm : t % 30 = 0 := by omega
    clear ht hzr
    go_enter Try.func71, Try.ntmps71
    go_wp2
    go_ret
    exact ⟨rfl, below_alloc w _⟩
  · have ht0 : 0 ≤ t := by omega
    have ht1 : t ≤ 18000 := by omega
    have hm : t % 90 = 0 := by omega
    clear ht hzr
    go_enter Try.func71, Try.ntmps71
    go_wp2
    go_ret
    exact ⟨rfl, below_alloc w _⟩
  · have ht0 : 0 ≤ t := by omega
    have ht1 : t ≤ 18000 := by omega
    have hm : t % 180 = 0 := by omega
    clear ht hzr
    go_enter Try.func71, Try.ntmps71
    go_wp2
    go_ret
    exact ⟨rfl, below_alloc w _⟩
  · have ht0 : 0 ≤ t := by omega
    have ht1 : t ≤ 18000 := by omega
    have hm : t % 360 = 0 := by omega
    clear ht hzr
    go_enter Try.func71, Try.ntmps71
    go_wp2
    go_ret
    exact ⟨rfl, below_alloc w _⟩

set_option maxHeartbeats 2000000 in
theorem rgSecurity_ok {s : Sec} {z r : Int} (h : SecOk s z r) (w : World) :
    Calls Try.prog 34 #[.agg s.cells.toArray] w fun e w' => e = .returned (.bool true) ∧ Below w.heap.size w w' := by
  have HF := Lib.hid (fun W => rgfits_ok h (s.mat - s.iss) (by have := h.term; omega) W)
  obtain ⟨i, u, a, m, q, e, x⟩ := s
  obtain ⟨i0, i1, u0, u1, a0, a1, m1, hr0, ht, hzr, q0, q1, hev⟩ := h
  simp only [Sec.cells] at *
  have hz : 1 ≤ z * r := by
    rcases hev with ⟨_, _, rfl⟩ | ⟨_, rfl⟩ | ⟨_, rfl⟩ | ⟨_, rfl⟩ | ⟨_, rfl⟩ <;> omega
  generalize z * r = p at *
  have t0 : 30 ≤ m - a := by omega
  have t1 : m - a ≤ 18000 := by omega
  have t2 : (m - a) % 30 = 0 := by omega
  have m0 : 0 ≤ m := by omega
  have HB := Lib.hid (below_alloc w (.cells #[.int .i64 i, .int .i64 u, .int .i64 a, .int .i64 m, .int .i64 q, .int .i64 e, .bool x] 34))
  clear hev ht hzr hr0 hz
  go_enter Try.func34, Try.ntmps34
  go_wp2_with (first | (go_at_call 70; refine (rgwithin_yes _ (by omega) (by omega)).mono ?_; rintro e w' ⟨rfl, rfl⟩) | (go_at_call 71; refine (HF.out _).mono ?_; rintro e w2 ⟨rfl, hb2⟩))
  go_ret
  exact ⟨rfl, HB.out.trans (hb2.mono (by simp))⟩

end Go.Proofs.Ytnfllgeneehjjaa

/- A world within a call that has a treasuryplay source: what Pick, N and Range do to it. -/
namespace Go.Proofs.Ytnfllgeneehjjaa
open Go.RowKit Go.Lib Go.Proofs

/-- A world within a call that has a source at tb: it stands, and only its place has turned of what was there. -/
structure SI (w : World) (tb : Nat) (W : World) : Prop where
  src : SrcAt W tb
  old : w.grownBy W (some tb)
  lt : tb < w.heap.size

theorem si_start {w : World} {tb : Nat} (h : SrcAt w tb) : SI w tb w := ⟨h, ⟨rfl, rfl, rfl, Nat.le_refl _, fun _ _ _ => rfl⟩, h.lt⟩
theorem SI.below {w : World} {tb : Nat} {A B : World} (h : SI w tb A) (hb : Below A.heap.size A B) : SI w tb B :=
  ⟨h.src.below hb, grown_step h.old ⟨hb.os, hb.tape, hb.output, hb.size, fun k hk _ => hb.block k hk⟩, h.lt⟩
theorem SI.alloc {w : World} {tb : Nat} {A : World} (h : SI w tb A) (o : Obj) : SI w tb (A.alloc o) := h.below (below_alloc A o)
theorem SI.drew {w : World} {tb : Nat} {A : World} (h : SI w tb A) : SI w tb A.drew := h.below ((Below.refl _ _).drew)
theorem SI.turn {w : World} {tb : Nat} {A B : World} (h : SI w tb A) (ht : SrcAt B tb) (hg : A.grownBy B (some tb)) : SI w tb B := ⟨ht, grown_step h.old hg, h.lt⟩
theorem SI.set {w : World} {tb : Nat} {A : World} (h : SI w tb A) {b : Nat} (hb : w.heap.size ≤ b) (i : Nat) (v : Value) : SI w tb (A.setCell ⟨b, i, none⟩ v) :=
  ⟨h.src.grown (setCell_grown i v) (fun r hr => by simp at hr; have := h.lt; omega), ⟨h.old.os, h.old.tape, h.old.output, by simpa [World.setCell] using h.old.size, fun k hk hne => (Below.heap_setCell A _ _ k (by show k ≠ b; omega)).trans (h.old.block k hk hne)⟩, h.lt⟩
theorem SI.grown {w : World} {tb : Nat} {A B : World} {row : Option Nat} (h : SI w tb A) (hg : A.grownBy B row) (hr : ∀ r, row = some r → w.heap.size ≤ r) : SI w tb B :=
  ⟨h.src.grown hg (fun r e => by have := hr r e; have := h.lt; omega), ⟨hg.os.trans h.old.os, hg.tape.trans h.old.tape, hg.output.trans h.old.output, Nat.le_trans h.old.size hg.size, fun k hk hne => (hg.block k (Nat.lt_of_lt_of_le hk h.old.size) (fun e => by have := hr k e.symm; omega)).trans (h.old.block k hk hne)⟩, h.lt⟩
theorem obj_turn {A B : World} {tb b : Nat} {o : Obj} (h : A.heap[b]? = some o) (hg : A.grownBy B (some tb)) (hne : b ≠ tb) : B.heap[b]? = some o :=
  (hg.block b (obj_lt h) (by simp; omega)).trans h

theorem cell_set_other (A : World) (b i j : Nat) (v : Value) (h : i ≠ j) : (A.setCell ⟨b, i, none⟩ v).cell? ⟨b, j, none⟩ = A.cell? ⟨b, j, none⟩ := by
  unfold World.cell?
  simp only [World.setCell, Array.getElem?_modify]
  cases hh : A.heap[b]? with
  | none => simp
  | some o => cases o with
    | cells cs T d => simp [h]
    | _ => simp

/-- What Pick hands back within a call. -/
def PickIn (w : World) (tb : Nat) (l : List Int) (W : World) (e : Ending) (w' : World) : Prop := ∃ x : Int, e = .returned (.int .i64 x) ∧ x ∈ l ∧ SI w tb w' ∧ W.grownBy w' (some tb)
theorem pick_in {w : World} {tb : Nat} (cap : Nat) (l : List Int) (cs : Array Value) (T : TypeId) {W : World} (hcs : cs.toList = cellsI l) (h : SI w tb W) (hl : 0 < l.length) (hl1 : l.length ≤ 1000) (m : Nat) (hm : m = l.length) (b : Nat) (hb : b = W.heap.size) :
    Calls Try.prog 19 #[.pointer (some ⟨tb, 0, none⟩), .slice (some ⟨b, 0, none⟩) m cap] (W.alloc (.cells cs T)) (PickIn w tb l (W.alloc (.cells cs T))) := by
  subst hb
  exact (sPick_new tb cap l cs T W hcs h.src hl hl1 m hm).mono fun _ _ ⟨x, h1, h2, h3, h4⟩ => ⟨x, h1, h2, (h.alloc _).turn h3 h4, h4⟩
/-- What N hands back within a call. -/
def NIn (w : World) (tb : Nat) (n : Int) (W : World) (e : Ending) (w' : World) : Prop := ∃ r : Int, e = .returned (.int .i64 r) ∧ 0 ≤ r ∧ r < n ∧ SI w tb w' ∧ W.grownBy w' (some tb)
theorem n_in {w : World} {tb : Nat} {W : World} (h : SI w tb W) (n : Int) (hn : 1 ≤ n) (hn1 : n ≤ 4611686018427387904) : Calls Try.prog 23 #[.pointer (some ⟨tb, 0, none⟩), .int .i64 n] W (NIn w tb n W) :=
  (sN_any tb n W h.src hn hn1).mono fun _ _ ⟨r, h1, h2, h3, h4, h5⟩ => ⟨r, h1, h2, h3, h.turn h4 h5, h5⟩
/-- What Range hands back within a call. -/
def RangeIn (w : World) (tb : Nat) (a b : Int) (W : World) (e : Ending) (w' : World) : Prop := ∃ r : Int, e = .returned (.int .i64 r) ∧ a ≤ r ∧ r ≤ b ∧ SI w tb w' ∧ W.grownBy w' (some tb)
theorem range_in {w : World} {tb : Nat} {W : World} (h : SI w tb W) (a b : Int) (hab : a ≤ b) (ha : -1000000000000000 ≤ a) (hb : b ≤ 1000000000000000) :
    Calls Try.prog 18 #[.pointer (some ⟨tb, 0, none⟩), .int .i64 a, .int .i64 b] W (RangeIn w tb a b W) :=
  (sRange_any tb a b W h.src hab ha hb).mono fun _ _ ⟨r, h1, h2, h3, h4, h5⟩ => ⟨r, h1, h2, h3, h.turn h4 h5, h5⟩

end Go.Proofs.Ytnfllgeneehjjaa
